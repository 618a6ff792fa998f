import Derived.Test.YtmgkcbdlfodjmaaGreatDoorBqL
set_option maxRecDepth 100000
set_option maxHeartbeats 16000000
namespace Go.Proofs.YtmgkcbdlfodjmaaGreatDoor
open Go.RowKit
namespace Co
def fK (ps:List (Nat×Nat)) (k:Nat):Option Nat:=(ps.find? fun p=>p.1 == k).map (·.2)
theorem Zsl {ps:List (Nat×Nat)} {k j a b:Nat} (hd:ps.drop j=(a,b) :: ps.drop (j+1)) (h:fK (ps.drop j) k=fK ps k) (d:a=k):fK ps k=some b:=by
 rw [←h,hd,fK,List.find?_cons];simp [d]
theorem ZrB {ps:List (Nat×Nat)} {k j a b:Nat} (hd:ps.drop j=(a,b) :: ps.drop (j+1)) (m:fK (ps.drop j) k=fK ps k) (d:¬a=k):fK (ps.drop (j+1)) k=fK ps k:=by
 have h:(a == k)=false:=by simpa using d
 rw [←m,hd,fK,fK,List.find?_cons];simp only [h]
def ZbI (l:Ln):List (Nat×Nat):=if l.kind=1 then [] else l.sets
theorem Zjf (l:Ln):ZaX l=(ZbI l).map (·.1):=by
 unfold ZaX ZbI;split <;> rfl
theorem Zn3 {l:Ln} {j a b:Nat} (d:(ZbI l)[j]?=some (a,b)):(Zds l)[j]?=some b:=by
 unfold ZbI at d;split at d
 ·simp at d
 ·simp [Zds,d]
theorem Zoo (l:Ln):(ZbI l).length=(ZaX l).length:=by rw [Zjf,List.length_map]
theorem Zqd (l:Ln):(ZbI l).length≤l.sets.length:=by
 unfold ZbI;split <;> simp
def vI (L:List Ln) (k:Nat):List Nat→Int
 | []=>Zhx k
 | j :: r=>match (L[j]?).bind (fun l=>fK (ZbI l) k) with | some n=>(n:Int) | none=>vI L k r
theorem ZgO (d key:Nat) (af:Option Addr) (ag m:Nat) (dl:List RL) (w:World) (ay:RLinesAt w (.slice af m ag) dl) (aj:dl.length=m) (dq:m≤1001) (ax:d<m) (hb:Zcd (Zy dl)) (bq:∀ l∈Zy dl,l.sets.length≤1001) :
  Calls Tryz.prog 66 #[.slice af m ag,.int .i64 (d:Int),.int .i64 (key:Int)] w fun e w'=>e=.returned (.int .i64 (vI (Zy dl) key (d :: chI (Zy dl) m d)))∧Below w.heap.size w w':=by
 obtain ⟨dr,b8,ck,cl,cm⟩:=info_parts Zij;obtain ⟨I,Y⟩:∃ I,I=w.alloc (.cells #[.int .i64 (d:Int)] 3):=⟨_,rfl⟩;have ar:Below w.heap.size w I:=by rw [Y];exact Zc _ _
 have bo:I.ownsRow w.heap.size 3 1 (.slice (some ⟨w.heap.size,0,none⟩) 1 1) 1 (Zai [d]):=by
  rw [Y];refine ⟨rfl,.inr ⟨w.heap.size,1,#[.int .i64 (d:Int)],rfl,Yd _,ZC _ _ rfl,Yd _,?_,?_,?_⟩⟩;all_goals first | rfl | simp [maxLen] | (unfold maxLen;omega)
 have aq:=Za (Zhs d m af ag m dl I (ay.nx ar) aj dq ax (by omega) hb);have av:=ZhS (Zy dl) m d;obtain ⟨A,ai⟩:∃ A,chI (Zy dl) m d=A:=⟨_,rfl⟩;rw [ai] at aq av;rw [ai];have X:Hid (I=w.alloc (.cells #[.int .i64 (d:Int)] 3)∧Below w.heap.size w I∧I.ownsRow w.heap.size 3 1 (.slice (some ⟨w.heap.size,0,none⟩) 1 1) 1 (Zai [d])∧I.heap.size=w.heap.size+1):=⟨Y,ar,bo,by rw [Y];simp⟩;have U:Hid (RLinesAt w (.slice af m ag) dl∧dl.length=m∧(∀ l∈Zy dl,l.sets.length≤1001)∧∀ j∈d :: A,j<m):=⟨ay,aj,bq,by
  intro j bi;rcases List.mem_cons.1 bi with h | h
  ·rw [h];exact ax
  ·have:=Zo3 hb m d j (by rw [ai];exact h);rw [Zby,aj] at this;exact this⟩
 have bz:=Za (Zof key);clear ay aj hb bq Y ar bo ai ax;obtain ⟨Q,hR⟩:∃ Q,vI (Zy dl) key (d :: A)=Q:=⟨_,rfl⟩;rw [hR];have HR:=Za hR;clear hR;go_enter Tryz.func66,Tryz.ntmps66
 go_upto_region 2 with fail
 rw [←X.out.1];go_cut [7] (fun v wc=>∃ (ae:Option Addr) (dm vc:Nat),v=.slice ae dm vc∧dm≤1002∧Hid (RowAt wc (.slice ae dm vc) dm (Zai (d :: A))∧(d :: A).length=dm∧Below w.heap.size w wc))
 case first =>
  go_wp2_with fail
  refine aq.out.mono ?_;rintro e bv ⟨co,cc,rfl,al,L⟩;obtain ⟨q,ab⟩:∃ q,A.length=q:=⟨_,rfl⟩;rw [ab] at al av ⊢;have ak:=Zx X.out.2.2.1 L;have hB:w.heap.size≤bv.heap.size:=Ym X.out.2.1.size L.size;have au:=Zb X.out.2.1 L;rcases al.2 with ⟨N,ci⟩ | ⟨g,b0,cs,N,cx,aw,_⟩
  ·have bp:q=0:=by simp only [Value.slice.injEq] at N;omega
   have HC:Hid (A=[]):=List.eq_nil_of_length_eq_zero (by rw [ab,bp]);rw [N];clear ab al N ci bp;go_wp2_with fail
   go_meet
   exact ⟨_,1,1,rfl,by omega,by rw [HC.out];exact Zf ak,by rw [HC.out];rfl,au⟩
  ·have bg:=al.cells (g:=g) (by rw [N];rfl);rw [N];have br:=N;simp only [Value.slice.injEq] at br;have HQ:=Za ab;clear ab aw br N;go_wp2_with (at_builtin;refine wpList_append_own _ rfl (.tmp 13) (.tmp 18) 125 rfl w.heap.size 3 dr _ 1 8 Tryz.underlying125 b8 ck cl cm rfl (by decide) _ _ _ rfl ak ⟨g,0,none⟩ q b0 (Zai A) rfl (by rw [Zp3,HQ.out];omega) bg (by intro u ce;obtain ⟨x,_,rfl⟩:=List.mem_map.1 ce;rfl) (by unfold maxLen;omega) (by omega) hB ?next)
   case next =>
    intro v' bw a0 bh _;obtain ⟨bu,bt,cf,_⟩:=Zf a0;subst cf;have E:Hid (RowAt bw (.slice bu (1+q) bt) (1+q) (Zai (d :: A))∧(d :: A).length=1+q∧Below w.heap.size w bw):=
     ⟨Zf a0,by simp [HQ.out];omega,au.grown bh hB (fun g aw=>(ak.lt g aw).1)⟩
    clear a0 bh ak au bg;go_wp2_with fail
    go_meet
    exact ⟨bu,1+q,bt,rfl,by omega,E.out⟩
 case rest =>
  obtain ⟨ae,dm,vc,rfl,de,V⟩:=hcut;obtain ⟨J,bf⟩:∃ J,d :: A=J:=⟨_,rfl⟩;rw [bf] at V HR U;clear bf aq X av;go_wp2_with fail
  go_loopw [8] (fun c wr=>∃ (k:Nat),k≤dm∧c=.int .i64 k∧Hid (vI (Zy dl) key (J.drop k)=Q)∧Hid (Below w.heap.size w wr∧RowAt wr (.slice ae dm vc) dm (Zai J))) (fun c _=>dm - (intOf c).toNat)
  case atStart=>exact ⟨0,Ye _,rfl,HR.out,V.out.2.2,V.out.1⟩
  case round =>
   obtain ⟨k,dc,rfl,HS,R⟩:=hrel;by_cases cb:k<dm
   ·obtain ⟨a,ah⟩:∃ a,J[k]?=some a:=⟨_,Yb (by rw [V.out.2.1];exact cb)⟩;obtain ⟨bl,off,cg,cy,b7⟩:=ZcE R.out.2 ah;have b1:a<m:=U.out.2.2.2 a (Yo ah);obtain ⟨⟨l,df,dk⟩,am⟩:∃ p,dl[a]?=some p:=⟨_,Yb (by rw [U.out.2.1];exact b1)⟩;obtain ⟨cp,dh,a8,a7,bc,a9,b6,cz,_,_,ac,a1,be,c1,c2,c3,c4,c5⟩:=(U.out.1.nx R.out.1).at am;have cd:l.sets.length≤1001:=U.out.2.2.1 _ (Yo (Zci am));have HD:Hid (vI (Zy dl) key (J.drop k)=match fK (ZbI l) key with | some n=>(n:Int) | none=>vI (Zy dl) key (J.drop (k+1))):=by
     show _=_;rw [Zas ah,vI,Zci am];rfl
    obtain ⟨ps,hps⟩:∃ ps,ZbI l=ps:=⟨_,rfl⟩;rw [hps] at HD;have bj:(ZaX l).length=ps.length:=by rw [←hps,Zoo]
    have bk:ps.length≤l.sets.length:=by rw [←hps];exact Zqd l
    rw [bj] at ac c3;rw [Zjf,hps] at ac;obtain ⟨np,az⟩:∃ np,ps.length=np:=⟨_,rfl⟩;obtain ⟨O,bm⟩:∃ O,l.sets.length=O:=⟨_,rfl⟩;rw [az] at ac c3 bk;rw [bm] at a1 c4 bk cd;have dd:(k:Int)<(dm:Int):=by omega
    have cw:(a:Int)<(m:Int):=by omega
    obtain ⟨ap,dp⟩:∃ ap,kwK l.kind=ap:=⟨_,rfl⟩;rw [dp] at be;obtain ⟨D,aa⟩:∃ D,D=wr.alloc (bRL ap l.name l.frm a8 np a7 bc O a9 (l.place:Int)):=⟨_,rfl⟩;have L:Below wr.heap.size wr D:=by rw [aa];exact Zc _ _
    have M:Hid (RowAt D (.slice a8 np a7) np (Zai (ps.map (·.1)))∧RowAt D (.slice bc O a9) O (Zai (Zds l))∧ps.length=np∧ZbI l=ps∧Below w.heap.size w D∧RowAt D (.slice ae dm vc) dm (Zai J)):=
     ⟨ac.nx L,a1.nx L,az,hps,Zb R.out.1 L,R.out.2.nx L⟩
    have bx:Hid (D=wr.alloc (bRL ap l.name l.frm a8 np a7 bc O a9 (l.place:Int))):=aa;obtain ⟨ct,cu,e2,e3,e4,e5,cv⟩:=Zdk (Yh D.heap.size D) (g:=wr.heap.size) (by rw [aa];simp) (by rw [aa];exact ZC _ _ rfl);subst cg b6;clear ah am ac a1 hps bj az bm dp L aa;go_wp2_with fail
    rw [←bx.out];clear be c1 c2 c3 c4 c5 b7;go_loop [10] (fun a6=>∃ (j:Nat),j≤np∧a6=.int .i64 j∧Hid (fK (ps.drop j) key=fK ps key)) (fun a6=>np - (intOf a6).toNat)
    case atStart=>exact ⟨0,Ye _,rfl,rfl⟩
    case round =>
     obtain ⟨j,bi,rfl,HJ⟩:=hrel;by_cases b9:j<np
     ·obtain ⟨⟨x,y⟩,ao⟩:∃ p,ps[j]?=some p:=⟨_,Yb (by rw [M.out.2.2.1];exact b9)⟩;obtain ⟨cq,di,ca,c0,c7⟩:=ZcE M.out.1 (show (ps.map (·.1))[j]?=some x by simp [ao]);obtain ⟨cr,dj,ch,c6,c8⟩:=ZcE M.out.2.1 (Zn3 (show (ZbI l)[j]?=some (x,y) by rw [M.out.2.2.2.1];exact ao));have bd:Hid (ps.drop j=(x,y) :: ps.drop (j+1)):=Zas ao;have c9:(j:Int)<(np:Int):=by omega
      have db:(j:Int)<(O:Int):=by omega
      subst ca ch;clear ao;by_cases ad:x=key
      ·have cj:((x:Int) == (key:Int))=true:=by simp [ad]
       have E:Hid ((y:Int)=Q):=by
        show _=_;rw [←HS.out,HD.out,Zsl bd.out HJ.out ad]
       clear ad;go_wp2_with fail
       go_ret
       exact ⟨Zaj E.out,M.out.2.2.2.2.1⟩
      ·have cj:((x:Int) == (key:Int))=false:=by simp;omega
       have E:=Za (ZrB bd.out HJ.out ad);clear ad;go_wp2_with fail
       go_round
       case rel=>exact ⟨j+1,by omega,by go_num,E.out⟩
       case measure=>simp [intOf];omega
     ·have E:Hid (vI (Zy dl) key (J.drop (k+1))=Q):=by
       show _=_;have e:fK ps key=none:=by
        rw [←HJ.out,List.drop_of_length_le (by rw [M.out.2.2.1];omega)];rfl
       rw [←HS.out,HD.out,e]
      go_wp2_with fail
      go_roundw
      case rel=>exact ⟨k+1,by omega,by go_num,E.out,M.out.2.2.2.2.1,M.out.2.2.2.2.2⟩
      case measure=>simp [intOf];omega
   ·have E:Hid (Zhx key=Q):=by
     show _=_;rw [←HS.out,List.drop_of_length_le (by rw [V.out.2.1];omega)];rfl
    have HB:Hid (Below w.heap.size w wr):=R.out.1;go_wp2_with fail
    refine (bz.out _).mono ?_;rintro e bv ⟨rfl,bs⟩;rw [bs];clear bs;go_wp2_with fail
    go_ret
    exact ⟨Zaj E.out,HB.out⟩
def Zbf (L:List Ln) (f most:Nat):Nat→List Ln→Option Nat
 | _,[]=>none
 | k,l :: r=>if most<(chI L f k).length then some l.place else Zbf L f most (k+1) r
def Zcf (L:List Ln):Nat×Nat:=
 match noC L L with
 | some k=>(6,k)
 | none=>match Zbf L (L.length+1) L.length 0 L with
  | some k=>(7,k)
  | none=>match Zbf L L.length 3 0 L with
   | some k=>(8,k)
   | none=>(0,0)
theorem Zpo (V:Option Addr) (Y n:Nat) (D:List RL) (w:World) (aq:RLinesAt w (.slice V n Y) D) (ai:D.length=n) (aj:n≤1001) :
  Calls Tryz.prog 65 #[.slice V n Y] w fun e w'=>e=.returned (.tuple #[.int .i64 (Zcf (Zy D)).1,.int .i64 (Zcf (Zy D)).2])∧Below w.heap.size w w':=by
 obtain ⟨d,hL⟩:∃ d,Zy D=d:=⟨_,rfl⟩;have h:Hid (RLinesAt w (.slice V n Y) D∧D.length=n∧Zy D=d∧d.length=n):=⟨aq,ai,hL,by rw [←hL,Zby,ai]⟩;rw [hL];clear aq ai hL;go_enter Tryz.func65,Tryz.ntmps65
 go_wp2_with fail
 go_loop [4] (fun i=>∃ (k:Nat),k≤n∧i=.int .i64 k∧Hid (noC d (d.drop k)=noC d d)) (fun i=>n - (intOf i).toNat)
 case atStart=>exact ⟨0,Ye _,rfl,rfl⟩
 case round =>
  obtain ⟨k,ap,rfl,A⟩:=hrel;by_cases Q:k<n
  ·obtain ⟨⟨l,ax,az⟩,E⟩:∃ p,D[k]?=some p:=⟨_,Yb (by rw [h.out.2.1];exact Q)⟩;obtain ⟨X,off,aw,av,ay,vc,ac,ag,_,_,_,_,aa,c1,c2,c3,c4,c5⟩:=h.out.1.at E;have I:=Zci E;rw [h.out.2.2.1] at I;have J:Hid (d.drop k=l :: d.drop (k+1)):=Zas I;have ar:(k:Int)<(n:Int):=by omega
   have U:=Za (Znq l.frm V Y n D w h.out.1 h.out.2.1 aj);rw [h.out.2.2.1] at U;subst ac;clear E I aa c1 c3 c4;cases ah:l.frm.toList.isEmpty
   ·rcases ZjJ d 2 l.frm 0 with ⟨ab,af⟩ | ⟨j,l',ab,a7,af⟩
    ·have m:Hid (Zcf d=(6,l.place)):=by
      have e:noC d d=some l.place:=by rw [←A.out,J.out,noC,baC,ah,ab];rfl
      show _=_;rw [Zcf,e]
     rw [af] at U;clear ab af;go_wp2_with fail
     refine U.out.mono ?_;rintro e R ⟨rfl,ae⟩;rw [ae];clear ae;go_wp2_with fail
     go_quiet (fail)
     go_wp2_with fail
     go_ret2
     exact ⟨Zee (by rw [m.out];rfl) (by rw [m.out]),below_drewN (Yh _ _) _⟩
    ·have m:Hid (noC d (d.drop (k+1))=noC d d):=by
      show _=_;rw [←A.out,J.out,noC,baC,ah,ab];rfl
     rw [af] at U;obtain ⟨ak,ao⟩:∃ ak,0+j=ak:=⟨_,rfl⟩;rw [ao] at U;have a9:¬(ak:Int)<0:=by omega
     clear ab af a7 ao;go_wp2_with fail
     refine U.out.mono ?_;rintro e R ⟨rfl,ae⟩;rw [ae];clear ae;go_wp2_with fail
     go_round
     case rel=>exact ⟨k+1,by omega,by go_num,m.out⟩
     case measure=>simp [intOf];omega
   ·have m:Hid (noC d (d.drop (k+1))=noC d d):=by
     show _=_;rw [←A.out,J.out,noC,baC,ah];rfl
    go_wp2_with fail
    go_round
    case rel=>exact ⟨k+1,by omega,by go_num,m.out⟩
    case measure=>simp [intOf];omega
  ·have HN:Hid (noC d d=none∧Zcd d):=by
    have e:noC d d=none:=by rw [←A.out,List.drop_of_length_le (by rw [h.out.2.2.2];omega)];rfl
    exact ⟨e,ZhI d d e⟩
   have HE:Hid (Zcf d=match Zbf d (n+1) n 0 d with
     | some k=>(7,k)
     | none=>match Zbf d n 3 0 d with
      | some k=>(8,k)
      | none=>(0,0)):=by
    show _=_;rw [Zcf,HN.out.1,h.out.2.2.2]
   clear A;go_wp2_with fail
   go_loopw [6] (fun i wr=>∃ (k:Nat),k≤n∧i=.int .i64 k∧Hid (Zbf d (n+1) n k (d.drop k)=Zbf d (n+1) n 0 d)∧Below w.heap.size w wr) (fun i _=>n - (intOf i).toNat)
   case atStart=>exact ⟨0,Ye _,rfl,rfl,Yh _ _⟩
   case round =>
    obtain ⟨k,ap,rfl,A,bc⟩:=hrel;by_cases Q:k<n
    ·obtain ⟨⟨l,ax,az⟩,E⟩:∃ p,D[k]?=some p:=⟨_,Yb (by rw [h.out.2.1];exact Q)⟩;obtain ⟨X,off,aw,av,ay,vc,ac,ag,_,_,_,_,aa,c1,c2,c3,c4,c5⟩:=(h.out.1.nx bc).at E;have I:=Zci E;rw [h.out.2.2.1] at I;have J:Hid (d.drop k=l :: d.drop (k+1)):=Zas I;have ar:(k:Int)<(n:Int):=by omega
     have N:=Za (Zhs k (n+1) V Y n D wr (h.out.1.nx bc) h.out.2.1 aj Q (by omega) (by rw [h.out.2.2.1];exact HN.out.2));rw [h.out.2.2.1] at N;have am:((n+1:Nat):Int)=(n:Int)+1:=by omega
     rw [am] at N;obtain ⟨q,M⟩:∃ q,(chI d (n+1) k).length=q:=⟨_,rfl⟩;have a8:q≤n+1:=by rw [←M];exact ZhS _ _ _
     rw [M] at N;have HQ:=Za M;subst ac;clear E I aa c1 c2 c3 c4 am M;go_wp2_with fail
     refine N.out.mono ?_;rintro e R ⟨a6,a1,rfl,_,L⟩;have d5:R.cell? ⟨X,off+k*6+5,none⟩=some (.int .i64 (l.place:Int)):=(L.cell (p:=⟨X,off+k*6+5,none⟩) ag).trans c5;have O:Hid (Below w.heap.size w R):=Zb bc L;by_cases ad:n<q
     ·have m:Hid (Zcf d=(7,l.place)):=by
       have e:Zbf d (n+1) n 0 d=some l.place:=by rw [←A.out,J.out,Zbf,HQ.out,if_pos ad]
       show _=_;rw [HE.out,e]
      clear L bc c5;go_wp2_with fail
      go_quiet (fail)
      go_wp2_with fail
      go_ret2
      exact ⟨Zee (by rw [m.out];rfl) (by rw [m.out]),below_drewN O.out _⟩
     ·have m:Hid (Zbf d (n+1) n (k+1) (d.drop (k+1))=Zbf d (n+1) n 0 d):=by
       show _=_;rw [←A.out,J.out,Zbf,HQ.out,if_neg ad]
      have au:¬(n:Int)<(q:Int):=by omega
      clear L bc c5;go_wp2_with fail
      go_roundw
      case rel=>exact ⟨k+1,by omega,by go_num,m.out,O.out⟩
      case measure=>simp [intOf];omega
    ·have al:Hid (Zcf d=match Zbf d n 3 0 d with
       | some k=>(8,k)
       | none=>(0,0)):=by
      have e:Zbf d (n+1) n 0 d=none:=by rw [←A.out,List.drop_of_length_le (by rw [h.out.2.2.2];omega)];rfl
      show _=_;rw [HE.out,e]
     have a0:=Za bc;clear A bc HE;go_wp2_with fail
     go_loopw [8] (fun i wr=>∃ (k:Nat),k≤n∧i=.int .i64 k∧Hid (Zbf d n 3 k (d.drop k)=Zbf d n 3 0 d)∧Below w.heap.size w wr) (fun i _=>n - (intOf i).toNat)
     case atStart=>exact ⟨0,Ye _,rfl,rfl,a0.out⟩
     case round =>
      obtain ⟨k,ap,rfl,A,bc⟩:=hrel;by_cases Q:k<n
      ·obtain ⟨⟨l,ax,az⟩,E⟩:∃ p,D[k]?=some p:=⟨_,Yb (by rw [h.out.2.1];exact Q)⟩;obtain ⟨X,off,aw,av,ay,vc,ac,ag,_,_,_,_,aa,c1,c2,c3,c4,c5⟩:=(h.out.1.nx bc).at E;have I:=Zci E;rw [h.out.2.2.1] at I;have J:Hid (d.drop k=l :: d.drop (k+1)):=Zas I;have ar:(k:Int)<(n:Int):=by omega
       have N:=Za (Zhs k n V Y n D wr (h.out.1.nx bc) h.out.2.1 aj Q (by omega) (by rw [h.out.2.2.1];exact HN.out.2));rw [h.out.2.2.1] at N;obtain ⟨q,M⟩:∃ q,(chI d n k).length=q:=⟨_,rfl⟩;have a8:q≤n:=by rw [←M];exact ZhS _ _ _
       rw [M] at N;have HQ:=Za M;subst ac;clear E I aa c1 c2 c3 c4 M;go_wp2_with fail
       refine N.out.mono ?_;rintro e R ⟨a6,a1,rfl,_,L⟩;have d5:R.cell? ⟨X,off+k*6+5,none⟩=some (.int .i64 (l.place:Int)):=(L.cell (p:=⟨X,off+k*6+5,none⟩) ag).trans c5;have O:Hid (Below w.heap.size w R):=Zb bc L;by_cases ad:3<q
       ·have m:Hid (Zcf d=(8,l.place)):=by
         have e:Zbf d n 3 0 d=some l.place:=by rw [←A.out,J.out,Zbf,HQ.out,if_pos ad]
         show _=_;rw [al.out,e]
        have au:(3:Int)<(q:Int):=by omega
        clear L bc c5;go_wp2_with fail
        go_quiet (fail)
        go_wp2_with fail
        go_ret2
        exact ⟨Zee (by rw [m.out];rfl) (by rw [m.out]),below_drewN O.out _⟩
       ·have m:Hid (Zbf d n 3 (k+1) (d.drop (k+1))=Zbf d n 3 0 d):=by
         show _=_;rw [←A.out,J.out,Zbf,HQ.out,if_neg ad]
        have au:¬(3:Int)<(q:Int):=by omega
        clear L bc c5;go_wp2_with fail
        go_roundw
        case rel=>exact ⟨k+1,by omega,by go_num,m.out,O.out⟩
        case measure=>simp [intOf];omega
      ·have m:Hid (Zcf d=(0,0)):=by
        have e:Zbf d n 3 0 d=none:=by rw [←A.out,List.drop_of_length_le (by rw [h.out.2.2.2];omega)];rfl
        show _=_;rw [al.out,e]
       have O:=Za bc;clear bc;go_wp2_with fail
       go_ret2
       exact ⟨Zee (by rw [m.out];rfl) (by rw [m.out];rfl),O.out⟩
theorem Zdx {d:List Ln} {f:Nat} {nm:ByteArray} (h:Zbj d 2 nm=none):chC d f nm=[]:=by
 cases f with
 | zero=>rfl
 | succ f=>rw [chC,h]
theorem Zdy {d:List Ln} {f:Nat} {nm:ByteArray} {p:Ln} (h:Zbj d 2 nm=some p):chC d (f+1) nm=p :: chC d f p.frm:=by rw [chC,h]
theorem Zil (d:List Ln):∀ (f f2:Nat) (nm:ByteArray),f≤f2→chC d f nm=(chC d f2 nm).take f
 | 0,f2,nm,_=>by simp [chC]
 | f+1,0,nm,h=>by omega
 | f+1,f2+1,nm,h=>by
  cases m:Zbj d 2 nm with
  | none=>rw [Zdx m,Zdx m];rfl
  | some p=>rw [Zdy m,Zdy m,Zil d f f2 p.frm (by omega)];rfl
theorem ZlO (d:List Ln) {f f2:Nat} (nm:ByteArray) (h:f≤f2):(chC d f nm).length≤(chC d f2 nm).length:=by
 rw [Zil d f f2 nm h];simp;omega
theorem ZdL (d:List Ln):∀ (f f2:Nat) (nm:ByteArray),(chC d f nm).length<f→f≤f2→chC d f2 nm=chC d f nm
 | 0,f2,nm,h,_=>by omega
 | f+1,0,nm,_,h=>by omega
 | f+1,f2+1,nm,h,q=>by
  cases m:Zbj d 2 nm with
  | none=>rw [Zdx m,Zdx m]
  | some p =>
   rw [Zdy m] at h ⊢;rw [Zdy m,ZdL d f f2 p.frm (by simpa using h) (by omega)]
theorem ZeT (h:List Ln):∀ (f:Nat) (nm:ByteArray),∀ p∈chC h f nm,p∈h.filter (fun l=>l.kind == 2)
 | 0,_,p,d=>by simp [chC] at d
 | f+1,nm,p,d=>by
  cases m:Zbj h 2 nm with
  | none=>rw [Zdx m] at d;simp at d
  | some q =>
   rw [Zdy m] at d;rcases List.mem_cons.1 d with d | d
   ·subst d;have A:=List.mem_of_find?_eq_some m;have D:=List.find?_some m;simp only [Bool.and_eq_true] at D;exact List.mem_filter.2 ⟨A,D.1⟩
   ·exact ZeT h f q.frm p d
theorem Zke (d:List Ln) (J:Nat):∀ (f:Nat) (nm:ByteArray),f≤J→(chC d f nm).length<f →
  (chC d f nm).Pairwise (fun a b=>(chC d J b.frm).length<(chC d J a.frm).length)∧∀ x∈chC d f nm,(chC d J x.frm).length<(chC d f nm).length
 | 0,nm,_,h=>by omega
 | f+1,nm,I,h=>by
  cases q:Zbj d 2 nm with
  | none=>rw [Zdx q];simp
  | some p =>
   rw [Zdy q] at h ⊢;have A:(chC d f p.frm).length<f:=by simpa using h
   obtain ⟨E,D⟩:=Zke d J f p.frm (by omega) A;have e:chC d J p.frm=chC d f p.frm:=ZdL d f J p.frm A (by omega);refine ⟨List.pairwise_cons.2 ⟨fun x m=>by rw [e];exact D x m,E⟩,fun x m=>?_⟩;rcases List.mem_cons.1 m with h | h
   ·rw [h,e];simp
   ·have:=D x h;simp;omega
theorem Zp7 {α:Type}:∀ (l B:List α),l.Pairwise (fun a b=>a≠b)→(∀ x∈l,x∈B)→l.length≤B.length:=by
 classical
 intro l;induction l with
 | nil=>intro B _ _;simp
 | cons a r ih =>
  intro B D h;obtain ⟨q,A⟩:=List.pairwise_cons.1 D;have d:a∈B:=h a List.mem_cons_self;have:=ih (B.erase a) A (fun x m=>(List.mem_erase_of_ne (fun e=>q x m e.symm)).2 (h x (List.mem_cons_of_mem _ m)));rw [List.length_erase_of_mem d] at this;have E:0<B.length:=List.length_pos_of_mem d;simp;omega
theorem Zih (d:List Ln) (f:Nat) (nm:ByteArray) (h:(chC d f nm).length<f):(chC d f nm).length≤ZaC d 2:=by
 refine Zp7 _ (d.filter fun l=>l.kind == 2) ?_ (ZeT d f nm);refine (Zke d f f nm (Yd _) h).1.imp ?_;intro a b m e;rw [e] at m;omega
theorem ZpE (d:List Ln):ZaC d 2≤d.length:=Yp _ _
theorem Zmz (d:List Ln) (D:ZaC d 2≤6) (nm:ByteArray):6<(chC d 7 nm).length↔d.length<(chC d (d.length+1) nm).length:=by
 have E:=ZpE d;constructor
 ·intro h;by_cases I:(chC d (d.length+1) nm).length<d.length+1
  ·have A:=Zih d _ nm I;have m:chC d (max 7 (d.length+1)) nm=chC d (d.length+1) nm:=ZdL d _ _ nm I (by omega);have q:=ZlO d (f:=7) (f2:=max 7 (d.length+1)) nm (by omega);rw [m] at q;omega
  ·omega
 ·intro h;by_cases I:(chC d 7 nm).length<7
  ·have A:=Zih d _ nm I;have m:chC d (max 7 (d.length+1)) nm=chC d 7 nm:=ZdL d _ _ nm I (by omega);have q:=ZlO d (f:=d.length+1) (f2:=max 7 (d.length+1)) nm (by omega);rw [m] at q;omega
  ·omega
theorem ZlI (d:List Ln) (nm:ByteArray) (h:¬6<(chC d 7 nm).length):chC d d.length nm=chC d 7 nm:=by
 have q:=ZpE d;have m:=Zih d 7 nm (by omega);by_cases A:7≤d.length
 ·exact ZdL d _ _ nm (by omega) A
 ·rw [Zil d d.length 7 nm (by omega)];exact Yj (by omega)
def NmB (L:List Ln):Prop:=∀ l∈L,l.kind=2→ZW l.name=true
theorem ZnI {m:List Ln} (I:NmB m) {nm:ByteArray} (D:nm.toList.isEmpty=true):Zbj m 2 nm=none:=by
 unfold Zbj;rw [List.find?_eq_none];intro l E h;simp only [Bool.and_eq_true,beq_iff_eq] at h;have A:=I l E h.1;have d:=Zic l.name A;have e:l.name.toList=[]:=by
  rw [h.2];simpa using D
 unfold lt at d;rw [e] at d;have q:(ByteArray.mk #[]).toList=[]:=ByteArray.toList_mk [];rw [q] at d;simp [Op.bytesLess] at d
theorem ZjS {d:List Ln} (hb:Zcd d) (A:NmB d):∀ (f k:Nat) (l:Ln),d[k]?=some l→(chI d f k).map (fun j=>d[j]?)=(chC d f l.frm).map some
 | 0,_,_,_=>by simp [chI,chC]
 | f+1,k,l,m=>by
  cases h:l.frm.toList.isEmpty
  ·obtain ⟨j,l',D,q,E,_⟩:=ZjE hb m h;rw [Zl4 m h E,Zdy D,List.map_cons,List.map_cons,q,ZjS hb A f j l' q]
  ·rw [Zis m h,Zdx (ZnI A h)];rfl
theorem ZiE {d:List Ln} (hb:Zcd d) (m:NmB d) {f k:Nat} {l:Ln} (h:d[k]?=some l):(chI d f k).length=(chC d f l.frm).length:=by
 have:=congrArg List.length (ZjS hb m f k l h);simpa using this
theorem Zlp {d:List Ln} (hb:Zcd d) (I:NmB d) (D:ZaC d 2≤6) (J:∀ l∈d,0<l.place):∀ (m:List Ln) (k:Nat),d.drop k=m →
  (∀ p,Zbf d (d.length+1) d.length k m=some p→Zd3 d 6 m=p∧0<p)∧(Zbf d (d.length+1) d.length k m=none→Zd3 d 6 m=0∧∀ l∈m,¬6<(chC d 7 l.frm).length)
 | [],k,_=>⟨by simp [Zbf],fun _=>⟨rfl,by simp⟩⟩
 | l :: r,k,hd=>by
  have A:d[k]?=some l:=by
   have:=congrArg (fun x=>x[0]?) hd;simpa using this
  have M:d.drop (k+1)=r:=by
   have:=Zas A;rw [hd] at this;simpa using this.symm
  obtain ⟨O,L⟩:=Zlp hb I D J r (k+1) M;rw [Zbf,Zd3,ZiE hb I A];have E:=Zmz d D l.frm;by_cases q:6<(chC d 7 l.frm).length
  ·rw [if_pos (E.1 q),if_pos q];refine ⟨fun p h=>?_,fun h=>by cases h⟩;cases h;exact ⟨rfl,J l (Yo A)⟩
  ·rw [if_neg (fun h=>q (E.2 h)),if_neg q];refine ⟨O,fun h=>⟨(L h).1,fun x N=>?_⟩⟩;rcases List.mem_cons.1 N with e | e
   ·rw [e];exact q
   ·exact (L h).2 x e
theorem Zmq {d:List Ln} (hb:Zcd d) (D:NmB d) (E:∀ l∈d,0<l.place) (A:∀ l∈d,¬6<(chC d 7 l.frm).length):∀ (M:List Ln) (k:Nat),d.drop k=M →
  (∀ p,Zbf d d.length 3 k M=some p→Zd3 d 3 M=p∧0<p)∧(Zbf d d.length 3 k M=none→Zd3 d 3 M=0)
 | [],k,_=>⟨by simp [Zbf],fun _=>rfl⟩
 | l :: r,k,hd=>by
  have m:d[k]?=some l:=by
   have:=congrArg (fun x=>x[0]?) hd;simpa using this
  have I:d.drop (k+1)=r:=by
   have:=Zas m;rw [hd] at this;simpa using this.symm
  obtain ⟨J,L⟩:=Zmq hb D E A r (k+1) I;rw [Zbf,Zd3,ZiE hb D m,ZlI d l.frm (A l (Yo m))];by_cases q:3<(chC d 7 l.frm).length
  ·rw [if_pos q,if_pos q];refine ⟨fun p h=>?_,fun h=>by cases h⟩;cases h;exact ⟨rfl,E l (Yo m)⟩
  ·rw [if_neg q,if_neg q];exact ⟨J,L⟩
theorem Zti {d:List Ln} (D:NmB d) (L:ZaC d 2≤6) (E:∀ l∈d,0<l.place):Zcf d=chE d∧((chE d).1=0→Zcd d∧∀ l∈d,¬6<(chC d 7 l.frm).length):=by
 unfold Zcf chE;cases M:noC d d with
 | some k=>exact ⟨rfl,fun h=>by simp at h⟩
 | none =>
  have hb:Zcd d:=ZhI d d M;obtain ⟨I,a2⟩:=Zlp hb D L E d 0 rfl;simp only;cases A:Zbf d (d.length+1) d.length 0 d with
  | some p =>
   obtain ⟨e,m⟩:=I p A;simp only;rw [e,if_pos m];exact ⟨rfl,fun h=>by simp at h⟩
  | none =>
   obtain ⟨e,q⟩:=a2 A;obtain ⟨J,b2⟩:=Zmq hb D E q d 0 rfl;simp only;rw [e,if_neg (by omega)];cases hd:Zbf d d.length 3 0 d with
   | some p =>
    obtain ⟨e3,m⟩:=J p hd;simp only;rw [e3,if_pos m];exact ⟨rfl,fun h=>by simp at h⟩
   | none =>
    simp only;rw [b2 hd,if_neg (by omega)];exact ⟨rfl,fun _=>⟨hb,q⟩⟩
def Inv (acc:List Ln):Prop:=(∀ l∈acc,OkL l∧0<l.place)∧ZaC acc 2≤6∧∀ (i:Nat) (l:Ln),acc[i]?=some l→(i=0↔l.kind=1)
theorem ZmD (a b:List Ln) (k:Nat):ZaC (a++b) k=ZaC a k+ZaC b k:=by simp [ZaC]
theorem ZsX {h:List Ln} {l:Ln} (d:ZM h l=0):(h.length=0↔l.kind=1)∧(l.kind=2→ZaC h 2<6):=by
 unfold ZM at d;split at d
 ·cases d
 ·rename_i q
  split at d
  ·cases d
  ·split at d
   ·cases d
   ·rename_i m
    refine ⟨?_,fun A=>?_⟩
    ·simp only [bne_iff_ne,ne_eq,Decidable.not_not,decide_eq_decide] at q;exact q
    ·unfold Zfg at m;rw [if_pos (.inl A),A] at m;simp at m;omega
theorem Inv.snoc {L:List Ln} {l:Ln} (h:Inv L) (J:OkL l) (E:ZM L l=0) (p:Nat):Inv (L++[{l with place:=p+1}]):=by
 obtain ⟨A,f2⟩:=ZsX E;refine ⟨fun x d=>?_,?_,fun i x d=>?_⟩
 ·rcases List.mem_append.1 d with m | m
  ·exact h.1 x m
  ·simp at m;subst m;exact ⟨J,by simp⟩
 ·rw [ZmD];by_cases q:l.kind=2
  ·have:=f2 q;have e:ZaC [{l with place:=p+1}] 2≤1:=Yp _ _;omega
  ·have e:ZaC [{l with place:=p+1}] 2=0:=by simp [ZaC,q]
   have:=h.2.1;omega
 ·by_cases I:i<L.length
  ·rw [List.getElem?_append_left I] at d;exact h.2.2 i x d
  ·rw [List.getElem?_append_right (by omega)] at d;have D:i - L.length=0:=by
    have:=(Yc.1 d).1;simp at this;omega
   rw [D] at d;simp at d;subst d;simp only;rw [←A];omega
theorem ZjG:∀ (ps:List ByteArray) (i:Nat) (D:List Ln),Inv D→(rdC i D ps).err=0→Inv (rdC i D ps).lines
 | [],i,D,h,d=>by
  rw [rdC] at d ⊢;split
  ·rename_i m;rw [if_pos m] at d;cases d
  ·exact h
 | p :: r,i,D,h,d=>by
  rw [rdC] at d ⊢;split
  ·rename_i m;rw [if_pos m] at d;exact ZjG r _ _ h d
  ·rename_i m
   rw [if_neg m] at d;cases A:Zag (Zav p) with
   | none=>rw [A] at d;cases d
   | some l =>
    rw [A] at d;simp only at d ⊢;by_cases q:ZM D l=0
    ·rw [if_pos q] at d ⊢;exact ZjG r _ _ (h.snoc (Zku A) q i) d
    ·rw [if_neg q] at d;exact absurd d q
theorem Zpx (s:ByteArray) (d:(rd s).err=0):Inv (rd s).lines:=ZjG _ _ _ ⟨by simp,by simp [ZaC],by simp⟩ d
theorem Inv.nmB {d:List Ln} (h:Inv d):NmB d:=by
 intro l q D;rcases (h.1 l q).1 with ⟨A,_⟩ | ⟨_,m,_⟩
 ·omega
 ·exact m
theorem Zna:∀ (ss:List (Nat×Nat)) (key:Nat),(∀ p∈ss,p.1≤2)→key≤2→fK ss key=ZaA ss key
 | [],_,_,_=>rfl
 | (a,b) :: r,key,h,m=>by
  have ih:=Zna r key (fun p E=>h p (List.mem_cons_of_mem _ E)) m;have D:a≤2:=h (a,b) List.mem_cons_self;unfold fK ZaA at ih ⊢;rw [List.find?_cons,List.find?_cons];by_cases d:a=key
  ·subst d;simp
  ·have q:(a == key)=false:=by simpa using d
   have A:((ZX a).toList == (ZX key).toList)=false:=by
    rw [beq_eq_false_iff_ne];intro e;exact d ((Zhl D m).1 e)
   simp only [q,A];exact ih
theorem ZpO {l:Ln} (q:OkL l) (h:l.kind≠1) {key:Nat} (m:key≤2):fK (ZbI l) key=ZaA l.sets key:=by
 rcases q with ⟨d,_⟩ | ⟨_,_,d⟩
 ·exact absurd d h
 ·rw [ZbI,if_neg h];exact Zna _ _ d m
theorem Zol {q:List Ln} {key:Nat} (A:key≤2):∀ (h:List Nat) (m:List Ln),h.map (fun j=>q[j]?)=m.map some→(∀ l∈m,OkL l∧l.kind≠1)→vI q key h=ZgY key (Zhx key) m
 | [],[],_,_=>rfl
 | [],l :: r,d,_=>by simp at d
 | j :: h,[],d,_=>by simp at d
 | j :: h,l :: r,d,D=>by
  simp only [List.map_cons,List.cons.injEq] at d;have ih:=Zol A h r d.2 (fun x J=>D x (List.mem_cons_of_mem _ J));obtain ⟨I,E⟩:=D l List.mem_cons_self;rw [vI,ZgY,d.1,ih];simp only [Option.bind_some];rw [ZpO I E A];cases ZaA l.sets key <;> rfl
theorem Zig {d:List Ln} (m:Inv d) (hb:Zcd d) (E:∀ l∈d,¬6<(chC d 7 l.frm).length) {k:Nat} {l:Ln} (q:d[k]?=some l) (M:l.kind=3) {key:Nat} (I:key≤2) :
  vI d key (k :: chI d d.length k)=Zfa key (Zhx key) l.sets (chC d 7 l.frm):=by
 have D:=Yo q;rw [Zol I (k :: chI d d.length k) (l :: chC d 7 l.frm)]
 ·rfl
 ·rw [List.map_cons,List.map_cons,q,ZjS hb m.nmB d.length k l q,ZlI d l.frm (E l D)]
 ·intro x J;rcases List.mem_cons.1 J with h | h
  ·subst h;exact ⟨(m.1 x D).1,by omega⟩
  ·have A:=List.mem_filter.1 (ZeT d 7 l.frm x h);have L:x.kind=2:=by simpa using A.2
   exact ⟨(m.1 x A.1).1,by omega⟩
def plR (L:List Ln) (k:Nat) (l:Ln):Pl:=
 ⟨l.name,vI L 0 (k :: chI L L.length k),vI L 1 (k :: chI L L.length k),vI L 2 (k :: chI L L.length k)⟩
def ZbR (L:List Ln):Nat→List Ln→List Pl→List Pl
 | _,[],ps=>ps
 | k,l :: r,ps=>ZbR L (k+1) r (if l.kind=3 then ZH (plR L k l) ps else ps)
theorem Zst {d:List Ln} (q:Inv d) (hb:Zcd d) (m:∀ l∈d,¬6<(chC d 7 l.frm).length) {k:Nat} {l:Ln} (A:d[k]?=some l) (h:l.kind=3):plR d k l=plC d l:=by
 unfold plR plC;rw [Zig q hb m A h (by omega),Zig q hb m A h (by omega),Zig q hb m A h (by omega)];rfl
theorem Zj6 {d:List Ln} (m:Inv d) (hb:Zcd d) (A:∀ l∈d,¬6<(chC d 7 l.frm).length):∀ (q:List Ln) (k:Nat) (b:Int) (ps:List Pl),d.drop (k+1)=q→q.foldl (stC d) (b,ps)=(b,ZbR d (k+1) q ps)
 | [],k,b,ps,_=>rfl
 | l :: r,k,b,ps,hd=>by
  have D:d[k+1]?=some l:=by
   have:=congrArg (fun x=>x[0]?) hd;simpa using this
  have E:d.drop (k+1+1)=r:=by
   have:=Zas D;rw [hd] at this;simpa using this.symm
  have I:¬l.kind=1:=by
   intro e;have:=(m.2.2 (k+1) l D).2 e;omega
  rw [List.foldl_cons,ZbR,stC,if_neg I];by_cases h:l.kind=3
  ·rw [if_pos h,if_pos h,Zst m hb A D h];exact Zj6 m hb A r (k+1) b _ E
  ·rw [if_neg h,if_neg h];exact Zj6 m hb A r (k+1) b ps E
def bud0 (L:List Ln):Nat:=match L with | l :: _=>(match l.sets with | p :: _=>p.2 | []=>0) | []=>0
theorem ZsS {d:List Ln} (m:Inv d) (hb:Zcd d) (J:∀ l∈d,¬6<(chC d 7 l.frm).length) (E:0<d.length):ZfM d=((bud0 d:Int),ZbR d 0 d []):=by
 obtain ⟨l,r,N⟩:∃ l r,d=l :: r:=by
  match d,E with
  | l :: r,_=>exact ⟨l,r,rfl⟩
 have q:d[0]?=some l:=by rw [N];rfl
 have I:l.kind=1:=(m.2.2 0 l q).1 rfl;have L:d.drop (0+1)=r:=by rw [N];rfl
 obtain ⟨n,A⟩:∃ n,l.sets=[(3,n)]:=by
  rcases (m.1 l (Yo q)).1 with ⟨_,_,_,n,h⟩ | ⟨h,_⟩
  ·exact ⟨n,h⟩
  ·omega
 have D:ZfM d=r.foldl (stC d) (stC d (0,[]) l):=by
  unfold ZfM
  conv=>lhs;arg 3;rw [N]
  rfl
 have e2:ZbR d 0 d []=ZbR d 1 r []:=by
  conv=>lhs;arg 3;rw [N]
  rw [ZbR,if_neg (by omega)]
 have e3:bud0 d=n:=by rw [N,bud0,A]
 have e4:stC d (0,[]) l=((n:Int),[]):=by
  have M:ZaA [(3,n)] 3=some n:=by
   unfold ZaA;rw [List.find?_cons];simp
  rw [stC,if_pos I,A,Zfa,M]
 rw [D,e2,e3,e4];exact Zj6 m hb J r 0 n [] L
theorem Zrq (s:ByteArray) (J:s.size≤1000) (A:(rd s).err=0→0<(rd s).lines.length) :
  Z7 s=if (rd s).err≠0 then ⟨(0,[]),(rd s).err,(rd s).at'⟩ else if (Zcf (rd s).lines).1≠0 then ⟨(0,[]),(Zcf (rd s).lines).1,(Zcf (rd s).lines).2⟩ else ⟨((bud0 (rd s).lines:Int),ZbR (rd s).lines 0 (rd s).lines []),0,0⟩:=by
 rw [Z7,if_neg (by omega)];by_cases h:(rd s).err≠0
 ·rw [if_pos h,if_pos h]
 ·rw [if_neg h,if_neg h];have q:(rd s).err=0:=by omega
  have m:=Zpx s q;obtain ⟨e,I⟩:=Zti m.nmB m.2.1 (fun l E=>(m.1 l E).2);rw [e];by_cases d:(chE (rd s).lines).1≠0
  ·rw [if_pos d,if_pos d]
  ·rw [if_neg d,if_neg d];obtain ⟨hb,D⟩:=I (by omega);rw [ZsS m hb D (A q)]
end Co
end Go.Proofs.YtmgkcbdlfodjmaaGreatDoor
