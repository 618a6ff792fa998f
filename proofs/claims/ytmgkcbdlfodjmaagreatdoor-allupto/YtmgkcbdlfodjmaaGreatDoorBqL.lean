import Derived.Test.YtmgkcbdlfodjmaaGreatDoorBqK
set_option maxRecDepth 100000
set_option maxHeartbeats 16000000
namespace Go.Proofs.YtmgkcbdlfodjmaaGreatDoor
open Go.RowKit
namespace Co
def Zk8 (o:Option Ln) (pl:Int) (w w':World) (e:Ending):Prop:=
 (o=none∧∃ wd nm fr ko nk kc vo nv vc p,e=.returned (.tuple #[rlA wd nm fr ko nk kc vo nv vc p,.bool false])∧Below w.heap.size w w') ∨
 (∃ l ko kc vo vc,o=some l∧e=.returned (.tuple #[rlA (kwK l.kind) l.name l.frm ko (ZaX l).length kc vo l.sets.length vc pl,.bool true])∧RowAt w' (.slice ko (ZaX l).length kc) (ZaX l).length (Zai (ZaX l))∧RowAt w' (.slice vo l.sets.length vc) l.sets.length (Zai (Zds l))∧FrI w' ko∧FrI w' vo∧Below w.heap.size w w')
abbrev bZ6:Obj:=.cells #[.string ⟨#[]⟩,.string ⟨#[]⟩,.string ⟨#[]⟩,.slice none 0 0,.slice none 0 0,.int .i64 0] 127
theorem ZnN (r:List ByteArray) (E:Int) (U:Option Addr) (V n:Nat) (w:World) (J:RowAt w (.slice U n V) n (Z6 (sBudget :: r))) (A:(sBudget :: r).length=n) (ak:n≤1001) (M:∀ p∈r,p.size≤1000) :
  Calls Tryz.prog 105 #[.slice U n V,.int .i64 E] w fun e w'=>Zk8 (ZcF r) E w w' e:=by
 obtain ⟨q,off,rfl,aa,I⟩:=J.at (j:=0) (x:=.string sBudget) rfl;rw [Nat.add_zero] at I;have al:(0:Int)<(n:Int):=by simp at A;omega
 have ai:∀ o,(w.alloc o).cell? ⟨q,off,none⟩=some (.string sBudget):=fun o=>((Zc w o).cell (p:=⟨q,off,none⟩) aa).trans I
 by_cases Y:n=2
 ·obtain ⟨a,rfl⟩:∃ a,r=[a]:=by
   match r,A with
   | [],d=>simp at d;omega
   | [a],_=>exact ⟨a,rfl⟩
   | a :: b :: c,d=>simp at d;omega
  obtain ⟨ae,af,X,_,ab⟩:=J.at (j:=1) (x:=.string a) rfl;obtain ⟨rfl,rfl⟩:q=ae∧off=af:=by simpa using X
  have aj:∀ N O,((w.alloc N).alloc O).cell? ⟨q,off+1,none⟩=some (.string a):=fun N O=>((Zb (Zc w N) (Zc _ O)).cell (p:=⟨q,off+1,none⟩) aa).trans ab
  have R:=Za (fun w0=>ZiU a w0 (M a (by simp)));have Q:Hid (ZcF [a]=(Za9 a).map (fun n=>⟨1,⟨#[]⟩,⟨#[]⟩,[(3,n)],0⟩)):=rfl;have ac:=Za (fun (d:Za9 a=none)=>(show ZcA a=-1 by rw [ZcA,d]));have ad:=Za (fun x (d:Za9 a=some x)=>(show ZcA a=(x:Int) by rw [ZcA,d]));subst Y;clear J M A I ab X;cases h:Za9 a with
  | none =>
   have m:Hid (ZcF [a]=none):=by show _=_;rw [Q.out,h];rfl
   have L:=Za (ac.out h);clear h;go_enter Tryz.func105,Tryz.ntmps105
   go_wp2_with fail
   refine (R.out _).mono ?_;rintro e ag ⟨rfl,D⟩;rw [D,L.out];clear D;go_wp2_with fail
   refine bodyPost_ret (v:=.tuple #[rlA sBudget ⟨#[]⟩ ⟨#[]⟩ none 0 0 (some ⟨w.heap.size+2,0,none⟩) 1 1 E,.bool false]) (by simp [results,Tryz.results105,go_sem]) rfl (.inl ⟨m.out,_,_,_,_,_,_,_,_,_,_,rfl,?_⟩);exact Zb (Zb (Zc _ _) (Zc _ _)) (Zc _ _)
  | some x =>
   have m:Hid (ZcF [a]=some ⟨1,⟨#[]⟩,⟨#[]⟩,[(3,x)],0⟩):=by show _=_;rw [Q.out,h];rfl
   have L:=Za (ad.out x h);clear h;go_enter Tryz.func105,Tryz.ntmps105
   go_wp2_with fail
   refine (R.out _).mono ?_;rintro e ag ⟨rfl,D⟩;rw [D,L.out];clear D;go_wp2_with fail
   refine bodyPost_ret (v:=.tuple #[rlA sBudget ⟨#[]⟩ ⟨#[]⟩ none 0 0 (some ⟨w.heap.size+2,0,none⟩) 1 1 E,.bool true]) (by simp [results,Tryz.results105,go_sem]) rfl (.inr ⟨_,_,_,_,_,m.out,rfl,?_,?_,?_,?_,?_⟩)
   ·exact Zdb _ _ _
   ·exact ZaM _ [.int .i64 (x:Int)] _ 1 (by simp)
   ·intro b o e;cases e
   ·intro b o e;simp only [Option.some.injEq,Addr.mk.injEq] at e;obtain ⟨rfl,_⟩:=e;exact ⟨_,ZC _ _ (by simp)⟩
   ·exact Zb (Zb (Zc _ _) (Zc _ _)) (Zc _ _)
 ·have ah:((n:Int) != 2)=true:=by rw [bne_iff_ne];omega
  have m:Hid (ZcF r=none):=by
   show _=_;match r,A with
   | [],_=>rfl
   | [a],d=>simp at d;omega
   | a :: b :: c,_=>rfl
  clear J M A I Y;go_enter Tryz.func105,Tryz.ntmps105
  go_wp2_with fail
  refine bodyPost_ret (v:=.tuple #[rlA sBudget ⟨#[]⟩ ⟨#[]⟩ none 0 0 none 0 0 E,.bool false]) (by simp [results,Tryz.results105,go_sem]) rfl (.inl ⟨m.out,_,_,_,_,_,_,_,_,_,_,rfl,?_⟩);exact Zb (Zc _ _) (Zc _ _)
theorem Zny (wd:ByteArray) (r:List ByteArray) (d:Int) (q:Option Addr) (D n:Nat) (w:World) (J:RowAt w (.slice q n D) n (Z6 (wd :: r))) (E:(wd :: r).length=n) (Y:n≤1001)
  (R:(wd.toList == [98,117,100,103,101,116])=false) (N:((wd.toList == [98,97,115,101])=false∧(wd.toList == [112,111,111,108])=false)∨n<2) (o:Option Ln) (I:o=none) :
  Calls Tryz.prog 105 #[.slice q n D,.int .i64 d] w fun e Q=>Zk8 o d w Q e:=by
 have m:=Za I;obtain ⟨A,off,rfl,O,h⟩:=J.at (j:=0) (x:=.string wd) rfl;rw [Nat.add_zero] at h;have aa:(0:Int)<(n:Int):=by simp at E;omega
 have U:∀ o,(w.alloc o).cell? ⟨A,off,none⟩=some (.string wd):=fun o=>((Zc w o).cell (p:=⟨A,off,none⟩) O).trans h
 clear J E h I;rcases N with ⟨L,M⟩ | V
 ·go_enter Tryz.func105,Tryz.ntmps105
  go_wp2_with fail
  refine bodyPost_ret (v:=.tuple #[rlA wd ⟨#[]⟩ ⟨#[]⟩ none 0 0 none 0 0 d,.bool false]) (by simp [results,Tryz.results105,go_sem]) rfl (.inl ⟨m.out,_,_,_,_,_,_,_,_,_,_,rfl,?_⟩);exact Zb (Zc _ _) (Zc _ _)
 ·have X:(n:Int)<2:=by omega
  cases L:wd.toList == [98,97,115,101] <;> cases M:wd.toList == [112,111,111,108]
  all_goals
   go_enter Tryz.func105,Tryz.ntmps105
   go_wp2_with fail
   refine bodyPost_ret (v:=.tuple #[rlA wd ⟨#[]⟩ ⟨#[]⟩ none 0 0 none 0 0 d,.bool false]) (by simp [results,Tryz.results105,go_sem]) rfl (.inl ⟨m.out,_,_,_,_,_,_,_,_,_,_,rfl,?_⟩);exact Zb (Zc _ _) (Zc _ _)
def Zf7:List ByteArray→Bool
 | []=>false
 | f :: _=>f.toList == [102,114,111,109]
def Rest (kind:Nat) (nm:ByteArray) (r:List ByteArray) (w:World) (fr:ByteArray) (ok:Bool) (A:Option Addr) (rn rc:Nat) (fs:List ByteArray):Prop:=
 RowAt w (.slice A rn rc) rn (Z6 fs)∧fs.length=rn∧(∀ p∈fs,p.size≤1000)∧namedF kind (nm :: r)=if ok=true then (Z8 fs).map (fun ss=>⟨kind,nm,fr,ss,0⟩) else none
theorem Zjc {kind:Nat} {nm:ByteArray} {r:List ByteArray} (h:Zf7 r=false):namedF kind (nm :: r)=if ZW nm=true then (Z8 r).map (fun ss=>⟨kind,nm,⟨#[]⟩,ss,0⟩) else none:=by
 by_cases d:ZW nm=true
 ·rw [if_pos d];match r,h with
  | [],_=>rw [Zi9 d];rfl
  | f :: m,h=>exact Zhz d h
 ·rw [if_neg d];exact ZeG (by simpa using d)
theorem Zjx {kind:Nat} {nm f b:ByteArray} {r:List ByteArray} (h:(f.toList == [102,114,111,109])=true):namedF kind (nm :: f :: b :: r)=if (ZW nm&&ZW b)=true then (Z8 r).map (fun ss=>⟨kind,nm,b,ss,0⟩) else none:=by
 cases d:ZW nm
 ·rw [ZeG d];rfl
 ·cases hb:ZW b
  ·rw [ZkV d h hb];rfl
  ·rw [Zkb d h hb];rfl
theorem Zia {kind:Nat} {nm f:ByteArray} (h:(f.toList == [102,114,111,109])=true):namedF kind [nm,f]=none:=by
 cases d:ZW nm
 ·exact ZeG d
 ·exact ZkF d h
theorem Zk2 (kind:Nat) (wd nm:ByteArray) (r:List ByteArray) (M:Int) (ao:Option Addr) (cf n:Nat) (w:World) (bx:RowAt w (.slice ao n cf) n (Z6 (wd :: nm :: r))) (bd:(wd :: nm :: r).length=n) (fl:n≤1001) (cw:∀ p∈(nm :: r),p.size≤1000)
  (hB:(wd.toList == [98,117,100,103,101,116])=false) (bA bP:Bool) (hA:(wd.toList == [98,97,115,101])=bA) (hP:(wd.toList == [112,111,111,108])=bP) (di:(bA||bP)=true) (d6:wd=kwK kind) (dr:kind≠1) :
  Calls Tryz.prog 105 #[.slice ao n cf,.int .i64 M] w fun e w'=>Zk8 (namedF kind (nm :: r)) M w w' e:=by
 have c7:Hid (wd=kwK kind∧kind≠1):=⟨d6,dr⟩;obtain ⟨bk,bc,bh,bi,bj⟩:=info_parts Zij;obtain ⟨ay,off,rfl,dj,cq⟩:=bx.at (j:=0) (x:=.string wd) rfl;obtain ⟨bm,b6,V,_,cr⟩:=bx.at (j:=1) (x:=.string nm) rfl;obtain ⟨rfl,rfl⟩:ay=bm∧off=b6:=by simpa using V
 rw [Nat.add_zero] at cq;have ep:=ZeR bx;have ez:(0:Int)<(n:Int):=by simp at bd;omega
 have e0:(1:Int)<(n:Int):=by simp at bd;omega
 have e1:¬(n:Int)<2:=by omega
 have e6:(2:Int)≤(n:Int):=by omega
 have eo:∀ o,(w.alloc o).cell? ⟨ay,off,none⟩=some (.string wd):=fun o=>((Zc w o).cell (p:=⟨ay,off,none⟩) dj).trans cq
 have er:∀ aa ab,((w.alloc aa).alloc ab).cell? ⟨ay,off+1,none⟩=some (.string nm):=fun aa ab=>((Zb (Zc w aa) (Zc _ ab)).cell (p:=⟨ay,off+1,none⟩) dj).trans cr
 have ev:nm.size≤maxLen:=by have:=cw nm (by simp);unfold maxLen;omega
 have c6:=Za (fun w0=>ZbW nm w0 ev);obtain ⟨D,dv⟩:∃ D,n - 2=D:=⟨_,rfl⟩;obtain ⟨c1,dk⟩:∃ c1,cf - 2=c1:=⟨_,rfl⟩;obtain ⟨A,dh⟩:∃ A,(if cf=2 then some (⟨ay,off,none⟩:Addr) else some ⟨ay,off+2,none⟩)=A:=⟨_,rfl⟩;have fy:RowAt w (.slice A D c1) D (Z6 r):=by
  have:=Ze2 2 bx bd (by simp at bd;omega);rw [dh,dv,dk] at this;exact this
 have dy:r.length=D:=by simp at bd;omega
 have HR:Hid (RowAt w (.slice A D c1) D (Z6 r)∧r.length=D∧∀ p∈r,p.size≤1000):=⟨fy,dy,fun p a0=>cw p (List.mem_cons_of_mem _ a0)⟩;clear bx bd cw cq cr V fy dy d6 dr;go_enter Tryz.func105,Tryz.ntmps105
 go_upto_region 8 with fail
 go_cut [48] (fun b wc=>b=.bool false∧(w.alloc bZ6).alloc (bRL wd ⟨#[]⟩ ⟨#[]⟩ none 0 0 none 0 0 M)=wc)
 case first =>
  cases bA
  ·cases bP
   ·simp at di
   ·go_wp2_with fail
    go_meet
    exact ⟨rfl,rfl⟩
  ·go_wp2_with fail
   go_meet
   exact ⟨rfl,rfl⟩
 case rest =>
  obtain ⟨rfl,rfl⟩:=hcut;clear hA hP di;go_wp2_with fail
  refine (c6.out _).mono ?_;rintro e a7 ⟨rfl,q⟩;rw [q];clear q;obtain ⟨ok,cs⟩:∃ ok,ZW nm=ok:=⟨_,rfl⟩;rw [cs];go_upto_region 13 with fail
  have cd:=Za cs;clear cs;go_cut [67] (fun b wc=>b=.bool (Zf7 r)∧(w.alloc bZ6).alloc (bRL wd nm ⟨#[]⟩ none 0 0 none 0 0 M)=wc)
  case first =>
   by_cases cg:D=0
   ·have HE:Hid (Zf7 r=false):=by
     show _=_;rw [List.eq_nil_of_length_eq_zero (HR.out.2.1.trans cg)];rfl
    subst cg;go_wp2_with fail
    go_meet
    exact ⟨by rw [HE.out],rfl⟩
   ·obtain ⟨f,R,aj⟩:∃ f R,r=f :: R:=by
     match r,HR.out.2.1 with
     | [],h=>exact absurd h.symm cg
     | f :: R,_=>exact ⟨f,R,rfl⟩
    have N:=HR.out.1;rw [aj] at N;obtain ⟨af,ah,az,ch,a9⟩:=N.at (j:=0) (x:=.string f) rfl;rw [Nat.add_zero] at a9;have es:∀ aa ab,((w.alloc aa).alloc ab).cell? ⟨af,ah,none⟩=some (.string f):=fun aa ab=>((Zb (Zc w aa) (Zc _ ab)).cell (p:=⟨af,ah,none⟩) ch).trans a9
    have fc:(0:Int)<(D:Int):=by omega
    have HE:Hid (Zf7 r=(f.toList == [102,114,111,109])):=by show _=_;rw [aj];rfl
    subst az;clear N a9 aj cg;go_wp2_with fail
    go_meet
    exact ⟨by rw [HE.out],rfl⟩
  case rest =>
   obtain ⟨el,rfl⟩:=hcut;subst el;obtain ⟨bF,co⟩:∃ bF,Zf7 r=bF:=⟨_,rfl⟩;rw [co];have b9:=Za co;clear co;go_upto_if 67 with fail
   go_cut [8,9] (fun cy fb wc=>∃ fr a1 A' L fw ft,cy=.bool a1∧fb=.slice A' L fw∧L≤1001∧(w.alloc bZ6).alloc (bRL wd nm fr none 0 0 none 0 0 M)=wc∧Hid (Rest kind nm r w fr a1 A' L fw ft))
   case first =>
    cases bF
    ·go_wp2_with fail
     go_meet
     exact ⟨⟨#[]⟩,ok,A,D,c1,r,rfl,rfl,by omega,rfl,HR.out.1,HR.out.2.1,HR.out.2.2,by rw [Zjc b9.out,cd.out]⟩
    ·obtain ⟨f,R,aj⟩:∃ f R,r=f :: R:=by
      have hb:=b9.out;match r,hb with
      | [],hb=>simp [Zf7] at hb
      | f :: R,_=>exact ⟨f,R,rfl⟩
     have N:=HR.out.1;have au:=HR.out.2.1;have bv:=b9.out;have bf:=HR.out.2.2;rw [aj] at N au bv bf;obtain ⟨af,ah,az,ch,a9⟩:=N.at (j:=0) (x:=.string f) rfl;by_cases cm:D<2
     ·have HX:Hid (namedF kind (nm :: r)=none):=by
       show _=_;rw [aj];match R,au with
       | [],_=>exact Zia bv
       | a :: b,h=>simp at h;omega
      have ej:(D:Int)<2:=by omega
      clear N au bv aj bf a9 cm az;go_wp2_with fail
      refine bodyPost_ret (v:=.tuple #[rlA wd nm ⟨#[]⟩ none 0 0 none 0 0 M,.bool false]) (by simp [results,Tryz.results105,go_sem]) rfl (.inl ⟨HX.out,_,_,_,_,_,_,_,_,_,_,rfl,?_⟩);exact Zb (Zc _ _) (Zc _ _)
     ·obtain ⟨b,ac,cv⟩:∃ b ac,R=b :: ac:=by
       match R,au with
       | [],h=>simp at h;omega
       | b :: ac,_=>exact ⟨b,ac,rfl⟩
      rw [cv] at N au bf;subst az;obtain ⟨bm,b6,V,_,dm⟩:=N.at (j:=1) (x:=.string b) rfl;obtain ⟨rfl,rfl⟩:af=bm∧ah=b6:=by simpa using V
      have es:∀ aa ab,((w.alloc aa).alloc ab).cell? ⟨af,ah+1,none⟩=some (.string b):=fun aa ab=>((Zb (Zc w aa) (Zc _ ab)).cell (p:=⟨af,ah+1,none⟩) ch).trans dm
      obtain ⟨ag,eu⟩:∃ ag,D - 2=ag:=⟨_,rfl⟩;obtain ⟨c2,dl⟩:∃ c2,c1 - 2=c2:=⟨_,rfl⟩;obtain ⟨a8,ek⟩:∃ a8,(if c1=2 then some (⟨af,ah,none⟩:Addr) else some ⟨af,ah+2,none⟩)=a8:=⟨_,rfl⟩;have ff:D≤c1:=ZeR N;have fz:RowAt w (.slice a8 ag c2) ag (Z6 ac):=by
       have:=Ze2 2 N au (by omega);rw [ek,eu,dl] at this;exact this
      have ae:Hid (RowAt w (.slice a8 ag c2) ag (Z6 ac)∧ac.length=ag∧(∀ p∈ac,p.size≤1000)∧ag≤1001∧namedF kind (nm :: r)=if (ZW nm&&ZW b)=true then (Z8 ac).map (fun ss=>⟨kind,nm,b,ss,0⟩) else none):=
       ⟨fz,by simp at au;omega,fun p a0=>bf p (by simp [a0]),by omega,by rw [aj,cv];exact Zjx bv⟩
      have em:b.size≤maxLen:=by have:=bf b (by simp);unfold maxLen;omega
      have eg:=Za (fun w0=>ZbW b w0 em);have ej:¬(D:Int)<2:=by omega
      have fd:(1:Int)<(D:Int):=by omega
      have fe:(2:Int)≤(D:Int):=by omega
      clear N au bv aj bf a9 dm V fz cv;go_wp2_with fail
      refine (eg.out _).mono ?_;rintro e a7 ⟨rfl,q⟩;rw [q];clear q;obtain ⟨cx,ct⟩:∃ cx,ZW b=cx:=⟨_,rfl⟩;rw [ct];have eh:=Za ct;clear ct;cases ok
      ·go_wp2_with fail
       go_meet
       exact ⟨b,false,a8,ag,c2,ac,rfl,rfl,ae.out.2.2.2.1,rfl,ae.out.1,ae.out.2.1,ae.out.2.2.1,by rw [ae.out.2.2.2.2,cd.out];rfl⟩
      ·go_wp2_with fail
       go_meet
       exact ⟨b,cx,a8,ag,c2,ac,rfl,rfl,ae.out.2.2.2.1,rfl,ae.out.1,ae.out.2.1,ae.out.2.2.1,by rw [ae.out.2.2.2.2,cd.out,eh.out];rfl⟩
   case rest =>
    obtain ⟨fr,a1,A',L,fw,ft,rfl,rfl,fn,rfl,ai⟩:=hcut;clear eo er dh dv dk HR c6 cd b9 ez e0 e1 e6 ep;have ei:=Za (St.start w wd nm fr M);by_cases dx:L % 2=1
    ·have dw:((L:Int) % 2 == 1)=true:=by rw [beq_iff_eq];omega
     have HX:Hid (namedF kind (nm :: r)=none):=by
      show _=_;rw [ai.out.2.2.2,Zht _ (by rw [ai.out.2.1];exact dx)];split <;> rfl
     go_wp2_with fail
     refine bodyPost_ret (v:=.tuple #[rlA wd nm fr none 0 0 none 0 0 M,.bool false]) (by simp [results,Tryz.results105,go_sem]) rfl (.inl ⟨HX.out,_,_,_,_,_,_,_,_,_,_,rfl,?_⟩);exact Zb (Zc _ _) (Zc _ _)
    have dw:((L:Int) % 2 == 1)=false:=by
     have:(L:Int) % 2=0:=by omega
     rw [this];rfl
    have cc:Hid (L % 2=0):=by show _=_;omega
    clear dx;go_wp2_with fail
    clear dw;generalize e7:((L:Int) % 2)=r10;clear e7;go_loopw [8,11,12,13] (fun cy i fp fq wr=>∃ (Q d:Nat) (av:Bool) (d9 ed:Value) (ak aw:List Int),Q≤L∧i=.int .i64 Q∧cy=.bool av∧d≤Q∧Hid (Q=2*d)∧Hid (ak=ZjF ((prs ft).take d)∧aw=numP ((prs ft).take d)∧av=(a1&&((prs ft).take d).all ZcR))∧Hid (St w wr wd nm fr M d9 d ak ed d aw)) (fun _ i _ _ _=>L - (intOf i).toNat)
    case atStart=>exact ⟨0,0,a1,.slice none 0 0,.slice none 0 0,[],[],Ye _,rfl,rfl,Yd _,rfl,⟨rfl,rfl,by simp⟩,ei.out⟩
    case round =>
     obtain ⟨Q,d,av,d9,ed,ak,aw,fg,rfl,rfl,fm,HI,HS,fu⟩:=hrel;by_cases fi:Q<L
     ·have be:d<(prs ft).length:=by rw [ZjW,ai.out.2.1];have:=HI.out;have:=cc.out;omega
      obtain ⟨⟨b7,a6⟩,a0⟩:∃ p,(prs ft)[d]?=some p:=⟨_,Yb be⟩;obtain ⟨cu,ck⟩:=ZoB _ _ _ _ a0;rw [←HI.out] at cu ck;have cp:Below w.heap.size w wr:=fu.out.2.2.2.2.2.1;obtain ⟨af,ah,az,ch,cr⟩:=(ai.out.1.nx cp).at (ZdH cu);obtain ⟨bm,b6,V,_,dl⟩:=(ai.out.1.nx cp).at (ZdH ck);rw [az] at V;obtain ⟨rfl,rfl⟩:af=bm∧ah=b6:=by simpa using V
      subst az;have ey:a6.size≤1000:=ai.out.2.2.1 a6 (Yo ck);have ce:Hid ((prs ft).take (d+1)=(prs ft).take d++[(b7,a6)]):=ZnJ a0;have fh:Q+2≤L:=by have:=HI.out;have:=cc.out;omega
      have fj:(Q:Int)<(L:Int):=by omega
      have fk:(Q:Int)+1<(L:Int):=by omega
      obtain ⟨d0,d1,d2,d3,d4,d5,dz⟩:=fu.out.cells;have ca:=Za (fun w0=>Zry b7 w0);have cb:=Za (fun w0=>ZiU a6 w0 ey);obtain ⟨I,ci⟩:∃ I,Zd2 b7=I:=⟨_,rfl⟩;obtain ⟨J,cj⟩:∃ J,ZcA a6=J:=⟨_,rfl⟩;rw [ci] at ca;rw [cj] at cb;have HG:Hid (ZcR (b7,a6)=(decide (0≤I)&&decide (0≤J))∧ZjF ((prs ft).take (d+1))=ak++[I]∧numP ((prs ft).take (d+1))=aw++[J]∧(a1&&((prs ft).take (d+1)).all ZcR)=(av&&(decide (0≤I)&&decide (0≤J)))):=by
       have dq:ZcR (b7,a6)=(decide (0≤I)&&decide (0≤J)):=by rw [ZcR,ci,cj]
       refine ⟨dq,?_,?_,?_⟩
       ·rw [ce.out,HS.out.1];simp [ZjF,ci]
       ·rw [ce.out,HS.out.2.1];simp [numP,cj]
       ·rw [ce.out,HS.out.2.2,List.all_append];simp only [List.all_cons,List.all_nil,Bool.and_true,dq,Bool.and_assoc]
      clear a0 cu ck ci cj be V ce cp;cases av
      ·skip
       go_wp2_with fail
       refine (ca.out _).mono ?_;rintro e a7 ⟨rfl,q⟩;rw [q];clear q;go_wp2_with fail
       refine (cb.out _).mono ?_;rintro e a7 ⟨rfl,q⟩;rw [q];clear q;go_wp2_with (at_builtin;refine wpList_append_own_at _ rfl (.tmp 117) (.tmp 119) 125 rfl (w.heap.size+2) 3 bk _ 1 8 Tryz.underlying125 bc bh bi bj rfl (by decide) _ _ _ rfl (fu.out.2.2.1.alloc _) ⟨wr.heap.size,0,none⟩ 1 1 [.int .i64 I] rfl rfl (ZY wr [.int .i64 I] 3 rfl) (by intro u E;simp at E;subst E;rfl) (by unfold maxLen;omega) (by omega) (by have:=fu.out.2.2.2.2.2.2;simp;omega) ?next)
       case next =>
        intro ea ad X aq _ fv;obtain ⟨d8,d7,bw,_⟩:=Zf X;subst bw;obtain ⟨m,al⟩:=fu.out.key aq X (by rw [World.size_alloc];exact fv);obtain ⟨bo,bp,f2,bq,br,bs,bt⟩:=Zdk (Yh ad.heap.size ad) (Ya.1 m).1 m;have U:=Za al;clear X aq fv m al;go_wp2_with (at_builtin;refine wpList_append_own_at _ rfl (.tmp 123) (.tmp 125) 125 rfl (w.heap.size+2) 3 bk _ 1 8 Tryz.underlying125 bc bh bi bj rfl (by decide) _ _ _ rfl (U.out.2.2.2.1.alloc _) ⟨ad.heap.size,0,none⟩ 1 1 [.int .i64 J] rfl rfl (ZY _ [.int .i64 J] 3 (by simp)) (by intro u E;simp at E;subst E;rfl) (by unfold maxLen;omega) (by omega) (by have:=U.out.2.2.2.2.2.2;simp at this ⊢;omega) ?next)
        case next =>
         intro ee ax Y ar _ ap;obtain ⟨ec,eb,bz,_⟩:=Zf Y;subst bz;obtain ⟨m,am⟩:=U.out.val ar Y (by rw [World.size_alloc];simpa using ap);obtain ⟨c8,c9,db,dc,dd,de,df⟩:=Zdk (Yh ax.heap.size ax) (Ya.1 m).1 m;have bl:=Za am;clear Y ar ap m am bo bp f2 bq br bs bt;go_wp2_with fail
         go_roundw
         case rel=>exact ⟨Q+2,d+1,false,_,_,ak++[I],aw++[J],by omega,by go_num,rfl,by omega,(by have:=HI.out;show _=_;omega),⟨HG.out.2.1.symm,HG.out.2.2.1.symm,(by rw [HG.out.2.2.2];rfl)⟩,bl.out⟩
         case measure=>simp [intOf];omega
      ·by_cases du:0≤I
       ·skip
        go_wp2_with fail
        refine (ca.out _).mono ?_;rintro e a7 ⟨rfl,q⟩;rw [q];clear q;go_wp2_with fail
        refine (cb.out _).mono ?_;rintro e a7 ⟨rfl,q⟩;rw [q];clear q;go_wp2_with (at_builtin;refine wpList_append_own_at _ rfl (.tmp 117) (.tmp 119) 125 rfl (w.heap.size+2) 3 bk _ 1 8 Tryz.underlying125 bc bh bi bj rfl (by decide) _ _ _ rfl (fu.out.2.2.1.alloc _) ⟨wr.heap.size,0,none⟩ 1 1 [.int .i64 I] rfl rfl (ZY wr [.int .i64 I] 3 rfl) (by intro u E;simp at E;subst E;rfl) (by unfold maxLen;omega) (by omega) (by have:=fu.out.2.2.2.2.2.2;simp;omega) ?next)
        case next =>
         intro ea ad X aq _ fv;obtain ⟨d8,d7,bw,_⟩:=Zf X;subst bw;obtain ⟨m,al⟩:=fu.out.key aq X (by rw [World.size_alloc];exact fv);obtain ⟨bo,bp,f2,bq,br,bs,bt⟩:=Zdk (Yh ad.heap.size ad) (Ya.1 m).1 m;have U:=Za al;clear X aq fv m al;go_wp2_with (at_builtin;refine wpList_append_own_at _ rfl (.tmp 123) (.tmp 125) 125 rfl (w.heap.size+2) 3 bk _ 1 8 Tryz.underlying125 bc bh bi bj rfl (by decide) _ _ _ rfl (U.out.2.2.2.1.alloc _) ⟨ad.heap.size,0,none⟩ 1 1 [.int .i64 J] rfl rfl (ZY _ [.int .i64 J] 3 (by simp)) (by intro u E;simp at E;subst E;rfl) (by unfold maxLen;omega) (by omega) (by have:=U.out.2.2.2.2.2.2;simp at this ⊢;omega) ?next)
         case next =>
          intro ee ax Y ar _ ap;obtain ⟨ec,eb,bz,_⟩:=Zf Y;subst bz;obtain ⟨m,am⟩:=U.out.val ar Y (by rw [World.size_alloc];simpa using ap);obtain ⟨c8,c9,db,dc,dd,de,df⟩:=Zdk (Yh ax.heap.size ax) (Ya.1 m).1 m;have bl:=Za am;clear Y ar ap m am bo bp f2 bq br bs bt;go_wp2_with fail
          go_roundw
          case rel=>exact ⟨Q+2,d+1,decide (0≤J),_,_,ak++[I],aw++[J],by omega,by go_num,rfl,by omega,(by have:=HI.out;show _=_;omega),⟨HG.out.2.1.symm,HG.out.2.2.1.symm,(by rw [HG.out.2.2.2,decide_eq_true du];rfl)⟩,bl.out⟩
          case measure=>simp [intOf];omega
       ·have ef:=Za du;go_wp2_with fail
        refine (ca.out _).mono ?_;rintro e a7 ⟨rfl,q⟩;rw [q];clear q;go_wp2_with fail
        refine (cb.out _).mono ?_;rintro e a7 ⟨rfl,q⟩;rw [q];clear q;go_wp2_with (at_builtin;refine wpList_append_own_at _ rfl (.tmp 117) (.tmp 119) 125 rfl (w.heap.size+2) 3 bk _ 1 8 Tryz.underlying125 bc bh bi bj rfl (by decide) _ _ _ rfl (fu.out.2.2.1.alloc _) ⟨wr.heap.size,0,none⟩ 1 1 [.int .i64 I] rfl rfl (ZY wr [.int .i64 I] 3 rfl) (by intro u E;simp at E;subst E;rfl) (by unfold maxLen;omega) (by omega) (by have:=fu.out.2.2.2.2.2.2;simp;omega) ?next)
        case next =>
         intro ea ad X aq _ fv;obtain ⟨d8,d7,bw,_⟩:=Zf X;subst bw;obtain ⟨m,al⟩:=fu.out.key aq X (by rw [World.size_alloc];exact fv);obtain ⟨bo,bp,f2,bq,br,bs,bt⟩:=Zdk (Yh ad.heap.size ad) (Ya.1 m).1 m;have U:=Za al;clear X aq fv m al;go_wp2_with (at_builtin;refine wpList_append_own_at _ rfl (.tmp 123) (.tmp 125) 125 rfl (w.heap.size+2) 3 bk _ 1 8 Tryz.underlying125 bc bh bi bj rfl (by decide) _ _ _ rfl (U.out.2.2.2.1.alloc _) ⟨ad.heap.size,0,none⟩ 1 1 [.int .i64 J] rfl rfl (ZY _ [.int .i64 J] 3 (by simp)) (by intro u E;simp at E;subst E;rfl) (by unfold maxLen;omega) (by omega) (by have:=U.out.2.2.2.2.2.2;simp at this ⊢;omega) ?next)
         case next =>
          intro ee ax Y ar _ ap;obtain ⟨ec,eb,bz,_⟩:=Zf Y;subst bz;obtain ⟨m,am⟩:=U.out.val ar Y (by rw [World.size_alloc];simpa using ap);obtain ⟨c8,c9,db,dc,dd,de,df⟩:=Zdk (Yh ax.heap.size ax) (Ya.1 m).1 m;have bl:=Za am;clear Y ar ap m am bo bp f2 bq br bs bt;go_wp2_with fail
          go_roundw
          case rel=>exact ⟨Q+2,d+1,false,_,_,ak++[I],aw++[J],by omega,by go_num,rfl,by omega,(by have:=HI.out;show _=_;omega),⟨HG.out.2.1.symm,HG.out.2.2.1.symm,(by rw [HG.out.2.2.2,decide_eq_false (p:=0≤I) (by have:=ef.out;omega)];rfl)⟩,bl.out⟩
          case measure=>simp [intOf];omega
     ·obtain ⟨c0,c1,c2,c3,c4,c5,cz⟩:=fu.out.cells0;obtain ⟨d0,d1,d2,d3,d4,d5,dz⟩:=fu.out.cells;have be:d=(prs ft).length:=by rw [ZjW,ai.out.2.1];have:=HI.out;have:=cc.out;omega
      have bg:(prs ft).take d=prs ft:=Yj (by omega);obtain ⟨b1,b0,rfl,_⟩:=Zf fu.out.2.2.1;obtain ⟨b8,vc,rfl,_⟩:=Zf fu.out.2.2.2.1;have dp:ft.length % 2=0:=by rw [ai.out.2.1];exact cc.out
      have HX:Hid (namedF kind (nm :: r)=if av=true then some ⟨kind,nm,fr,(prs ft).map kvP,0⟩ else none):=by
       have bu:=HS.out.2.2;rw [bg] at bu;show _=_;rw [ai.out.2.2.2,Zkx _ dp,bu];cases a1 <;> cases (prs ft).all ZcR <;> rfl
      have HY:Hid (av=true→ak.length=d∧ZcP ak=Zai (((prs ft).map kvP).map (·.1))∧ZcP aw=Zai (((prs ft).map kvP).map (·.2))∧((prs ft).map kvP).length=d):=by
       intro ew;have bu:=HS.out.2.2;rw [bg,ew] at bu;have cm:(prs ft).all ZcR=true:=by
        revert bu
        cases (prs ft).all ZcR
        ·simp
        ·simp
       obtain ⟨V,e2⟩:=Zkn (prs ft) cm;refine ⟨by rw [HS.out.1,bg];simp [ZjF,be],by rw [HS.out.1,bg];exact V,by rw [HS.out.2.1,bg];exact e2,by simp [be]⟩
      clear bg be dp;go_wp2_with fail
      cases av
      ·refine bodyPost_ret (v:=.tuple #[rlA wd nm fr b1 d b0 b8 d vc M,.bool false]) (by simp [results,Tryz.results105,go_sem,c0,c1,c2,c3,c4,c5]) rfl (.inl ⟨HX.out,_,_,_,_,_,_,_,_,_,_,rfl,?_⟩);exact (((((fu.out.2.2.2.2.2.1.setCell (Yd _) _).setCell (Yd _) _).setCell (Yd _) _).setCell (Yd _) _).setCell (Yd _) _).setCell (Yd _) _
      ·obtain ⟨fo,e9,fa,cl⟩:=HY.out rfl;have dt:ZaX ⟨kind,nm,fr,(prs ft).map kvP,0⟩=((prs ft).map kvP).map (·.1):=by rw [ZaX,if_neg c7.out.2]
       have et:=fu.out.2.2.1;have e8:=fu.out.2.2.2.1;have O:∀ W:World,∀ v n fx,W.ownsRow (w.heap.size+2) 3 1 v n fx→∀ a x,(W.setCell ⟨w.heap.size,a,none⟩ x).ownsRow (w.heap.size+2) 3 1 v n fx:=fun W v n fx h a x=>Yi h (by show w.heap.size<_;omega) _
       have ds:=O _ _ _ _ (O _ _ _ _ (O _ _ _ _ (O _ _ _ _ (O _ _ _ _ (O _ _ _ _ et 0 (.string wd)) 1 (.string nm)) 2 (.string fr)) 3 (.slice b1 d b0)) 4 (.slice b8 d vc)) 5 (.int .i64 M);have f0:=O _ _ _ _ (O _ _ _ _ (O _ _ _ _ (O _ _ _ _ (O _ _ _ _ (O _ _ _ _ e8 0 (.string wd)) 1 (.string nm)) 2 (.string fr)) 3 (.slice b1 d b0)) 4 (.slice b8 d vc)) 5 (.int .i64 M);refine bodyPost_ret (v:=.tuple #[rlA wd nm fr b1 d b0 b8 d vc M,.bool true]) (by simp [results,Tryz.results105,go_sem,c0,c1,c2,c3,c4,c5]) rfl (.inr ⟨⟨kind,nm,fr,(prs ft).map kvP,0⟩,b1,b0,b8,vc,HX.out,?_,?_,?_,Zm8 ds,Zm8 f0,?_⟩)
       ·rw [dt];simp only [List.length_map] at cl ⊢;rw [cl,c7.out.1]
       ·rw [dt,←e9,List.length_map,cl];exact Zf ds
       ·rw [Zds];simp only;rw [←fa,cl];exact Zf f0
       ·exact (((((fu.out.2.2.2.2.2.1.setCell (Yd _) _).setCell (Yd _) _).setCell (Yd _) _).setCell (Yd _) _).setCell (Yd _) _).setCell (Yd _) _
theorem Zn2 {s:ByteArray} {l:List UInt8} (d:(s.toList == l)=true):s=⟨l.toArray⟩:=by
 apply ZfQ;rw [←ByteArray.toList_eq];simpa using d
theorem ZnB (L:List ByteArray) (I:Int) (A:Option Addr) (D n:Nat) (w:World) (m:RowAt w (.slice A n D) n (Z6 L)) (d:L.length=n) (Q:n≤1001) (X:0<n) (q:∀ p∈L,p.size≤1000) :
  Calls Tryz.prog 105 #[.slice A n D,.int .i64 I] w fun e V=>Zk8 (Zag L) I w V e:=by
 match L,m,d,q with
 | [],_,d,_=>simp at d;omega
 | wd :: r,m,d,q =>
  cases Y:wd.toList == [98,117,100,103,101,116]
  ·by_cases O:((wd.toList == [98,97,115,101])=false∧(wd.toList == [112,111,111,108])=false)∨n<2
   ·refine Zny wd r I A D n w m d Q Y O _ ?_;rw [Zag,Y];simp only [Bool.false_eq_true,if_false];rcases O with ⟨R,U⟩ | h
    ·rw [R,U];rfl
    ·obtain rfl:r=[]:=List.eq_nil_of_length_eq_zero (by simp at d;omega);split
     ·rfl
     ·split <;> rfl
   ·match r,m,d,q with
    | [],_,d,_=>exact absurd (.inr (by simp at d;omega)) O
    | nm :: J,m,d,q =>
     cases E:wd.toList == [98,97,115,101]
     ·cases N:wd.toList == [112,111,111,108]
      ·exact absurd (.inl ⟨E,N⟩) O
      ·have e:Zag (wd :: nm :: J)=namedF 3 (nm :: J):=by rw [Zag,Y,E,N];rfl
       rw [e];exact Zk2 3 wd nm J I A D n w m d Q (fun p M=>q p (List.mem_cons_of_mem _ M)) Y false true E N rfl (Zn2 N) (by omega)
     ·have e:Zag (wd :: nm :: J)=namedF 2 (nm :: J):=by rw [Zag,Y,E];rfl
      rw [e];exact Zk2 2 wd nm J I A D n w m d Q (fun p M=>q p (List.mem_cons_of_mem _ M)) Y true _ E rfl rfl (Zn2 E) (by omega)
  ·have e:Zag (wd :: r)=ZcF r:=by rw [Zag,Y];rfl
   rw [e];obtain rfl:wd=sBudget:=Zn2 Y;exact ZnN r I A D n w m d Q (fun p M=>q p (List.mem_cons_of_mem _ M))
theorem ZjC:∀ (l:List ByteArray) (ss:List (Nat×Nat)),Z8 l=some ss→∀ p∈ss,p.1≤2
 | [],ss,d=>by cases d;simp
 | [_],ss,d=>by cases d
 | k :: n :: r,ss,d=>by
  rw [Z8] at d;split at d
  ·rename_i a b l h hb m
   cases d;intro p q;rcases List.mem_cons.1 q with d | d
   ·subst d;exact (Zkt h).2
   ·exact ZjC r l m p d
  ·cases d
theorem Zky {kind:Nat} {D:List ByteArray} {l:Ln} (E:kind=2∨kind=3) (d:namedF kind D=some l):OkL l:=by
 have key:∀ {q:List ByteArray} {nm fr:ByteArray},ZW nm=true→(Z8 q).map (fun ss=>(⟨kind,nm,fr,ss,0⟩:Ln))=some l→OkL l:=by
  intro q nm fr m d;cases A:Z8 q with
  | none=>rw [A] at d;cases d
  | some ss =>
   rw [A] at d;simp only [Option.map_some,Option.some.injEq] at d;subst d;exact .inr ⟨E,m,ZjC _ _ A⟩
 match D,d with
 | [],d=>cases d
 | nm :: r,d =>
  cases h:Zf7 r
  ·rw [Zjc h] at d;split at d
   ·rename_i m;exact key m d
   ·cases d
  ·match r,h,d with
   | [],h,_=>cases h
   | [f],h,d=>rw [Zia h] at d;cases d
   | f :: b :: I,h,d =>
    rw [Zjx h] at d;split at d
    ·rename_i m
     simp only [Bool.and_eq_true] at m;exact key m.1 d
    ·cases d
theorem Zku {h:List ByteArray} {l:Ln} (d:Zag h=some l):OkL l:=by
 match h,d with
 | [],d=>cases d
 | q :: rest,d =>
  rw [Zag] at d;split at d
  ·match rest,d with
   | [],d=>cases d
   | [a],d =>
    rw [ZcF] at d;cases m:Za9 a with
    | none=>rw [m] at d;cases d
    | some x =>
     rw [m] at d;simp only [Option.map_some,Option.some.injEq] at d;subst d;exact .inl ⟨rfl,rfl,rfl,_,rfl⟩
   | a :: b :: c,d=>cases d
  ·split at d
   ·exact Zky (.inl rfl) d
   ·split at d
    ·exact Zky (.inr rfl) d
    ·cases d
theorem ZoK (l:Ln) (ab:OkL l) (U:l.sets.length≤1001) (D:Option Addr) (A:Nat) (E:Option Addr) (vc:Nat) (I:Int) (m:Option Addr) (q n:Nat) (h:List RL) (w:World) (J:RLinesAt w (.slice m n q) h) (L:h.length=n) (M:n≤1001)
  (N:RowAt w (.slice D (ZaX l).length A) (ZaX l).length (Zai (ZaX l))) (O:RowAt w (.slice E l.sets.length vc) l.sets.length (Zai (Zds l))) :
  Calls Tryz.prog 106 #[.slice m n q,rlA (kwK l.kind) l.name l.frm D (ZaX l).length A E l.sets.length vc I,.bool true] w fun e w'=>e=.returned (.int .i64 (ZM (Zy h) l))∧Below w.heap.size w w':=by
 rcases ab with ⟨d,V,aa,x,X⟩ | ⟨d,V,Q⟩
 ·obtain ⟨kind,ac,Y,ss,place⟩:=l;simp only at d V aa X;subst d X;exact ZpA x ac Y D A E vc I place m q n h w J L M O
 ·have R:ZaX l=l.sets.map (·.1):=by rw [ZaX,if_neg (by omega)]
  rw [R,List.length_map] at N;rw [R,List.length_map];rcases d with d | d
  ·rw [d];exact Zsd l d Q _ rfl U D A E vc I m q n h w J L M N O
  ·rw [d];exact ZrY l d Q _ rfl U D A E vc I m q n h w J L M N O
def RSv (w:World) (p:RL):Prop:=Lists w p∧(∀ so n sc,p.2.1=.slice so n sc→FrI w so)∧(∀ so n sc,p.2.2=.slice so n sc→FrI w so)
theorem RSv.nx {w h:World} {p:RL} (d:RSv w p) (hb:Below w.heap.size w h):RSv h p:=⟨d.1.nx hb,fun so n sc e=>(d.2.1 so n sc e).nx hb,fun so n sc e=>(d.2.2 so n sc e).nx hb⟩
theorem FrI.ne {w:World} {so:Option Addr} (h:FrI w so) {m:Option Nat} (A:∀ g,m=some g→∃ d,w.heap[g]?=some (.cells d 127 (0,0))):∀ b off,so=some ⟨b,off,none⟩→m≠some b:=by
 intro b off e e3;obtain ⟨d,q⟩:=h b off e;obtain ⟨D,E⟩:=A b e3;rw [q] at E;simp at E
theorem FrI.grown {w A:World} {so:Option Addr} {q:Option Nat} (h:FrI w so) (E:w.grownBy A q) (I:∀ g,q=some g→∃ d,w.heap[g]?=some (.cells d 127 (0,0))):FrI A so:=by
 intro b off e;obtain ⟨d,m⟩:=h b off e;exact ⟨d,(E.block b (Ya.1 m).1 (fun D=>h.ne I b off e D.symm)).trans m⟩
theorem RSv.grown {w D:World} {p:RL} {A:Option Nat} (d:RSv w p) (h:w.grownBy D A) (I:∀ g,A=some g→∃ E,w.heap[g]?=some (.cells E 127 (0,0))):RSv D p:=by
 refine ⟨⟨Zhn d.1.1 h (fun so m sc b off q e2=>(d.2.1 so m sc q).ne I b off e2),Zhn d.1.2 h (fun so m sc b off q e2=>(d.2.2 so m sc q).ne I b off e2)⟩,fun so n sc e=>(d.2.1 so n sc e).grown h I,fun so n sc e=>(d.2.2 so n sc e).grown h I⟩
def ZtB (s:ByteArray) (w w':World) (e:Ending):Prop:=
 ((rd s).err≠0∧e=.returned (.tuple #[.slice none 0 0,.int .i64 (rd s).err,.int .i64 (rd s).at'])∧Below w.heap.size w w') ∨
 (∃ ls ao cap,(rd s).err=0∧(rd s).lines=Zy ls∧ls.length≤1001∧0<ls.length∧e=.returned (.tuple #[.slice ao ls.length cap,.int .i64 0,.int .i64 0])∧RLinesAt w' (.slice ao ls.length cap) ls∧Below w.heap.size w w')
theorem Zr9:(Tryz.prog.info? 127).map (fun i=>(i.zero,i.size,i.bytes))=some (some (.agg #[.string ⟨#[]⟩,.string ⟨#[]⟩,.string ⟨#[]⟩,.slice none 0 0,.slice none 0 0,.int .i64 0]),6,104):=by kernel_rfl
theorem ZpM {i:Nat} {d:List Ln} {p:ByteArray} {r:List ByteArray} (h:¬(Zav p).length=0) (hb:Zag (Zav p)=none):rdC i d (p :: r)=⟨[],2,i+1⟩:=by
 rw [rdC,if_neg h,hb]
theorem ZpT {i:Nat} {d:List Ln} {p:ByteArray} {r:List ByteArray} {l:Ln} (h:¬(Zav p).length=0) (m:Zag (Zav p)=some l) (hb:ZM d l≠0):rdC i d (p :: r)=⟨[],ZM d l,i+1⟩:=by
 rw [rdC,if_neg h,m];simp only;rw [if_neg hb]
theorem Zpz {i:Nat} {d:List Ln} {p:ByteArray} {r:List ByteArray} {l:Ln} (h:¬(Zav p).length=0) (m:Zag (Zav p)=some l) (hb:ZM d l=0):rdC i d (p :: r)=rdC (i+1) (d++[{l with place:=i+1}]) r:=by
 rw [rdC,if_neg h,m];simp only;rw [if_pos hb]
theorem Zqi (s:ByteArray) (w:World) (b8:s.size≤1000) :
  Calls Tryz.prog 64 #[.string s] w fun e w'=>ZtB s w w' e:=by
 obtain ⟨ct,ci,co,cp,cq⟩:=info_parts Zr9;go_enter Tryz.func64,Tryz.ntmps64
 go_wp2_with fail
 refine (ZpD s _ b8).mono ?_;rintro e w1 ⟨cr,cs,rfl,a1,bt⟩;have bx:=Zdh s 10;have bk:=ZdQ s 10;obtain ⟨ps,hps⟩:∃ ps,ZP s 10=ps:=⟨_,rfl⟩;rw [hps] at a1 bx bk ⊢;obtain ⟨n,bh⟩:∃ n,ps.length=n:=⟨_,rfl⟩;rw [bh] at a1 bx ⊢;have HP:Hid (RowAt w1 (.slice cr n cs) n (Z6 ps)∧ps.length=n∧ZP s 10=ps∧∀ p∈ps,p.size≤s.size):=⟨a1,bh,hps,bk⟩;have al:Hid (Below w.heap.size w w1):=bt;clear a1 bh hps bt bk;go_wp2_with fail
 go_loopw [5,7] (fun v i wr=>∃ (k m:Nat) (db:List RL),k≤n∧i=.int .i64 k∧m≤k∧Hid (rd s=rdC k (Zy db) (ps.drop k)∧db.length=m∧∀ p∈db,RSv wr p)∧wr.ownsRow w1.heap.size 127 6 v m (Zb9 db)∧Below w1.heap.size w1 wr) (fun _ i _=>n - (intOf i).toNat)
 case atStart=>exact ⟨0,0,[],Ye _,rfl,Yd _,⟨by rw [rd,HP.out.2.2.1];rfl,rfl,by simp⟩,Yq _ _ _ _,Yh _ _⟩
 case round =>
  obtain ⟨k,m,db,c6,rfl,c8,A,af,aa⟩:=hrel;obtain ⟨a7,vc,cm,_⟩:=Zf af;subst cm;by_cases cj:k<n
  ·obtain ⟨p,a6⟩:∃ p,ps[k]?=some p:=⟨_,Yb (by rw [HP.out.2.1];exact cj)⟩;obtain ⟨bl,off,ck,cx,cy⟩:=(HP.out.1.nx aa).at (ZdH a6);subst ck;have b7:p.size≤1000:=Ym (HP.out.2.2.2 p (Yo a6)) b8;have HD:Hid (ps.drop k=p :: ps.drop (k+1)):=Zas a6;have c7:(k:Int)<(n:Int):=by omega
   clear a6;go_wp2_with fail
   refine (Zmt p _ b7).mono ?_;rintro e de ⟨bs,br,rfl,aq,ao⟩;have bv:=Zio p;have be:=Zjk p;obtain ⟨U,bc⟩:∃ U,Zav p=U:=⟨_,rfl⟩;rw [bc] at aq bv be ⊢;obtain ⟨O,bd⟩:∃ O,U.length=O:=⟨_,rfl⟩;rw [bd] at aq bv ⊢;have ay:=Zx af ao;have ai:=Zb aa ao;have N:Hid (RowAt de (.slice bs O br) O (Z6 U)∧U.length=O∧Zav p=U∧∀ q∈U,q.size≤p.size):=⟨aq,bd,bc,be⟩;have bo:Hid (∀ p∈db,RSv de p):=fun q L=>(A.out.2.2 q L).nx ao
   clear aq bd bc be af aa ao;by_cases ar:O=0
   ·have ag:Hid (O=0):=ar;have cg:((O:Int) == 0)=true:=by rw [ar];rfl
    have c0:¬0<O:=by omega
    clear ar;go_wp2_with fail
    go_roundw
    case rel=>exact ⟨k+1,m,db,by omega,by go_num,by omega,⟨by rw [A.out.1,HD.out,Zim (by rw [N.out.2.2.1,N.out.2.1];exact ag.out)],A.out.2.1,bo.out⟩,ay,ai⟩
    case measure=>simp [intOf];omega
   ·have cg:((O:Int) == 0)=false:=by simp;omega
    have ag:Hid (¬(Zav p).length=0):=by show ¬_;rw [N.out.2.2.1,N.out.2.1];exact ar
    have cd:=Za (ZnB U ((k:Int)+1) bs br O de N.out.1 N.out.2.1 (by omega) (by omega) (fun q L=>Ym (N.out.2.2.2 q L) b7));go_wp2_with fail
    refine cd.out.mono ?_;rintro e ac (⟨b0,wd,nm,fr,E,dc,D,J,ca,I,cb,rfl,Y⟩ | ⟨l,E,D,J,I,av,rfl,bi,bj,bu,bw,Y⟩)
    ·have d:Hid ((rd s).err=2∧(rd s).at'=k+1∧Below w.heap.size w (ac.alloc (bRL wd nm fr E dc D J ca I cb))):=by
      have e:rd s=⟨[],2,k+1⟩:=by
       rw [A.out.1,HD.out,ZpM ag.out (by rw [N.out.2.2.1];exact b0)]
      refine ⟨by rw [e],by rw [e],Zb (Zb al.out (Zb ai Y)) (Zc _ _)⟩
     clear ay ai Y b0;go_wp2_with fail
     refine (Zqz wd nm fr E dc D J ca I cb a7 m vc _).mono ?_;rintro e cu ⟨rfl,Q⟩;have cc:Hid (Below w.heap.size w cu):=Zb d.out.2.2 Q;clear Q;go_wp2_with fail
     go_ret3
     refine .inl ⟨by rw [d.out.1];decide,?_,cc.out⟩;exact Zd4 (by rw [d.out.1];rfl) (by rw [d.out.2.1];omega) rfl
    ·obtain ⟨dc,ax⟩:∃ dc,(ZaX l).length=dc:=⟨_,rfl⟩;obtain ⟨M,aw⟩:∃ M,l.sets.length=M:=⟨_,rfl⟩;obtain ⟨ab,au⟩:∃ ab,kwK l.kind=ab:=⟨_,rfl⟩;have b1:=Zku av;have bz:l.sets.length≤1001:=Ym (ZfE av).2.2 (by rw [N.out.2.1];omega);obtain ⟨dd,ah⟩:∃ dd,dd=ac.alloc (bRL ab l.name l.frm E dc D J M I ((k:Int)+1)):=⟨_,rfl⟩;have Q:Below ac.heap.size ac dd:=by rw [ah];exact Zc _ _
     have az:=Zx (Zx ay Y) Q;have ap:=Zb (Zb ai Y) Q;have HV:Hid ((∀ p∈db,RSv dd p)∧RSv dd ({l with place:=k+1},.slice E dc D,.slice J M I)):=by
      refine ⟨fun q L=>((bo.out q L).nx Y).nx Q,?_⟩;refine RSv.nx ?_ Q;refine ⟨⟨?_,?_⟩,?_,?_⟩
      ·rw [←ax];exact bi
      ·rw [←aw];exact bj
      ·intro so n' sc e;simp only [Value.slice.injEq] at e;obtain ⟨rfl,_,_⟩:=e;exact bu
      ·intro so n' sc e;simp only [Value.slice.injEq] at e;obtain ⟨rfl,_,_⟩:=e;exact bw
     have bq:=Za (ZoK l b1 bz E D J I ((k:Int)+1) a7 vc m db dd ⟨by rw [A.out.2.1];exact Zf az,fun q L=>(HV.out.1 q L).1⟩ A.out.2.1 (by omega) (bi.nx Q) (bj.nx Q));rw [au,ax,aw] at bq;rw [au,ax,aw];have ce:=Za au;have a8:Hid (dd=ac.alloc (bRL ab l.name l.frm E dc D J M I ((k:Int)+1))∧dd.heap[ac.heap.size]?=some (bRL ab l.name l.frm E dc D J M I ((k:Int)+1))∧dd.heap.size=ac.heap.size+1):=⟨ah,by rw [ah];exact ZC _ _ rfl,by rw [ah];simp⟩;have HL:=Za av;clear ay ai Y Q bi bj bu bw ax aw au b1 bz ah av;go_wp2_with fail
     rw [←a8.out.1];refine bq.out.mono ?_;rintro e ad ⟨rfl,V⟩;obtain ⟨X,ae⟩:∃ X,ZM (Zy db) l=X:=⟨_,rfl⟩;rw [ae];obtain ⟨am,cv,e2,e3,e4,e5,cw⟩:=Zdk V (by rw [a8.out.2.2];omega) a8.out.2.1;by_cases aj:X=0
     ·have a0:=Zx az V;have a9:=Zb ap V;have cf:w1.heap.size≤ad.heap.size:=a9.size;have d:Hid (rd s=rdC (k+1) (Zy (db++[({l with place:=k+1},.slice E dc D,.slice J M I)])) (ps.drop (k+1))):=by
       show _=_;rw [A.out.1,HD.out,Zpz ag.out (by rw [N.out.2.2.1];exact HL.out) (by rw [ae,aj])];simp [Zy]
      have bp:Hid ((∀ p∈db,RSv ad p)∧RSv ad ({l with place:=k+1},.slice E dc D,.slice J M I)):=⟨fun q L=>(HV.out.1 q L).nx V,HV.out.2.nx V⟩;subst aj;clear az ap V ae HV;go_wp2_with (at_builtin;refine wpList_append_own _ rfl (.tmp 44) (.tmp 46) 120 rfl w1.heap.size 127 ct _ 6 104 Tryz.underlying120 ci co cp cq rfl (by decide) _ _ _ rfl (a0.alloc _) ⟨ad.heap.size,0,none⟩ 1 1 [.string ab,.string l.name,.string l.frm,.slice E dc D,.slice J M I,.int .i64 ((k:Int)+1)] rfl rfl (ZY ad [.string ab,.string l.name,.string l.frm,.slice E dc D,.slice J M I,.int .i64 ((k:Int)+1)] 127 rfl) ?c2 ?c3 ?c4 ?c5 ?next)
      case c2=>intro u b9;simp at b9;rcases b9 with rfl | rfl | rfl | rfl | rfl | rfl <;> rfl
      case c3=>unfold maxLen;omega
      case c4=>omega
      case c5=>simp;omega
      case next =>
       intro v' bm b6 bf _;have R:bm.ownsRow w1.heap.size 127 6 v' (m+1) (Zb9 (db++[({l with place:=k+1},.slice E dc D,.slice J M I)]))∧Below w1.heap.size w1 bm∧∀ p∈db++[({l with place:=k+1},.slice E dc D,.slice J M I)],RSv bm p:=by
        refine ⟨by rw [ZgX];simp only [Zb9];rw [ce.out];exact b6,(a9.alloc cf _).grown bf (by simp;omega) (fun g ch=>(a0.lt g ch).1),?_⟩;intro q L;have cl:RSv ad q:=by
         rcases List.mem_append.1 L with h | h
         ·exact bp.out.1 q h
         ·simp at h;subst h;exact bp.out.2
        exact (cl.nx (Zc _ _)).grown bf (Z5 (a0.alloc _))
       clear b6 bf a0 a9;go_wp2_with fail
       go_roundw
       case rel=>exact ⟨k+1,m+1,db++[({l with place:=k+1},.slice E dc D,.slice J M I)],by omega,by go_num,by omega,⟨d.out,by simp [A.out.2.1],R.2.2⟩,R.1,R.2.1⟩
       case measure=>simp [intOf];omega
     ·have d:Hid ((rd s).err=X∧(rd s).at'=k+1∧Below w.heap.size w ad∧X≠0):=by
       have e:rd s=⟨[],X,k+1⟩:=by
        rw [A.out.1,HD.out,ZpT ag.out (by rw [N.out.2.2.1];exact HL.out) (by rw [ae];exact aj),ae]
       refine ⟨by rw [e],by rw [e],Zb al.out (Zb ap V),aj⟩
      have cz:((X:Int) != 0)=true:=by rw [bne_iff_ne];omega
      clear az ap V ae aj;go_wp2_with fail
      go_ret3
      refine .inl ⟨by rw [d.out.1];exact d.out.2.2.2,?_,d.out.2.2.1⟩;exact Zd4 (by rw [d.out.1]) (by rw [d.out.2.1];omega) rfl
  ·have am:ps.drop k=[]:=List.drop_of_length_le (by rw [HP.out.2.1];omega);obtain rfl:k=n:=by omega
   have ak:rd s=rdC k (Zy db) []:=by rw [A.out.1,am]
   rw [rdC] at ak;by_cases bg:m=0
   ·have d:Hid (rd s=⟨[],2,k⟩∧Below w.heap.size w wr):=⟨by rw [ak,if_pos (by simp [Zy,A.out.2.1,bg])],Zb al.out aa⟩;subst bg;clear ak am af aa;go_wp2_with fail
    go_ret3
    exact .inl ⟨by rw [d.out.1];exact (by decide:(2:Nat)≠0),Zd4 (by rw [d.out.1];rfl) (by rw [d.out.1]) rfl,d.out.2⟩
   ·have d:Hid (rd s=⟨Zy db,0,0⟩∧Below w.heap.size w wr∧RLinesAt wr (.slice a7 m vc) db∧db.length=m):=
     ⟨by rw [ak,if_neg (by simp [Zy,A.out.2.1,bg])],Zb al.out aa,⟨by rw [A.out.2.1];exact Zf af,fun q L=>(A.out.2.2 q L).1⟩,A.out.2.1⟩
    have c9:((m:Int) == 0)=false:=by simp;omega
    clear ak am af aa;go_wp2_with fail
    go_ret3
    refine .inr ⟨db,a7,vc,by rw [d.out.1],by rw [d.out.1],by rw [d.out.2.2.2];omega,by rw [d.out.2.2.2];omega,Zd4 rfl rfl (by rw [d.out.2.2.2]),?_,d.out.2.1⟩;rw [d.out.2.2.2];exact d.out.2.2.1
theorem ZjJ:∀ (A:List Ln) (kind:Nat) (d:ByteArray) (k:Nat),(Zbj A kind d=none∧Zbd A kind d k=-1)∨(∃ j l,Zbj A kind d=some l∧A[j]?=some l∧Zbd A kind d k=((k+j:Nat):Int))
 | [],kind,d,k=>.inl ⟨rfl,rfl⟩
 | l :: r,kind,d,k=>by
  unfold Zbj;rw [Zbd,List.find?_cons];by_cases h:Zhu kind d l=true
  ·have m:((l.kind == kind)&&(l.name.toList == d.toList))=true:=h;rw [if_pos h,m];exact .inr ⟨0,l,rfl,rfl,rfl⟩
  ·have q:Zhu kind d l=false:=by simpa using h
   have m:((l.kind == kind)&&(l.name.toList == d.toList))=false:=q;rw [if_neg h,m];rcases ZjJ r kind d (k+1) with ⟨a,b⟩ | ⟨j,l',a,b,c⟩
   ·exact .inl ⟨a,b⟩
   ·exact .inr ⟨j+1,l',a,by simpa using b,by rw [c];congr 1;omega⟩
def chI (L:List Ln):Nat→Nat→List Nat
 | 0,_=>[]
 | f+1,i=>match L[i]? with
  | none=>[]
  | some l=>if l.frm.toList.isEmpty=true then [] else (Zbd L 2 l.frm 0).toNat :: chI L f (Zbd L 2 l.frm 0).toNat
def Zcd (L:List Ln):Prop:=∀ l∈L,baC L l.frm=true
theorem ZhI (m:List Ln):∀ q:List Ln,noC m q=none→∀ l∈q,baC m l.frm=true
 | [],_,l,d=>by simp at d
 | p :: r,h,l,d=>by
  rw [noC] at h;split at h
  ·rename_i hb
   rcases List.mem_cons.1 d with d | d
   ·subst d;exact hb
   ·exact ZhI m r h l d
  ·cases h
theorem ZjE {d:List Ln} (hb:Zcd d) {i:Nat} {l:Ln} (q:d[i]?=some l) (m:l.frm.toList.isEmpty=false):∃ (j:Nat) (l':Ln),Zbj d 2 l.frm=some l'∧d[j]?=some l'∧Zbd d 2 l.frm 0=(j:Int)∧j<d.length:=by
 have h:=hb l (Yo q);rw [baC,m,Bool.false_or] at h;rcases ZjJ d 2 l.frm 0 with ⟨a,_⟩ | ⟨j,l',a,b,c⟩
 ·rw [a] at h;cases h
 ·exact ⟨j,l',a,b,by rw [c];congr 1;omega,(Yc.1 b).1⟩
theorem Zis {d:List Ln} {f i:Nat} {l:Ln} (m:d[i]?=some l) (h:l.frm.toList.isEmpty=true):chI d f i=[]:=by
 cases f with
 | zero=>rfl
 | succ f=>rw [chI,m];simp only;rw [if_pos h]
theorem Zl4 {d:List Ln} {f i j:Nat} {l:Ln} (q:d[i]?=some l) (h:l.frm.toList.isEmpty=false) (m:Zbd d 2 l.frm 0=(j:Int)):chI d (f+1) i=j :: chI d f j:=by
 rw [chI,q];simp only;rw [if_neg (by simp [h]),m];rfl
theorem Zo3 {h:List Ln} (hb:Zcd h):∀ (f i:Nat),∀ j∈chI h f i,j<h.length
 | 0,_,j,d=>by simp [chI] at d
 | f+1,i,j,d=>by
  cases m:h[i]? with
  | none=>rw [chI,m] at d;simp at d
  | some l =>
   cases q:l.frm.toList.isEmpty
   ·obtain ⟨D,l',_,E,A,I⟩:=ZjE hb m q;rw [Zl4 m q A] at d;rcases List.mem_cons.1 d with d | d
    ·omega
    ·exact Zo3 hb f D j d
   ·rw [Zis m q] at d;simp at d
theorem ZhS (d:List Ln):∀ (f i:Nat),(chI d f i).length≤f
 | 0,_=>by simp [chI]
 | f+1,i=>by
  rw [chI];split
  ·simp
  ·split
   ·simp
   ·have:=ZhS d f (Zbd d 2 (by assumption:Ln).frm 0).toNat;simp;omega
theorem Zmy (a b:List Nat):Zai (a++b)=Zai a++Zai b:=by simp [Zai]
theorem Zp3 (a:List Nat):(Zai a).length=a.length:=by simp [Zai]
theorem Zhs (D d:Nat) (U:Option Addr) (Q m:Nat) (bt:List RL) (w:World) (ag:RLinesAt w (.slice U m Q) bt) (ah:bt.length=m) (a6:m≤1001) (aw:D<m) (bj:d≤1002) (hb:Zcd (Zy bt)) :
  Calls Tryz.prog 108 #[.slice U m Q,.int .i64 (D:Int),.int .i64 (d:Int)] w fun e w'=>∃ ae ad,e=.returned (.slice ae (chI (Zy bt) d D).length ad)∧w'.ownsRow w.heap.size 3 1 (.slice ae (chI (Zy bt) d D).length ad) (chI (Zy bt) d D).length (Zai (chI (Zy bt) d D))∧Below w.heap.size w w':=by
 obtain ⟨be,av,a8,a9,bc⟩:=info_parts Zij;have J:Hid (RLinesAt w (.slice U m Q) bt∧bt.length=m∧Zcd (Zy bt)):=⟨ag,ah,hb⟩;obtain ⟨L,V⟩:∃ L,chI (Zy bt) d D=L:=⟨_,rfl⟩;rw [V];have HR:=Za V;clear ag ah hb V;go_enter Tryz.func108,Tryz.ntmps108
 go_wp2_with fail
 go_loopw [1,7] (fun bd v wr=>∃ (i h:Nat) (q:List Nat) (O:Option Addr) (vc:Nat),bd=.int .i64 i∧v=.slice O h vc∧i<m∧h≤d∧Hid (L=q++chI (Zy bt) (d - h) i∧q.length=h)∧wr.ownsRow w.heap.size 3 1 (.slice O h vc) h (Zai q)∧Below w.heap.size w wr) (fun _ v _=>d - lenOf v)
 case atStart=>exact ⟨D,0,[],none,0,rfl,rfl,aw,Ye _,⟨by rw [←HR.out];rfl,rfl⟩,Yq _ _ _ _,Yh _ _⟩
 case round =>
  obtain ⟨i,h,q,O,vc,rfl,rfl,ax,bk,A,M,I⟩:=hrel;by_cases bi:h<d
  ·obtain ⟨⟨l,bo,br⟩,R⟩:∃ p,bt[i]?=some p:=⟨_,Yb (by rw [J.out.2.1];exact ax)⟩;obtain ⟨ao,off,bm,bl,bq,bp,ap,bg,_,_,_,_,bf,c1,c2,c3,c4,c5⟩:=(J.out.1.nx I).at R;have N:=Zci R;have a1:(h:Int)<(d:Int):=by omega
   have bh:(i:Int)<(m:Int):=by omega
   subst ap;cases X:l.frm.toList.isEmpty
   ·obtain ⟨j,l',ay,az,Y,aa⟩:=ZjE J.out.2.2 N X;have a0:j<m:=by rw [Zby,J.out.2.1] at aa;exact aa
    have E:Hid (L=(q++[j])++chI (Zy bt) (d - (h+1)) j):=by
     show _=_;obtain ⟨f,aq⟩:∃ f,d - h=f+1:=⟨d - h - 1,by omega⟩;have ar:d - (h+1)=f:=by omega
     rw [A.out.1,aq,Zl4 N X Y,ar,List.append_assoc];rfl
    have ac:=Za (Znq l.frm (some ⟨ao,off,none⟩) Q m bt wr (J.out.1.nx I) J.out.2.1 a6);rw [Y] at ac;have hB:w.heap.size≤wr.heap.size:=I.size;clear R N ay az Y aa;go_wp2_with fail
    refine ac.out.mono ?_;rintro e bs ⟨rfl,aj⟩;rw [aj];clear aj;go_wp2_with (at_builtin;refine wpList_append_own _ rfl (.tmp 27) (.tmp 29) 125 rfl w.heap.size 3 be _ 1 8 Tryz.underlying125 av a8 a9 bc rfl (by decide) _ _ _ rfl (M.alloc _) ⟨wr.heap.size,0,none⟩ 1 1 [.int .i64 (j:Int)] rfl rfl (ZY wr [.int .i64 (j:Int)] 3 rfl) (by intro u ai;simp at ai;subst ai;rfl) (by unfold maxLen;omega) (by omega) (by simp;omega) ?next)
    case next =>
     intro v' am ab af _;obtain ⟨al,ak,a7,_⟩:=Zf ab;subst a7;have RR:am.ownsRow w.heap.size 3 1 (.slice al (h+1) ak) (h+1) (Zai (q++[j]))∧Below w.heap.size w am:=
      ⟨by rw [Zmy];exact ab,(I.alloc hB _).grown af (by simp;omega) (fun g au=>(M.lt g au).1)⟩
     clear ab af M I;go_wp2_with fail
     go_roundw
     case rel=>exact ⟨j,h+1,q++[j],al,ak,rfl,rfl,a0,by omega,⟨E.out,by simp [A.out.2]⟩,RR.1,RR.2⟩
     case measure=>simp [lenOf];omega
   ·have E:Hid (L=q):=by show _=_;rw [A.out.1,Zis N X];simp
    clear R N;go_wp2_with fail
    go_ret
    exact ⟨O,vc,ZeP (by rw [E.out,A.out.2]),by rw [E.out,A.out.2];exact M,I⟩
  ·have E:Hid (L=q):=by
    show _=_;have:d - h=0:=by omega
    rw [A.out.1,this];simp [chI]
   have a1:¬(h:Int)<(d:Int):=by omega
   go_wp2_with fail
   go_ret
   exact ⟨O,vc,ZeP (by rw [E.out,A.out.2]),by rw [E.out,A.out.2];exact M,I⟩
end Co
end Go.Proofs.YtmgkcbdlfodjmaaGreatDoor
