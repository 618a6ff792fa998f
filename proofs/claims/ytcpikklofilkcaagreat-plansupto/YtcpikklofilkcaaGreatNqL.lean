import Derived.Test.YtcpikklofilkcaaGreatNqK
set_option maxRecDepth 100000
set_option maxHeartbeats 16000000
namespace Go.Proofs.YtcpikklofilkcaaGreat
open Go.RowKit
namespace Co
def RMade (o:Option Ln) (pl:Int) (w w':World) (e:Ending):Prop:=
 (o=none∧∃ wd nm fr ko nk kc vo nv vc p,e=.returned (.tuple #[rlA wd nm fr ko nk kc vo nv vc p,.bool false])∧Below w.heap.size w w') ∨
 (∃ l ko kc vo vc,o=some l∧e=.returned (.tuple #[rlA (kwK l.kind) l.name l.frm ko (keysOf l).length kc vo l.sets.length vc pl,.bool true])∧RowAt w' (.slice ko (keysOf l).length kc) (keysOf l).length (ints (keysOf l))∧RowAt w' (.slice vo l.sets.length vc) l.sets.length (ints (valsOf l))∧FrI w' ko∧FrI w' vo∧Below w.heap.size w w')
abbrev bZ6:Obj:=.cells #[.string ⟨#[]⟩,.string ⟨#[]⟩,.string ⟨#[]⟩,.slice none 0 0,.slice none 0 0,.int .i64 0] 122
theorem Zg9 (r:List ByteArray) (pl:Int) (ao:Option Addr) (cap n:Nat) (w:World) (hr:RowAt w (.slice ao n cap) n (strs (sBudget :: r))) (hn:(sBudget :: r).length=n) (hn1:n≤1001) (hsm:∀ p∈r,p.size≤1000) :
  Calls Tryz.prog 98 #[.slice ao n cap,.int .i64 pl] w fun e w'=>RMade (budF r) pl w w' e:=by
 obtain ⟨bl,off,rfl,hbl,hc⟩:=hr.at (j:=0) (x:=.string sBudget) rfl;rw [Nat.add_zero] at hc;have hpos:(0:Int)<(n:Int):=by simp at hn;omega
 have hca:∀ o,(w.alloc o).cell? ⟨bl,off,none⟩=some (.string sBudget):=fun o=>((Zb w o).cell (p:=⟨bl,off,none⟩) hbl).trans hc
 by_cases h2:n=2
 ·obtain ⟨a,rfl⟩:∃ a,r=[a]:=by
   match r,hn with
   | [],h=>simp at h;omega
   | [a],_=>exact ⟨a,rfl⟩
   | a :: b :: c,h=>simp at h;omega
  obtain ⟨bl',off',e1,_,hc1⟩:=hr.at (j:=1) (x:=.string a) rfl;obtain ⟨rfl,rfl⟩:bl=bl'∧off=off':=by simpa using e1
  have hcb:∀ o1 o2,((w.alloc o1).alloc o2).cell? ⟨bl,off+1,none⟩=some (.string a):=fun o1 o2=>((Za (Zb w o1) (Zb _ o2)).cell (p:=⟨bl,off+1,none⟩) hbl).trans hc1
  have HNU:=hideIt (fun w0=>ZdH a w0 (hsm a (by simp)));have HB:Hid (budF [a]=(numF a).map (fun n=>⟨1,⟨#[]⟩,⟨#[]⟩,[(3,n)],0⟩)):=rfl;have HR0:=hideIt (fun (h:numF a=none)=>(show numR a=-1 by rw [numR,h]));have HR1:=hideIt (fun x (h:numF a=some x)=>(show numR a=(x:Int) by rw [numR,h]));subst h2;clear hr hsm hn hc hc1 e1;cases hnf:numF a with
  | none =>
   have HX:Hid (budF [a]=none):=by show _=_;rw [HB.out,hnf];rfl
   have HN:=hideIt (HR0.out hnf);clear hnf;go_enter Tryz.func98,Tryz.ntmps98
   go_wp2_with fail
   refine (HNU.out _).mono ?_;rintro e w2 ⟨rfl,hw⟩;rw [hw,HN.out];clear hw;go_wp2_with fail
   refine bodyPost_ret (v:=.tuple #[rlA sBudget ⟨#[]⟩ ⟨#[]⟩ none 0 0 (some ⟨w.heap.size+2,0,none⟩) 1 1 pl,.bool false]) (by simp [results,Tryz.results98,go_sem]) rfl (.inl ⟨HX.out,_,_,_,_,_,_,_,_,_,_,rfl,?_⟩);exact Za (Za (Zb _ _) (Zb _ _)) (Zb _ _)
  | some x =>
   have HX:Hid (budF [a]=some ⟨1,⟨#[]⟩,⟨#[]⟩,[(3,x)],0⟩):=by show _=_;rw [HB.out,hnf];rfl
   have HN:=hideIt (HR1.out x hnf);clear hnf;go_enter Tryz.func98,Tryz.ntmps98
   go_wp2_with fail
   refine (HNU.out _).mono ?_;rintro e w2 ⟨rfl,hw⟩;rw [hw,HN.out];clear hw;go_wp2_with fail
   refine bodyPost_ret (v:=.tuple #[rlA sBudget ⟨#[]⟩ ⟨#[]⟩ none 0 0 (some ⟨w.heap.size+2,0,none⟩) 1 1 pl,.bool true]) (by simp [results,Tryz.results98,go_sem]) rfl (.inr ⟨_,_,_,_,_,HX.out,rfl,?_,?_,?_,?_,?_⟩)
   ·exact Zak _ _ _
   ·exact ZA _ [.int .i64 (x:Int)] _ 1 (by simp)
   ·intro b o e;cases e
   ·intro b o e;simp only [Option.some.injEq,Addr.mk.injEq] at e;obtain ⟨rfl,_⟩:=e;exact ⟨_,Zm _ _ (by simp)⟩
   ·exact Za (Za (Zb _ _) (Zb _ _)) (Zb _ _)
 ·have h2b:((n:Int) != 2)=true:=by rw [bne_iff_ne];omega
  have HX:Hid (budF r=none):=by
   show _=_;match r,hn with
   | [],_=>rfl
   | [a],h=>simp at h;omega
   | a :: b :: c,_=>rfl
  clear hr hsm hn hc h2;go_enter Tryz.func98,Tryz.ntmps98
  go_wp2_with fail
  refine bodyPost_ret (v:=.tuple #[rlA sBudget ⟨#[]⟩ ⟨#[]⟩ none 0 0 none 0 0 pl,.bool false]) (by simp [results,Tryz.results98,go_sem]) rfl (.inl ⟨HX.out,_,_,_,_,_,_,_,_,_,_,rfl,?_⟩);exact Za (Zb _ _) (Zb _ _)
theorem ZgX (wd:ByteArray) (r:List ByteArray) (pl:Int) (ao:Option Addr) (cap n:Nat) (w:World) (hr:RowAt w (.slice ao n cap) n (strs (wd :: r))) (hn:(wd :: r).length=n) (hn1:n≤1001)
  (hB:(wd.toList == [98,117,100,103,101,116])=false) (hbad:((wd.toList == [98,97,115,101])=false∧(wd.toList == [112,111,111,108])=false)∨n<2) (o:Option Ln) (ho:o=none) :
  Calls Tryz.prog 98 #[.slice ao n cap,.int .i64 pl] w fun e w'=>RMade o pl w w' e:=by
 have HX:=hideIt ho;obtain ⟨bl,off,rfl,hbl,hc⟩:=hr.at (j:=0) (x:=.string wd) rfl;rw [Nat.add_zero] at hc;have hpos:(0:Int)<(n:Int):=by simp at hn;omega
 have hca:∀ o,(w.alloc o).cell? ⟨bl,off,none⟩=some (.string wd):=fun o=>((Zb w o).cell (p:=⟨bl,off,none⟩) hbl).trans hc
 clear hr hn hc ho;rcases hbad with ⟨hA,hP⟩ | hlt
 ·go_enter Tryz.func98,Tryz.ntmps98
  go_wp2_with fail
  refine bodyPost_ret (v:=.tuple #[rlA wd ⟨#[]⟩ ⟨#[]⟩ none 0 0 none 0 0 pl,.bool false]) (by simp [results,Tryz.results98,go_sem]) rfl (.inl ⟨HX.out,_,_,_,_,_,_,_,_,_,_,rfl,?_⟩);exact Za (Zb _ _) (Zb _ _)
 ·have hlti:(n:Int)<2:=by omega
  cases hA:wd.toList == [98,97,115,101] <;> cases hP:wd.toList == [112,111,111,108]
  all_goals
   go_enter Tryz.func98,Tryz.ntmps98
   go_wp2_with fail
   refine bodyPost_ret (v:=.tuple #[rlA wd ⟨#[]⟩ ⟨#[]⟩ none 0 0 none 0 0 pl,.bool false]) (by simp [results,Tryz.results98,go_sem]) rfl (.inl ⟨HX.out,_,_,_,_,_,_,_,_,_,_,rfl,?_⟩);exact Za (Zb _ _) (Zb _ _)
def fromB:List ByteArray→Bool
 | []=>false
 | f :: _=>f.toList == [102,114,111,109]
def Rest (kind:Nat) (nm:ByteArray) (r:List ByteArray) (w:World) (fr:ByteArray) (ok:Bool) (A:Option Addr) (rn rc:Nat) (fs:List ByteArray):Prop:=
 RowAt w (.slice A rn rc) rn (strs fs)∧fs.length=rn∧(∀ p∈fs,p.size≤1000)∧namedF kind (nm :: r)=if ok=true then (setsF fs).map (fun ss=>⟨kind,nm,fr,ss,0⟩) else none
theorem ZdF {kind:Nat} {nm:ByteArray} {r:List ByteArray} (h:fromB r=false):namedF kind (nm :: r)=if isNm nm=true then (setsF r).map (fun ss=>⟨kind,nm,⟨#[]⟩,ss,0⟩) else none:=by
 by_cases hn:isNm nm=true
 ·rw [if_pos hn];match r,h with
  | [],_=>rw [ZdJ hn];rfl
  | f :: r2,h=>exact Zcu hn h
 ·rw [if_neg hn];exact ZaV (by simpa using hn)
theorem ZdN {kind:Nat} {nm f b:ByteArray} {r:List ByteArray} (h:(f.toList == [102,114,111,109])=true):namedF kind (nm :: f :: b :: r)=if (isNm nm&&isNm b)=true then (setsF r).map (fun ss=>⟨kind,nm,b,ss,0⟩) else none:=by
 cases hn:isNm nm
 ·rw [ZaV hn];rfl
 ·cases hb:isNm b
  ·rw [ZeJ hn h hb];rfl
  ·rw [Ze4 hn h hb];rfl
theorem ZcV {kind:Nat} {nm f:ByteArray} (h:(f.toList == [102,114,111,109])=true):namedF kind [nm,f]=none:=by
 cases hn:isNm nm
 ·exact ZaV hn
 ·exact ZeT hn h
theorem ZeE (kind:Nat) (wd nm:ByteArray) (r:List ByteArray) (pl:Int) (ao:Option Addr) (cap n:Nat) (w:World) (hr:RowAt w (.slice ao n cap) n (strs (wd :: nm :: r))) (hn:(wd :: nm :: r).length=n) (hn1:n≤1001) (hsm:∀ p∈(nm :: r),p.size≤1000)
  (hB:(wd.toList == [98,117,100,103,101,116])=false) (bA bP:Bool) (hA:(wd.toList == [98,97,115,101])=bA) (hP:(wd.toList == [112,111,111,108])=bP) (hAP:(bA||bP)=true) (hwd:wd=kwK kind) (hk1:kind≠1) :
  Calls Tryz.prog 98 #[.slice ao n cap,.int .i64 pl] w fun e w'=>RMade (namedF kind (nm :: r)) pl w w' e:=by
 have HWD:Hid (wd=kwK kind∧kind≠1):=⟨hwd,hk1⟩;obtain ⟨t0,hi,hz0,hz1,hz2⟩:=info_parts Zc5;obtain ⟨bl,off,rfl,hbl,hc⟩:=hr.at (j:=0) (x:=.string wd) rfl;obtain ⟨bl',off',e1,_,hc1⟩:=hr.at (j:=1) (x:=.string nm) rfl;obtain ⟨rfl,rfl⟩:bl=bl'∧off=off':=by simpa using e1
 rw [Nat.add_zero] at hc;have hcap:=Za8 hr;have hpos:(0:Int)<(n:Int):=by simp at hn;omega
 have hpos1:(1:Int)<(n:Int):=by simp at hn;omega
 have hpos2:¬(n:Int)<2:=by omega
 have hpos3:(2:Int)≤(n:Int):=by omega
 have hca:∀ o,(w.alloc o).cell? ⟨bl,off,none⟩=some (.string wd):=fun o=>((Zb w o).cell (p:=⟨bl,off,none⟩) hbl).trans hc
 have hcb:∀ o1 o2,((w.alloc o1).alloc o2).cell? ⟨bl,off+1,none⟩=some (.string nm):=fun o1 o2=>((Za (Zb w o1) (Zb _ o2)).cell (p:=⟨bl,off+1,none⟩) hbl).trans hc1
 have hnmb:nm.size≤maxLen:=by have:=hsm nm (by simp);unfold maxLen;omega
 have HNM:=hideIt (fun w0=>ZeY nm w0 hnmb);obtain ⟨n1,hn1'⟩:∃ n1,n - 2=n1:=⟨_,rfl⟩;obtain ⟨c1,hc1'⟩:∃ c1,cap - 2=c1:=⟨_,rfl⟩;obtain ⟨A,hAA⟩:∃ A,(if cap=2 then some (⟨bl,off,none⟩:Addr) else some ⟨bl,off+2,none⟩)=A:=⟨_,rfl⟩;have hrow1:RowAt w (.slice A n1 c1) n1 (strs r):=by
  have:=Zbe 2 hr hn (by simp at hn;omega);rw [hAA,hn1',hc1'] at this;exact this
 have hr1:r.length=n1:=by simp at hn;omega
 have HR:Hid (RowAt w (.slice A n1 c1) n1 (strs r)∧r.length=n1∧∀ p∈r,p.size≤1000):=⟨hrow1,hr1,fun p hp=>hsm p (List.mem_cons_of_mem _ hp)⟩;clear hr hn hsm hc hc1 e1 hrow1 hr1 hwd hk1;go_enter Tryz.func98,Tryz.ntmps98
 go_upto_region 8 with fail
 go_cut [48] (fun b wc=>b=.bool false∧(w.alloc bZ6).alloc (bRL wd ⟨#[]⟩ ⟨#[]⟩ none 0 0 none 0 0 pl)=wc)
 case first =>
  cases bA
  ·cases bP
   ·simp at hAP
   ·go_wp2_with fail
    go_meet
    exact ⟨rfl,rfl⟩
  ·go_wp2_with fail
   go_meet
   exact ⟨rfl,rfl⟩
 case rest =>
  obtain ⟨rfl,rfl⟩:=hcut;clear hA hP hAP;go_wp2_with fail
  refine (HNM.out _).mono ?_;rintro e w2 ⟨rfl,hw⟩;rw [hw];clear hw;obtain ⟨ok,hok⟩:∃ ok,isNm nm=ok:=⟨_,rfl⟩;rw [hok];go_upto_region 13 with fail
  have HOK:=hideIt hok;clear hok;go_cut [67] (fun b wc=>b=.bool (fromB r)∧(w.alloc bZ6).alloc (bRL wd nm ⟨#[]⟩ none 0 0 none 0 0 pl)=wc)
  case first =>
   by_cases h0:n1=0
   ·have HE:Hid (fromB r=false):=by
     show _=_;rw [List.eq_nil_of_length_eq_zero (HR.out.2.1.trans h0)];rfl
    subst h0;go_wp2_with fail
    go_meet
    exact ⟨by rw [HE.out],rfl⟩
   ·obtain ⟨f,r2,hf⟩:∃ f r2,r=f :: r2:=by
     match r,HR.out.2.1 with
     | [],h=>exact absurd h.symm h0
     | f :: r2,_=>exact ⟨f,r2,rfl⟩
    have hrw:=HR.out.1;rw [hf] at hrw;obtain ⟨bl1,off1,hA1,hbl1,hcf⟩:=hrw.at (j:=0) (x:=.string f) rfl;rw [Nat.add_zero] at hcf;have hcc:∀ o1 o2,((w.alloc o1).alloc o2).cell? ⟨bl1,off1,none⟩=some (.string f):=fun o1 o2=>((Za (Zb w o1) (Zb _ o2)).cell (p:=⟨bl1,off1,none⟩) hbl1).trans hcf
    have h0i:(0:Int)<(n1:Int):=by omega
    have HE:Hid (fromB r=(f.toList == [102,114,111,109])):=by show _=_;rw [hf];rfl
    subst hA1;clear hrw hcf hf h0;go_wp2_with fail
    go_meet
    exact ⟨by rw [HE.out],rfl⟩
  case rest =>
   obtain ⟨hb67,rfl⟩:=hcut;subst hb67;obtain ⟨bF,hbF⟩:∃ bF,fromB r=bF:=⟨_,rfl⟩;rw [hbF];have HBF:=hideIt hbF;clear hbF;go_upto_if 67 with fail
   go_cut [8,9] (fun okv rv wc=>∃ fr ok' A' rn rc fs,okv=.bool ok'∧rv=.slice A' rn rc∧rn≤1001∧(w.alloc bZ6).alloc (bRL wd nm fr none 0 0 none 0 0 pl)=wc∧Hid (Rest kind nm r w fr ok' A' rn rc fs))
   case first =>
    cases bF
    ·go_wp2_with fail
     go_meet
     exact ⟨⟨#[]⟩,ok,A,n1,c1,r,rfl,rfl,by omega,rfl,HR.out.1,HR.out.2.1,HR.out.2.2,by rw [ZdF HBF.out,HOK.out]⟩
    ·obtain ⟨f,r2,hf⟩:∃ f r2,r=f :: r2:=by
      have hb:=HBF.out;match r,hb with
      | [],hb=>simp [fromB] at hb
      | f :: r2,_=>exact ⟨f,r2,rfl⟩
     have hrw:=HR.out.1;have hrl:=HR.out.2.1;have hbf:=HBF.out;have hsm2:=HR.out.2.2;rw [hf] at hrw hrl hbf hsm2;obtain ⟨bl1,off1,hA1,hbl1,hcf⟩:=hrw.at (j:=0) (x:=.string f) rfl;by_cases h2:n1<2
     ·have HX:Hid (namedF kind (nm :: r)=none):=by
       show _=_;rw [hf];match r2,hrl with
       | [],_=>exact ZcV hbf
       | a :: b,h=>simp at h;omega
      have h2i:(n1:Int)<2:=by omega
      clear hrw hrl hbf hf hsm2 hcf h2 hA1;go_wp2_with fail
      refine bodyPost_ret (v:=.tuple #[rlA wd nm ⟨#[]⟩ none 0 0 none 0 0 pl,.bool false]) (by simp [results,Tryz.results98,go_sem]) rfl (.inl ⟨HX.out,_,_,_,_,_,_,_,_,_,_,rfl,?_⟩);exact Za (Zb _ _) (Zb _ _)
     ·obtain ⟨b,r3,hr3⟩:∃ b r3,r2=b :: r3:=by
       match r2,hrl with
       | [],h=>simp at h;omega
       | b :: r3,_=>exact ⟨b,r3,rfl⟩
      rw [hr3] at hrw hrl hsm2;subst hA1;obtain ⟨bl',off',e1,_,hcb2⟩:=hrw.at (j:=1) (x:=.string b) rfl;obtain ⟨rfl,rfl⟩:bl1=bl'∧off1=off':=by simpa using e1
      have hcc:∀ o1 o2,((w.alloc o1).alloc o2).cell? ⟨bl1,off1+1,none⟩=some (.string b):=fun o1 o2=>((Za (Zb w o1) (Zb _ o2)).cell (p:=⟨bl1,off1+1,none⟩) hbl1).trans hcb2
      obtain ⟨n2,hn2⟩:∃ n2,n1 - 2=n2:=⟨_,rfl⟩;obtain ⟨c2,hc2⟩:∃ c2,c1 - 2=c2:=⟨_,rfl⟩;obtain ⟨A2,hA2⟩:∃ A2,(if c1=2 then some (⟨bl1,off1,none⟩:Addr) else some ⟨bl1,off1+2,none⟩)=A2:=⟨_,rfl⟩;have hcap2:n1≤c1:=Za8 hrw;have hrow2:RowAt w (.slice A2 n2 c2) n2 (strs r3):=by
       have:=Zbe 2 hrw hrl (by omega);rw [hA2,hn2,hc2] at this;exact this
      have HR2:Hid (RowAt w (.slice A2 n2 c2) n2 (strs r3)∧r3.length=n2∧(∀ p∈r3,p.size≤1000)∧n2≤1001∧namedF kind (nm :: r)=if (isNm nm&&isNm b)=true then (setsF r3).map (fun ss=>⟨kind,nm,b,ss,0⟩) else none):=
       ⟨hrow2,by simp at hrl;omega,fun p hp=>hsm2 p (by simp [hp]),by omega,by rw [hf,hr3];exact ZdN hbf⟩
      have hbb:b.size≤maxLen:=by have:=hsm2 b (by simp);unfold maxLen;omega
      have HNB:=hideIt (fun w0=>ZeY b w0 hbb);have h2i:¬(n1:Int)<2:=by omega
      have h2j:(1:Int)<(n1:Int):=by omega
      have h2k:(2:Int)≤(n1:Int):=by omega
      clear hrw hrl hbf hf hsm2 hcf hcb2 e1 hrow2 hr3;go_wp2_with fail
      refine (HNB.out _).mono ?_;rintro e w2 ⟨rfl,hw⟩;rw [hw];clear hw;obtain ⟨ok2,hok2⟩:∃ ok2,isNm b=ok2:=⟨_,rfl⟩;rw [hok2];have HOK2:=hideIt hok2;clear hok2;cases ok
      ·go_wp2_with fail
       go_meet
       exact ⟨b,false,A2,n2,c2,r3,rfl,rfl,HR2.out.2.2.2.1,rfl,HR2.out.1,HR2.out.2.1,HR2.out.2.2.1,by rw [HR2.out.2.2.2.2,HOK.out];rfl⟩
      ·go_wp2_with fail
       go_meet
       exact ⟨b,ok2,A2,n2,c2,r3,rfl,rfl,HR2.out.2.2.2.1,rfl,HR2.out.1,HR2.out.2.1,HR2.out.2.2.1,by rw [HR2.out.2.2.2.2,HOK.out,HOK2.out];rfl⟩
   case rest =>
    obtain ⟨fr,ok',A',rn,rc,fs,rfl,rfl,hrn,rfl,HRS⟩:=hcut;clear hca hcb hAA hn1' hc1' HR HNM HOK HBF hpos hpos1 hpos2 hpos3 hcap;have HST:=hideIt (St.start w wd nm fr pl);by_cases hodd:rn % 2=1
    ·have hob:((rn:Int) % 2 == 1)=true:=by rw [beq_iff_eq];omega
     have HX:Hid (namedF kind (nm :: r)=none):=by
      show _=_;rw [HRS.out.2.2.2,Zcs _ (by rw [HRS.out.2.1];exact hodd)];split <;> rfl
     go_wp2_with fail
     refine bodyPost_ret (v:=.tuple #[rlA wd nm fr none 0 0 none 0 0 pl,.bool false]) (by simp [results,Tryz.results98,go_sem]) rfl (.inl ⟨HX.out,_,_,_,_,_,_,_,_,_,_,rfl,?_⟩);exact Za (Zb _ _) (Zb _ _)
    have hob:((rn:Int) % 2 == 1)=false:=by
     have:(rn:Int) % 2=0:=by omega
     rw [this];rfl
    have HOD:Hid (rn % 2=0):=by show _=_;omega
    clear hodd;go_wp2_with fail
    clear hob;generalize hr10:((rn:Int) % 2)=r10;clear hr10;go_loopw [8,11,12,13] (fun okv i x12 x13 wr=>∃ (i0 q:Nat) (okc:Bool) (kv vv:Value) (ks vs:List Int),i0≤rn∧i=.int .i64 i0∧okv=.bool okc∧q≤i0∧Hid (i0=2*q)∧Hid (ks=keyP ((prs fs).take q)∧vs=numP ((prs fs).take q)∧okc=(ok'&&((prs fs).take q).all goodP))∧Hid (St w wr wd nm fr pl kv q ks vv q vs)) (fun _ i _ _ _=>rn - (intOf i).toNat)
    case atStart=>exact ⟨0,0,ok',.slice none 0 0,.slice none 0 0,[],[],Nat.zero_le _,rfl,rfl,Nat.le_refl _,rfl,⟨rfl,rfl,by simp⟩,HST.out⟩
    case round =>
     obtain ⟨i0,q,okc,kv,vv,ks,vs,hk,rfl,rfl,hq,HI,HS,HT⟩:=hrel;by_cases hlt:i0<rn
     ·have hq2:q<(prs fs).length:=by rw [Zd3,HRS.out.2.1];have:=HI.out;have:=HOD.out;omega
      obtain ⟨⟨pa,pb⟩,hp⟩:∃ p,(prs fs)[q]?=some p:=⟨_,List.getElem?_eq_getElem hq2⟩;obtain ⟨hpa,hpb⟩:=ZhO _ _ _ _ hp;rw [←HI.out] at hpa hpb;have hbelT:Below w.heap.size w wr:=HT.out.2.2.2.2.2.1;obtain ⟨bl1,off1,hA1,hbl1,hc1⟩:=(HRS.out.1.nx hbelT).at (Zax hpa);obtain ⟨bl',off',e1,_,hc2⟩:=(HRS.out.1.nx hbelT).at (Zax hpb);rw [hA1] at e1;obtain ⟨rfl,rfl⟩:bl1=bl'∧off1=off':=by simpa using e1
      subst hA1;have hpbs:pb.size≤1000:=HRS.out.2.2.1 pb (List.mem_of_getElem? hpb);have HTK:Hid ((prs fs).take (q+1)=(prs fs).take q++[(pa,pb)]):=Zg8 hp;have hl2:i0+2≤rn:=by have:=HI.out;have:=HOD.out;omega
      have hlti:(i0:Int)<(rn:Int):=by omega
      have hlti1:(i0:Int)+1<(rn:Int):=by omega
      obtain ⟨d0,d1,d2,d3,d4,d5,dz⟩:=HT.out.cells;have HKY:=hideIt (fun w0=>ZjN pa w0);have HNU:=hideIt (fun w0=>ZdH pb w0 hpbs);obtain ⟨kk,hkk⟩:∃ kk,keyR pa=kk:=⟨_,rfl⟩;obtain ⟨nn,hnn⟩:∃ nn,numR pb=nn:=⟨_,rfl⟩;rw [hkk] at HKY;rw [hnn] at HNU;have HG:Hid (goodP (pa,pb)=(decide (0≤kk)&&decide (0≤nn))∧keyP ((prs fs).take (q+1))=ks++[kk]∧numP ((prs fs).take (q+1))=vs++[nn]∧(ok'&&((prs fs).take (q+1)).all goodP)=(okc&&(decide (0≤kk)&&decide (0≤nn)))):=by
       have hg:goodP (pa,pb)=(decide (0≤kk)&&decide (0≤nn)):=by rw [goodP,hkk,hnn]
       refine ⟨hg,?_,?_,?_⟩
       ·rw [HTK.out,HS.out.1];simp [keyP,hkk]
       ·rw [HTK.out,HS.out.2.1];simp [numP,hnn]
       ·rw [HTK.out,HS.out.2.2,List.all_append];simp only [List.all_cons,List.all_nil,Bool.and_true,hg,Bool.and_assoc]
      clear hp hpa hpb hkk hnn hq2 e1 HTK hbelT;cases okc
      ·skip
       go_wp2_with fail
       refine (HKY.out _).mono ?_;rintro e w2 ⟨rfl,hw⟩;rw [hw];clear hw;go_wp2_with fail
       refine (HNU.out _).mono ?_;rintro e w2 ⟨rfl,hw⟩;rw [hw];clear hw;go_wp2_with (at_builtin;refine wpList_append_own_at _ rfl (.tmp 117) (.tmp 119) 120 rfl (w.heap.size+2) 3 t0 _ 1 8 Tryz.underlying120 hi hz0 hz1 hz2 rfl (by decide) _ _ _ rfl (HT.out.2.2.1.alloc _) ⟨wr.heap.size,0,none⟩ 1 1 [.int .i64 kk] rfl rfl (Zo wr [.int .i64 kk] 3 rfl) (by intro u hu;simp at hu;subst hu;rfl) (by unfold maxLen;omega) (by omega) (by have:=HT.out.2.2.2.2.2.2;simp;omega) ?next)
       case next =>
        intro kv' w6 hown6 hgrow6 _ hat6;obtain ⟨ko6,kc6,hkv6,_⟩:=Zd hown6;subst hkv6;obtain ⟨hg1,hST6⟩:=HT.out.key hgrow6 hown6 (by rw [World.size_alloc];exact hat6);obtain ⟨f0,f1,f2,f3,f4,f5,fz⟩:=blk6 (Below.refl w6.heap.size w6) (Array.getElem?_eq_some_iff.1 hg1).1 hg1;have HT6:=hideIt hST6;clear hown6 hgrow6 hat6 hg1 hST6;go_wp2_with (at_builtin;refine wpList_append_own_at _ rfl (.tmp 123) (.tmp 125) 120 rfl (w.heap.size+2) 3 t0 _ 1 8 Tryz.underlying120 hi hz0 hz1 hz2 rfl (by decide) _ _ _ rfl (HT6.out.2.2.2.1.alloc _) ⟨w6.heap.size,0,none⟩ 1 1 [.int .i64 nn] rfl rfl (Zo _ [.int .i64 nn] 3 (by simp)) (by intro u hu;simp at hu;subst hu;rfl) (by unfold maxLen;omega) (by omega) (by have:=HT6.out.2.2.2.2.2.2;simp at this ⊢;omega) ?next)
        case next =>
         intro vv' w7 hown7 hgrow7 _ hat7;obtain ⟨vo7,vc7,hvv7,_⟩:=Zd hown7;subst hvv7;obtain ⟨hg1,hST7⟩:=HT6.out.val hgrow7 hown7 (by rw [World.size_alloc];simpa using hat7);obtain ⟨g0,g1,g2,g3,g4,g5,gz⟩:=blk6 (Below.refl w7.heap.size w7) (Array.getElem?_eq_some_iff.1 hg1).1 hg1;have HT7:=hideIt hST7;clear hown7 hgrow7 hat7 hg1 hST7 f0 f1 f2 f3 f4 f5 fz;go_wp2_with fail
         go_roundw
         case rel=>exact ⟨i0+2,q+1,false,_,_,ks++[kk],vs++[nn],by omega,by go_num,rfl,by omega,(by have:=HI.out;show _=_;omega),⟨HG.out.2.1.symm,HG.out.2.2.1.symm,(by rw [HG.out.2.2.2];rfl)⟩,HT7.out⟩
         case measure=>simp [intOf];omega
      ·by_cases hkp:0≤kk
       ·skip
        go_wp2_with fail
        refine (HKY.out _).mono ?_;rintro e w2 ⟨rfl,hw⟩;rw [hw];clear hw;go_wp2_with fail
        refine (HNU.out _).mono ?_;rintro e w2 ⟨rfl,hw⟩;rw [hw];clear hw;go_wp2_with (at_builtin;refine wpList_append_own_at _ rfl (.tmp 117) (.tmp 119) 120 rfl (w.heap.size+2) 3 t0 _ 1 8 Tryz.underlying120 hi hz0 hz1 hz2 rfl (by decide) _ _ _ rfl (HT.out.2.2.1.alloc _) ⟨wr.heap.size,0,none⟩ 1 1 [.int .i64 kk] rfl rfl (Zo wr [.int .i64 kk] 3 rfl) (by intro u hu;simp at hu;subst hu;rfl) (by unfold maxLen;omega) (by omega) (by have:=HT.out.2.2.2.2.2.2;simp;omega) ?next)
        case next =>
         intro kv' w6 hown6 hgrow6 _ hat6;obtain ⟨ko6,kc6,hkv6,_⟩:=Zd hown6;subst hkv6;obtain ⟨hg1,hST6⟩:=HT.out.key hgrow6 hown6 (by rw [World.size_alloc];exact hat6);obtain ⟨f0,f1,f2,f3,f4,f5,fz⟩:=blk6 (Below.refl w6.heap.size w6) (Array.getElem?_eq_some_iff.1 hg1).1 hg1;have HT6:=hideIt hST6;clear hown6 hgrow6 hat6 hg1 hST6;go_wp2_with (at_builtin;refine wpList_append_own_at _ rfl (.tmp 123) (.tmp 125) 120 rfl (w.heap.size+2) 3 t0 _ 1 8 Tryz.underlying120 hi hz0 hz1 hz2 rfl (by decide) _ _ _ rfl (HT6.out.2.2.2.1.alloc _) ⟨w6.heap.size,0,none⟩ 1 1 [.int .i64 nn] rfl rfl (Zo _ [.int .i64 nn] 3 (by simp)) (by intro u hu;simp at hu;subst hu;rfl) (by unfold maxLen;omega) (by omega) (by have:=HT6.out.2.2.2.2.2.2;simp at this ⊢;omega) ?next)
         case next =>
          intro vv' w7 hown7 hgrow7 _ hat7;obtain ⟨vo7,vc7,hvv7,_⟩:=Zd hown7;subst hvv7;obtain ⟨hg1,hST7⟩:=HT6.out.val hgrow7 hown7 (by rw [World.size_alloc];simpa using hat7);obtain ⟨g0,g1,g2,g3,g4,g5,gz⟩:=blk6 (Below.refl w7.heap.size w7) (Array.getElem?_eq_some_iff.1 hg1).1 hg1;have HT7:=hideIt hST7;clear hown7 hgrow7 hat7 hg1 hST7 f0 f1 f2 f3 f4 f5 fz;go_wp2_with fail
          go_roundw
          case rel=>exact ⟨i0+2,q+1,decide (0≤nn),_,_,ks++[kk],vs++[nn],by omega,by go_num,rfl,by omega,(by have:=HI.out;show _=_;omega),⟨HG.out.2.1.symm,HG.out.2.2.1.symm,(by rw [HG.out.2.2.2,decide_eq_true hkp];rfl)⟩,HT7.out⟩
          case measure=>simp [intOf];omega
       ·have HKP:=hideIt hkp;go_wp2_with fail
        refine (HKY.out _).mono ?_;rintro e w2 ⟨rfl,hw⟩;rw [hw];clear hw;go_wp2_with fail
        refine (HNU.out _).mono ?_;rintro e w2 ⟨rfl,hw⟩;rw [hw];clear hw;go_wp2_with (at_builtin;refine wpList_append_own_at _ rfl (.tmp 117) (.tmp 119) 120 rfl (w.heap.size+2) 3 t0 _ 1 8 Tryz.underlying120 hi hz0 hz1 hz2 rfl (by decide) _ _ _ rfl (HT.out.2.2.1.alloc _) ⟨wr.heap.size,0,none⟩ 1 1 [.int .i64 kk] rfl rfl (Zo wr [.int .i64 kk] 3 rfl) (by intro u hu;simp at hu;subst hu;rfl) (by unfold maxLen;omega) (by omega) (by have:=HT.out.2.2.2.2.2.2;simp;omega) ?next)
        case next =>
         intro kv' w6 hown6 hgrow6 _ hat6;obtain ⟨ko6,kc6,hkv6,_⟩:=Zd hown6;subst hkv6;obtain ⟨hg1,hST6⟩:=HT.out.key hgrow6 hown6 (by rw [World.size_alloc];exact hat6);obtain ⟨f0,f1,f2,f3,f4,f5,fz⟩:=blk6 (Below.refl w6.heap.size w6) (Array.getElem?_eq_some_iff.1 hg1).1 hg1;have HT6:=hideIt hST6;clear hown6 hgrow6 hat6 hg1 hST6;go_wp2_with (at_builtin;refine wpList_append_own_at _ rfl (.tmp 123) (.tmp 125) 120 rfl (w.heap.size+2) 3 t0 _ 1 8 Tryz.underlying120 hi hz0 hz1 hz2 rfl (by decide) _ _ _ rfl (HT6.out.2.2.2.1.alloc _) ⟨w6.heap.size,0,none⟩ 1 1 [.int .i64 nn] rfl rfl (Zo _ [.int .i64 nn] 3 (by simp)) (by intro u hu;simp at hu;subst hu;rfl) (by unfold maxLen;omega) (by omega) (by have:=HT6.out.2.2.2.2.2.2;simp at this ⊢;omega) ?next)
         case next =>
          intro vv' w7 hown7 hgrow7 _ hat7;obtain ⟨vo7,vc7,hvv7,_⟩:=Zd hown7;subst hvv7;obtain ⟨hg1,hST7⟩:=HT6.out.val hgrow7 hown7 (by rw [World.size_alloc];simpa using hat7);obtain ⟨g0,g1,g2,g3,g4,g5,gz⟩:=blk6 (Below.refl w7.heap.size w7) (Array.getElem?_eq_some_iff.1 hg1).1 hg1;have HT7:=hideIt hST7;clear hown7 hgrow7 hat7 hg1 hST7 f0 f1 f2 f3 f4 f5 fz;go_wp2_with fail
          go_roundw
          case rel=>exact ⟨i0+2,q+1,false,_,_,ks++[kk],vs++[nn],by omega,by go_num,rfl,by omega,(by have:=HI.out;show _=_;omega),⟨HG.out.2.1.symm,HG.out.2.2.1.symm,(by rw [HG.out.2.2.2,decide_eq_false (p:=0≤kk) (by have:=HKP.out;omega)];rfl)⟩,HT7.out⟩
          case measure=>simp [intOf];omega
     ·obtain ⟨c0,c1,c2,c3,c4,c5,cz⟩:=HT.out.cells0;obtain ⟨d0,d1,d2,d3,d4,d5,dz⟩:=HT.out.cells;have hq2:q=(prs fs).length:=by rw [Zd3,HRS.out.2.1];have:=HI.out;have:=HOD.out;omega
      have hta:(prs fs).take q=prs fs:=List.take_of_length_le (by omega);obtain ⟨ko,kc,rfl,_⟩:=Zd HT.out.2.2.1;obtain ⟨vo,vc,rfl,_⟩:=Zd HT.out.2.2.2.1;have hev:fs.length % 2=0:=by rw [HRS.out.2.1];exact HOD.out
      have HX:Hid (namedF kind (nm :: r)=if okc=true then some ⟨kind,nm,fr,(prs fs).map kvP,0⟩ else none):=by
       have h1:=HS.out.2.2;rw [hta] at h1;show _=_;rw [HRS.out.2.2.2,ZeZ _ hev,h1];cases ok' <;> cases (prs fs).all goodP <;> rfl
      have HY:Hid (okc=true→ks.length=q∧intsI ks=ints (((prs fs).map kvP).map (·.1))∧intsI vs=ints (((prs fs).map kvP).map (·.2))∧((prs fs).map kvP).length=q):=by
       intro hoc;have h1:=HS.out.2.2;rw [hta,hoc] at h1;have h2:(prs fs).all goodP=true:=by
        revert h1
        cases (prs fs).all goodP
        ·simp
        ·simp
       obtain ⟨e1,e2⟩:=ZeF (prs fs) h2;refine ⟨by rw [HS.out.1,hta];simp [keyP,hq2],by rw [HS.out.1,hta];exact e1,by rw [HS.out.2.1,hta];exact e2,by simp [hq2]⟩
      clear hta hq2 hev;go_wp2_with fail
      cases okc
      ·refine bodyPost_ret (v:=.tuple #[rlA wd nm fr ko q kc vo q vc pl,.bool false]) (by simp [results,Tryz.results98,go_sem,c0,c1,c2,c3,c4,c5]) rfl (.inl ⟨HX.out,_,_,_,_,_,_,_,_,_,_,rfl,?_⟩);exact (((((HT.out.2.2.2.2.2.1.setCell (Nat.le_refl _) _).setCell (Nat.le_refl _) _).setCell (Nat.le_refl _) _).setCell (Nat.le_refl _) _).setCell (Nat.le_refl _) _).setCell (Nat.le_refl _) _
      ·obtain ⟨hy0,hy1,hy2,hy3⟩:=HY.out rfl;have hkl:keysOf ⟨kind,nm,fr,(prs fs).map kvP,0⟩=((prs fs).map kvP).map (·.1):=by rw [keysOf,if_neg HWD.out.2]
       have hk6:=HT.out.2.2.1;have hv6:=HT.out.2.2.2.1;have hs:∀ W:World,∀ v n xs,W.ownsRow (w.heap.size+2) 3 1 v n xs→∀ a x,(W.setCell ⟨w.heap.size,a,none⟩ x).ownsRow (w.heap.size+2) 3 1 v n xs:=fun W v n xs h a x=>ownsRow_setCell_below h (by show w.heap.size<_;omega) _
       have hk7:=hs _ _ _ _ (hs _ _ _ _ (hs _ _ _ _ (hs _ _ _ _ (hs _ _ _ _ (hs _ _ _ _ hk6 0 (.string wd)) 1 (.string nm)) 2 (.string fr)) 3 (.slice ko q kc)) 4 (.slice vo q vc)) 5 (.int .i64 pl);have hv7:=hs _ _ _ _ (hs _ _ _ _ (hs _ _ _ _ (hs _ _ _ _ (hs _ _ _ _ (hs _ _ _ _ hv6 0 (.string wd)) 1 (.string nm)) 2 (.string fr)) 3 (.slice ko q kc)) 4 (.slice vo q vc)) 5 (.int .i64 pl);refine bodyPost_ret (v:=.tuple #[rlA wd nm fr ko q kc vo q vc pl,.bool true]) (by simp [results,Tryz.results98,go_sem,c0,c1,c2,c3,c4,c5]) rfl (.inr ⟨⟨kind,nm,fr,(prs fs).map kvP,0⟩,ko,kc,vo,vc,HX.out,?_,?_,?_,ZgJ hk7,ZgJ hv7,?_⟩)
       ·rw [hkl];simp only [List.length_map] at hy3 ⊢;rw [hy3,HWD.out.1]
       ·rw [hkl,←hy1,List.length_map,hy3];exact Zd hk7
       ·rw [valsOf];simp only;rw [←hy2,hy3];exact Zd hv7
       ·exact (((((HT.out.2.2.2.2.2.1.setCell (Nat.le_refl _) _).setCell (Nat.le_refl _) _).setCell (Nat.le_refl _) _).setCell (Nat.le_refl _) _).setCell (Nat.le_refl _) _).setCell (Nat.le_refl _) _
theorem ZgS {s:ByteArray} {l:List UInt8} (h:(s.toList == l)=true):s=⟨l.toArray⟩:=by
 apply Zhs;rw [←ByteArray.toList_eq];simpa using h
theorem Zg4 (fs:List ByteArray) (pl:Int) (ao:Option Addr) (cap n:Nat) (w:World) (hr:RowAt w (.slice ao n cap) n (strs fs)) (hn:fs.length=n) (hn1:n≤1001) (hn0:0<n) (hsm:∀ p∈fs,p.size≤1000) :
  Calls Tryz.prog 98 #[.slice ao n cap,.int .i64 pl] w fun e w'=>RMade (parseF fs) pl w w' e:=by
 match fs,hr,hn,hsm with
 | [],_,hn,_=>simp at hn;omega
 | wd :: r,hr,hn,hsm =>
  cases hB:wd.toList == [98,117,100,103,101,116]
  ·by_cases hbad:((wd.toList == [98,97,115,101])=false∧(wd.toList == [112,111,111,108])=false)∨n<2
   ·refine ZgX wd r pl ao cap n w hr hn hn1 hB hbad _ ?_;rw [parseF,hB];simp only [Bool.false_eq_true,if_false];rcases hbad with ⟨h1,h2⟩ | h
    ·rw [h1,h2];rfl
    ·obtain rfl:r=[]:=List.eq_nil_of_length_eq_zero (by simp at hn;omega);split
     ·rfl
     ·split <;> rfl
   ·match r,hr,hn,hsm with
    | [],_,hn,_=>exact absurd (.inr (by simp at hn;omega)) hbad
    | nm :: r2,hr,hn,hsm =>
     cases hA:wd.toList == [98,97,115,101]
     ·cases hP:wd.toList == [112,111,111,108]
      ·exact absurd (.inl ⟨hA,hP⟩) hbad
      ·have e:parseF (wd :: nm :: r2)=namedF 3 (nm :: r2):=by rw [parseF,hB,hA,hP];rfl
       rw [e];exact ZeE 3 wd nm r2 pl ao cap n w hr hn hn1 (fun p hp=>hsm p (List.mem_cons_of_mem _ hp)) hB false true hA hP rfl (ZgS hP) (by omega)
     ·have e:parseF (wd :: nm :: r2)=namedF 2 (nm :: r2):=by rw [parseF,hB,hA];rfl
      rw [e];exact ZeE 2 wd nm r2 pl ao cap n w hr hn hn1 (fun p hp=>hsm p (List.mem_cons_of_mem _ hp)) hB true _ hA rfl rfl (ZgS hA) (by omega)
  ·have e:parseF (wd :: r)=budF r:=by rw [parseF,hB];rfl
   rw [e];obtain rfl:wd=sBudget:=ZgS hB;exact Zg9 r pl ao cap n w hr hn hn1 (fun p hp=>hsm p (List.mem_cons_of_mem _ hp))
theorem ZdU:∀ (l:List ByteArray) (ss:List (Nat×Nat)),setsF l=some ss→∀ p∈ss,p.1≤2
 | [],ss,h=>by cases h;simp
 | [_],ss,h=>by cases h
 | k :: n :: r,ss,h=>by
  rw [setsF] at h;split at h
  ·rename_i a b l ha hb hl
   cases h;intro p hp;rcases List.mem_cons.1 hp with h | h
   ·subst h;exact (ZeV ha).2
   ·exact ZdU r l hl p h
  ·cases h
theorem Ze5 {kind:Nat} {fs:List ByteArray} {l:Ln} (hk:kind=2∨kind=3) (h:namedF kind fs=some l):OkL l:=by
 have key:∀ {fs2:List ByteArray} {nm fr:ByteArray},isNm nm=true→(setsF fs2).map (fun ss=>(⟨kind,nm,fr,ss,0⟩:Ln))=some l→OkL l:=by
  intro fs2 nm fr hnm h;cases hs:setsF fs2 with
  | none=>rw [hs] at h;cases h
  | some ss =>
   rw [hs] at h;simp only [Option.map_some,Option.some.injEq] at h;subst h;exact .inr ⟨hk,hnm,ZdU _ _ hs⟩
 match fs,h with
 | [],h=>cases h
 | nm :: r,h =>
  cases hf:fromB r
  ·rw [ZdF hf] at h;split at h
   ·rename_i hnm;exact key hnm h
   ·cases h
  ·match r,hf,h with
   | [],hf,_=>cases hf
   | [f],hf,h=>rw [ZcV hf] at h;cases h
   | f :: b :: r3,hf,h =>
    rw [ZdN hf] at h;split at h
    ·rename_i hnm
     simp only [Bool.and_eq_true] at hnm;exact key hnm.1 h
    ·cases h
theorem Zeq {fs:List ByteArray} {l:Ln} (h:parseF fs=some l):OkL l:=by
 match fs,h with
 | [],h=>cases h
 | f0 :: rest,h =>
  rw [parseF] at h;split at h
  ·match rest,h with
   | [],h=>cases h
   | [a],h =>
    rw [budF] at h;cases hn:numF a with
    | none=>rw [hn] at h;cases h
    | some x =>
     rw [hn] at h;simp only [Option.map_some,Option.some.injEq] at h;subst h;exact .inl ⟨rfl,rfl,rfl,_,rfl⟩
   | a :: b :: c,h=>cases h
  ·split at h
   ·exact Ze5 (.inl rfl) h
   ·split at h
    ·exact Ze5 (.inr rfl) h
    ·cases h
theorem Zik (l:Ln) (hok:OkL l) (hm1:l.sets.length≤1001) (ko:Option Addr) (kc:Nat) (vo:Option Addr) (vc:Nat) (pl:Int) (ao:Option Addr) (cap n:Nat) (ls:List RL) (w:World) (hl:RLinesAt w (.slice ao n cap) ls) (hn:ls.length=n) (hn1:n≤1001)
  (hr:RowAt w (.slice ko (keysOf l).length kc) (keysOf l).length (ints (keysOf l))) (hr2:RowAt w (.slice vo l.sets.length vc) l.sets.length (ints (valsOf l))) :
  Calls Tryz.prog 99 #[.slice ao n cap,rlA (kwK l.kind) l.name l.frm ko (keysOf l).length kc vo l.sets.length vc pl,.bool true] w fun e w'=>e=.returned (.int .i64 (faultC (bareR ls) l))∧Below w.heap.size w w':=by
 rcases hok with ⟨hk,hnm,hfr,x,hs⟩ | ⟨hk,hnm,hkeys⟩
 ·obtain ⟨kind,name,frm,ss,place⟩:=l;simp only at hk hnm hfr hs;subst hk hs;exact Ziv x name frm ko kc vo vc pl place ao cap n ls w hl hn hn1 hr2
 ·have hkl:keysOf l=l.sets.map (·.1):=by rw [keysOf,if_neg (by omega)]
  rw [hkl,List.length_map] at hr;rw [hkl,List.length_map];rcases hk with hk | hk
  ·rw [hk];exact Zj3 l hk hkeys _ rfl hm1 ko kc vo vc pl ao cap n ls w hl hn hn1 hr hr2
  ·rw [hk];exact ZjO l hk hkeys _ rfl hm1 ko kc vo vc pl ao cap n ls w hl hn hn1 hr hr2
def RSv (w:World) (p:RL):Prop:=Lists w p∧(∀ so n sc,p.2.1=.slice so n sc→FrI w so)∧(∀ so n sc,p.2.2=.slice so n sc→FrI w so)
theorem RSv.nx {w w':World} {p:RL} (h:RSv w p) (hb:Below w.heap.size w w'):RSv w' p:=⟨h.1.nx hb,fun so n sc e=>(h.2.1 so n sc e).nx hb,fun so n sc e=>(h.2.2 so n sc e).nx hb⟩
theorem FrI.ne {w:World} {so:Option Addr} (h:FrI w so) {row:Option Nat} (hrow:∀ g,row=some g→∃ cur,w.heap[g]?=some (.cells cur 122 (0,0))):∀ b off,so=some ⟨b,off,none⟩→row≠some b:=by
 intro b off e e3;obtain ⟨cur,h2⟩:=h b off e;obtain ⟨cur',h3⟩:=hrow b e3;rw [h2] at h3;simp at h3
theorem FrI.grown {w w':World} {so:Option Addr} {row:Option Nat} (h:FrI w so) (hg:w.grownBy w' row) (hrow:∀ g,row=some g→∃ cur,w.heap[g]?=some (.cells cur 122 (0,0))):FrI w' so:=by
 intro b off e;obtain ⟨cur,h2⟩:=h b off e;exact ⟨cur,(hg.block b (Array.getElem?_eq_some_iff.1 h2).1 (fun e'=>h.ne hrow b off e e'.symm)).trans h2⟩
theorem RSv.grown {w w':World} {p:RL} {row:Option Nat} (h:RSv w p) (hg:w.grownBy w' row) (hrow:∀ g,row=some g→∃ cur,w.heap[g]?=some (.cells cur 122 (0,0))):RSv w' p:=by
 refine ⟨⟨Zcp h.1.1 hg (fun so m sc b off e1 e2=>(h.2.1 so m sc e1).ne hrow b off e2),Zcp h.1.2 hg (fun so m sc b off e1 e2=>(h.2.2 so m sc e1).ne hrow b off e2)⟩,fun so n sc e=>(h.2.1 so n sc e).grown hg hrow,fun so n sc e=>(h.2.2 so n sc e).grown hg hrow⟩
def RRead (s:ByteArray) (w w':World) (e:Ending):Prop:=
 ((rd s).err≠0∧e=.returned (.tuple #[.slice none 0 0,.int .i64 (rd s).err,.int .i64 (rd s).at'])∧Below w.heap.size w w') ∨
 (∃ ls ao cap,(rd s).err=0∧(rd s).lines=bareR ls∧ls.length≤1001∧0<ls.length∧e=.returned (.tuple #[.slice ao ls.length cap,.int .i64 0,.int .i64 0])∧RLinesAt w' (.slice ao ls.length cap) ls∧Below w.heap.size w w')
theorem Zkj:(Tryz.prog.info? 122).map (fun i=>(i.zero,i.size,i.bytes))=some (some (.agg #[.string ⟨#[]⟩,.string ⟨#[]⟩,.string ⟨#[]⟩,.slice none 0 0,.slice none 0 0,.int .i64 0]),6,104):=by kernel_rfl
theorem ZiN {i:Nat} {acc:List Ln} {p:ByteArray} {r:List ByteArray} (h:¬(flds p).length=0) (hb:parseF (flds p)=none):rdC i acc (p :: r)=⟨[],2,i+1⟩:=by
 rw [rdC,if_neg h,hb]
theorem ZiQ {i:Nat} {acc:List Ln} {p:ByteArray} {r:List ByteArray} {l:Ln} (h:¬(flds p).length=0) (hl:parseF (flds p)=some l) (hb:faultC acc l≠0):rdC i acc (p :: r)=⟨[],faultC acc l,i+1⟩:=by
 rw [rdC,if_neg h,hl];simp only;rw [if_neg hb]
theorem Zif {i:Nat} {acc:List Ln} {p:ByteArray} {r:List ByteArray} {l:Ln} (h:¬(flds p).length=0) (hl:parseF (flds p)=some l) (hb:faultC acc l=0):rdC i acc (p :: r)=rdC (i+1) (acc++[{l with place:=i+1}]) r:=by
 rw [rdC,if_neg h,hl];simp only;rw [if_pos hb]
end Co
end Go.Proofs.YtcpikklofilkcaaGreat
