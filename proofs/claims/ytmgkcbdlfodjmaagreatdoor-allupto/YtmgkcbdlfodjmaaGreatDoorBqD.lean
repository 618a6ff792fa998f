import Derived.Test.YtmgkcbdlfodjmaaGreatDoorBqC
set_option maxRecDepth 100000
set_option maxHeartbeats 16000000
namespace Go.Proofs.YtmgkcbdlfodjmaaGreatDoor
open Go.RowKit
namespace Co
theorem ZfE {m:List ByteArray} {l:Ln} (d:Zag m=some l):1≤l.kind∧l.kind≤3∧l.sets.length≤m.length:=by
 have q:∀ (kind:Nat) (r:List ByteArray) (l:Ln),namedF kind r=some l→l.kind=kind∧l.sets.length≤r.length:=by
  intro kind r l d;match r,d with
  | [],d=>simp [namedF] at d
  | nm :: r,d =>
   rw [namedF.eq_def] at d;simp only at d;split at d
   ·split at d
    ·cases d;exact ⟨rfl,by simp⟩
    ·split at d
     ·split at d
      ·cases d
      ·split at d
       ·rename_i J _
        cases h:Z8 J with
        | none=>rw [h] at d;cases d
        | some ss =>
         rw [h] at d;cases d;have:=ZgZ _ _ h;refine ⟨rfl,?_⟩;simp;omega
       ·cases d
     ·rename_i A I _
      cases h:Z8 (A :: I) with
      | none=>rw [h] at d;cases d
      | some ss =>
       rw [h] at d;cases d;have:=ZgZ _ _ h;refine ⟨rfl,?_⟩;simp at this ⊢;omega
   ·cases d
 match m,d with
 | [],d=>simp [Zag] at d
 | L :: rest,d =>
  rw [Zag] at d;split at d
  ·match rest,d with
   | [],d=>simp [ZcF] at d
   | [a],d =>
    simp only [ZcF] at d;cases h:Za9 a with
    | none=>rw [h] at d;cases d
    | some b=>rw [h] at d;cases d;simp
   | a :: b :: r,d=>simp [ZcF] at d
  ·split at d
   ·obtain ⟨D,E⟩:=q 2 rest l d;simp;omega
   ·split at d
    ·obtain ⟨D,E⟩:=q 3 rest l d;simp;omega
    ·cases d
theorem Zel {B:Nat} {w0 w:World} {g:Nat} (h:Below B w0 w) (d:B≤g) (m q A D E:Value):Below B w0 (((((w.setCell ⟨g,0,none⟩ m).setCell ⟨g,1,none⟩ q).setCell ⟨g,2,none⟩ A).setCell ⟨g,3,none⟩ D).setCell ⟨g,4,none⟩ E):=
 ((((h.setCell d _).setCell d _).setCell d _).setCell d _).setCell d _
theorem Zpt {w:World} {so:Option Addr} {g:Nat} (d:Fr (g+1) w so) (h m q A D:Value):Fr g (((((w.setCell ⟨g,0,none⟩ h).setCell ⟨g,1,none⟩ m).setCell ⟨g,2,none⟩ q).setCell ⟨g,3,none⟩ A).setCell ⟨g,4,none⟩ D) so:=
 (((((d.set (Nat.lt_succ_self _) _ _).set (Nat.lt_succ_self _) _ _).set (Nat.lt_succ_self _) _ _).set (Nat.lt_succ_self _) _ _).set (Nat.lt_succ_self _) _ _).mono (Nat.le_succ _)
theorem Zm3 {w:World} {so:Option Addr} {m sc n:Nat} {J:List Value} {g:Nat} (h:RowAt w (.slice so m sc) n J) (d:∀ b off,so=some ⟨b,off,none⟩→g≠b) (q A D E I:Value):RowAt (((((w.setCell ⟨g,0,none⟩ q).setCell ⟨g,1,none⟩ A).setCell ⟨g,2,none⟩ D).setCell ⟨g,3,none⟩ E).setCell ⟨g,4,none⟩ I) (.slice so m sc) n J:=
 ((((h.set d _ _).set d _ _).set d _ _).set d _ _).set d _ _
theorem Zpy (ag:Option Addr) (J n:Nat) (L:List ByteArray) (w:World) (X:RowAt w (.slice ag n J) n (Z6 L)) (M:L.length=n) (az:n≤1001) (ay:0<n) (al:∀ p∈L,p.size≤1000) :
  Calls Tryz.prog 153 #[.slice ag n J] w fun e N=>ZlK (Zag L) w N e:=by
 obtain ⟨d,r,rfl⟩:∃ d r,L=d :: r:=by
  match L,M with
  | [],M=>simp at M;omega
  | d :: r,_=>exact ⟨d,r,rfl⟩
 obtain ⟨V,off,rfl,ap,aj⟩:=X.at (j:=0) (x:=.string d) rfl;rw [Nat.add_zero] at aj;have ax:=ZeR X;have av:((n:Int) == 0)=false:=by simp;omega
 have a0:(0:Int)<(n:Int):=by omega
 have a1:(1:Int)≤(n:Int):=by omega
 have aw:∀ o,(w.alloc o).cell? ⟨V,off,none⟩=some (.string d):=fun o=>((Zc w o).cell (p:=⟨V,off,none⟩) ap).trans aj
 obtain ⟨A,hA⟩:∃ A,(if J=1 then some (⟨V,off,none⟩:Addr) else some ⟨V,off+1,none⟩)=A:=⟨_,rfl⟩;have ad:RowAt (w.alloc Zbw) (.slice A (n - 1) (J - 1)) (n - 1) (Z6 r):=by
  have:=Ze2 1 X M (by omega);rw [hA] at this;exact this.nx (Zc _ _)
 have ac:r.length=n - 1:=by simp at M;omega
 have ae:∀ p∈r,p.size≤1000:=fun p ar=>al p (List.mem_cons_of_mem _ ar)
 have ao:=Za (Zjj A (J - 1) (n - 1) r (w.alloc Zbw) ad ac (by omega) ae);have af:=Za (fun kind=>ZjM kind A (J - 1) (n - 1) r (w.alloc Zbw) ad ac (by omega) ae);have HZ:Hid ((w.alloc Zbw).heap[w.heap.size]?=some Zbw):=Zd _ _ rfl;clear X M ad ac al ae;have ah:∀ (o:Option Ln) (e:Ending) (w1:World),ZlK o (w.alloc Zbw) w1 e→∃ m q s2 s3 a4 a6 c4 ok,e=.returned (.tuple #[lnA m q s2 s3 a4 a6 c4,.bool ok])∧Below (w.alloc Zbw).heap.size (w.alloc Zbw) w1 ∧
   ∀ N,N=(((((w1.setCell ⟨w.heap.size,0,none⟩ (.int .i64 m)).setCell ⟨w.heap.size,1,none⟩ (.int .i64 q)).setCell ⟨w.heap.size,2,none⟩ (.string s2)).setCell ⟨w.heap.size,3,none⟩ (.string s3)).setCell ⟨w.heap.size,4,none⟩ (.slice a4 a6 c4))→ZlK o w N e:=by
  intro o e w1 h;rcases h with ⟨aa,m,q,s2,s3,a4,a6,c4,rfl,hb⟩ | ⟨l,so,sc,aa,rfl,au,ak,hb⟩
  ·exact ⟨m,q,s2,s3,a4,a6,c4,false,rfl,hb,fun N U=>.inl ⟨aa,m,q,s2,s3,a4,a6,c4,rfl,by rw [U];exact Zel (Zb (Zc _ _) hb) (Yd _) _ _ _ _ _⟩⟩
  ·have aq:∀ b off,so=some ⟨b,off,none⟩→w.heap.size≠b:=fun b o e=>by have:=(ak b o e).1;rw [World.size_alloc] at this;omega
   exact ⟨_,_,_,_,_,_,_,true,rfl,hb,fun N U=>.inr ⟨l,so,sc,aa,rfl,by rw [U];exact Zm3 au aq _ _ _ _ _,by rw [U];exact Zpt (ak.mono (by rw [World.size_alloc];exact Yd _)) _ _ _ _ _,by rw [U];exact Zel (Zb (Zc _ _) hb) (Yd _) _ _ _ _ _⟩⟩
 have Y:=Za ah;clear ah;cases hb:d.toList == [98,117,100,103,101,116]
 ·cases ab:d.toList == [98,97,115,101]
  ·cases ai:d.toList == [112,111,111,108]
   ·have I:Hid (Zag (d :: r)=none):=by show _=_;simp [Zag,hb,ab,ai]
    go_enter Tryz.func153,Tryz.ntmps153
    go_wp2_with fail
    exact bodyPost_ret (v:=.tuple #[lnA 0 0 ⟨#[]⟩ ⟨#[]⟩ none 0 0,.bool false]) (by simp [results,Tryz.results153,go_sem]) rfl (.inl ⟨I.out,_,_,_,_,_,_,_,rfl,Zc _ _⟩)
   ·have I:Hid (Zag (d :: r)=namedF 3 r):=by show _=_;simp [Zag,hb,ab,ai]
    go_enter Tryz.func153,Tryz.ntmps153
    go_wp2_with fail
    refine (af.out 3).mono ?_;intro e w1 E;obtain ⟨m,q,s2,s3,a4,a6,c4,ok,rfl,a7,D⟩:=Y.out _ _ _ E;obtain ⟨Q,c1,c2,c3,R,am⟩:=Zaz a7 (by simp) HZ.out;have O:=Za D;clear E D a7;go_wp2_with fail
    refine bodyPost_ret (v:=.tuple #[lnA m q s2 s3 a4 a6 c4,.bool ok]) (by simp [results,Tryz.results153,go_sem,Q,c1,c2,c3,R]) rfl ?_;rw [I.out];exact O.out _ rfl
  ·have I:Hid (Zag (d :: r)=namedF 2 r):=by show _=_;simp [Zag,hb,ab]
   go_enter Tryz.func153,Tryz.ntmps153
   go_wp2_with fail
   refine (af.out 2).mono ?_;intro e w1 E;obtain ⟨m,q,s2,s3,a4,a6,c4,ok,rfl,a7,D⟩:=Y.out _ _ _ E;obtain ⟨Q,c1,c2,c3,R,am⟩:=Zaz a7 (by simp) HZ.out;have O:=Za D;clear E D a7;go_wp2_with fail
   refine bodyPost_ret (v:=.tuple #[lnA m q s2 s3 a4 a6 c4,.bool ok]) (by simp [results,Tryz.results153,go_sem,Q,c1,c2,c3,R]) rfl ?_;rw [I.out];exact O.out _ rfl
 ·have I:Hid (Zag (d :: r)=ZcF r):=by show _=_;simp [Zag,hb]
  go_enter Tryz.func153,Tryz.ntmps153
  go_wp2_with fail
  refine ao.out.mono ?_;intro e w1 E;obtain ⟨m,q,s2,s3,a4,a6,c4,ok,rfl,a7,D⟩:=Y.out _ _ _ E;obtain ⟨Q,c1,c2,c3,R,am⟩:=Zaz a7 (by simp) HZ.out;have O:=Za D;clear E D a7;go_wp2_with fail
  refine bodyPost_ret (v:=.tuple #[lnA m q s2 s3 a4 a6 c4,.bool ok]) (by simp [results,Tryz.results153,go_sem,Q,c1,c2,c3,R]) rfl ?_;rw [I.out];exact O.out _ rfl
def Zdi (ls:List (Ln×Value)) (fs:List ByteArray):Nat:=match Zag fs with | none=>2 | some l=>Zbv ls l
def Zub (ls:List (Ln×Value)) (fs:List ByteArray) (w w':World) (e:Ending):Prop:=
 (Zdi ls fs≠0∧∃ x0 x1 s2 s3 a4 n4 c4,e=.returned (.tuple #[lnA x0 x1 s2 s3 a4 n4 c4,.int .i64 (Zdi ls fs)])∧Below w.heap.size w w') ∨
 (∃ l so sc,Zdi ls fs=0∧Zag fs=some l∧e=.returned (.tuple #[lnA 0 l.kind l.name l.frm so l.sets.length sc,.int .i64 0])∧RowAt w' (.slice so l.sets.length sc) l.sets.length (Zah l.sets)∧Fr w.heap.size w' so∧Below w.heap.size w w')
theorem Zls (ad:Option Addr) (ac I:Nat) (D:List ByteArray) (Q:Option Addr) (R n:Nat) (q:List (Ln×Value)) (w:World) (ak:RowAt w (.slice ad I ac) I (Z6 D)) (ae:D.length=I) (aw:I≤1001) (av:0<I) (aq:∀ p∈D,p.size≤1000)
  (ao:LinesAt w (.slice Q n R) q) (ap:q.length=n) (ax:n≤1001) :
  Calls Tryz.prog 113 #[.slice ad I ac,.slice Q n R] w fun e w'=>Zub q D w w' e:=by
 have HP:=Za (Zpy ad ac I D (w.alloc Zbw) (ak.nx (Zc _ _)) ae aw av aq);have HL:Hid (LinesAt (w.alloc Zbw) (.slice Q n R) q∧q.length=n∧D.length=I):=⟨ao.nx (Zc _ _),ap,ae⟩;have HZ:Hid ((w.alloc Zbw).heap[w.heap.size]?=some Zbw):=Zd _ _ rfl;clear ak ae aq ao ap;go_enter Tryz.func113,Tryz.ntmps113
 go_wp2_with fail
 refine HP.out.mono ?_;rintro e w1 (⟨J,a8,a9,s2,s3,a4,a7,c4,rfl,E⟩ | ⟨l,so,sc,J,rfl,M,af,E⟩)
 ·have L:=fun o=>Zaz (Zb E (Zc w1 o)) (by simp) HZ.out
  have aa:=fun o=>(L o).1
  have c1:=fun o=>(L o).2.1
  have c2:=fun o=>(L o).2.2.1
  have c3:=fun o=>(L o).2.2.2.1
  have ab:=fun o=>(L o).2.2.2.2.1
  have a0:=fun o=>(L o).2.2.2.2.2
  have h:Hid (Zdi q D=2∧Below w.heap.size w w1):=⟨by rw [Zdi,J],Zb (Zc _ _) E⟩;clear J E L;go_wp2_with fail
  refine bodyPost_ret (v:=.tuple #[lnA 0 0 ⟨#[]⟩ ⟨#[]⟩ none 0 0,.int .i64 2]) (by simp [results,Tryz.results113,go_sem,aa,c1,c2,c3,ab]) rfl (.inl ⟨by rw [h.out.1];decide,_,_,_,_,_,_,_,by rw [h.out.1];rfl,?_⟩);exact Zel (Zb h.out.2 (Zc _ _)) (Yd _) _ _ _ _ _
 ·obtain ⟨al,am,ah⟩:=ZfE J;have O:Hid (Zdi q D=Zbv q l∧Zag D=some l):=⟨by rw [Zdi,J],J⟩;obtain ⟨kind,A,m,ss,V⟩:=l;simp only at M af al am ah ⊢;have ar:ss.length≤1001:=by rw [HL.out.2.2] at ah;omega
  have Y:=Za (ZmH ⟨kind,A,m,ss,V⟩ 0 so sc Q R n q ((w1.alloc (bLn 0 kind A m so ss.length sc)).drew) ((HL.out.1.nx E).nx (Zc _ _).drew) HL.out.2.1 ax (M.nx (Zc _ _).drew) ar al am);simp only at Y;obtain ⟨d,ag⟩:∃ d,ss.length=d:=⟨_,rfl⟩;rw [ag] at M ar Y ⊢;have HM:=Za ag;have h:Hid (Below w.heap.size w w1∧RowAt w1 (.slice so d sc) d (Zah ss)∧Fr (w.heap.size+1) w1 so∧w.heap.size<w1.heap.size∧w1.heap[w.heap.size]?=some Zbw):=
   ⟨Zb (Zc _ _) E,M,af.mono (by rw [World.size_alloc];exact Yd _),Zda E,(E.block _ (by simp)).trans HZ.out⟩
  have N:Hid (((w1.alloc (bLn 0 kind A m so d sc)).drew).heap[w.heap.size]?=some Zbw∧((w1.alloc (bLn 0 kind A m so d sc)).drew).heap[w1.heap.size]?=some (bLn 0 kind A m so d sc)∧w.heap.size<((w1.alloc (bLn 0 kind A m so d sc)).drew).heap.size∧w1.heap.size<((w1.alloc (bLn 0 kind A m so d sc)).drew).heap.size):=by
   refine ⟨(Zn _ _ h.out.2.2.2.1).trans h.out.2.2.2.2,Zd _ _ rfl,?_,?_⟩
   ·show _<(w1.alloc _).heap.size;rw [World.size_alloc];have:=h.out.2.2.2.1;omega
   ·show _<(w1.alloc _).heap.size;rw [World.size_alloc];omega
  clear J M af E ah ag;go_wp2_with fail
  go_region_with (go_at_call 154;refine Y.out.mono ?_;rintro e au ⟨rfl,U⟩;obtain ⟨aa,c1,c2,c3,ab,a0⟩:=Zaz U N.out.2.2.1 N.out.1;obtain ⟨a1,a6,d2,d3,d4,bc⟩:=Zaz U N.out.2.2.2 N.out.2.1;have X:=Za U;clear U)
  all_goals go_wp2_with fail
  all_goals
   refine bodyPost_ret (v:=.tuple #[lnA 0 kind A m so d sc,.int .i64 (Zbv q ⟨kind,A,m,ss,V⟩)]) (by simp [results,Tryz.results113,go_sem,aa,c1,c2,c3,ab]) rfl ?_;have aj:Below w.heap.size w au:=Zb (Zb h.out.1 (Zc _ _).drew) X.out;by_cases ai:Zbv q ⟨kind,A,m,ss,V⟩=0
   ·refine .inr ⟨⟨kind,A,m,ss,V⟩,so,sc,by rw [O.out.1];exact ai,O.out.2,by rw [ai,←HM.out];rfl,?_,Zpt ((h.out.2.2.1.nx (Zc _ _).drew).nx X.out) _ _ _ _ _,?_⟩
    ·have ay:∀ b off,so=some ⟨b,off,none⟩→w.heap.size≠b:=fun b o e=>by have:=(h.out.2.2.1 b o e).1;omega
     have az:RowAt au (.slice so d sc) d (Zah ss):=(h.out.2.1.nx (Zc _ _).drew).nx X.out;simp only;rw [HM.out];exact Zm3 az ay _ _ _ _ _
    ·exact Zel aj (Yd _) _ _ _ _ _
   ·refine .inl ⟨by rw [O.out.1];exact ai,_,_,_,_,_,_,_,by rw [O.out.1],?_⟩;exact Zel aj (Yd _) _ _ _ _ _
def Zbj (ls:List Ln) (kind:Nat) (name:ByteArray):Option Ln:=ls.find? fun l=>(l.kind == kind)&&(l.name.toList == name.toList)
def ZaC (ls:List Ln) (kind:Nat):Nat:=(ls.filter fun l=>l.kind == kind).length
def Zfg (ls:List Ln) (kind:Nat):Bool:=if kind=2∨kind=3 then decide (6≤ZaC ls kind) else false
def ZM (ls:List Ln) (l:Ln):Nat:=
 if decide (ls.length=0) != decide (l.kind=1) then 2
 else if ZaQ l.sets=false then 3
 else if Zfg ls l.kind=true then 4
 else if twc l.sets=true then 5
 else if (Zbj ls l.kind l.name).isSome=true then 5 else 0
abbrev ZaZ (ls:List (Ln×Value)):List Ln:=ls.map (·.1)
theorem ZeF:∀ (A:List (Ln×Value)) (kind:Nat) (d:ByteArray),Zbj (ZaZ A) kind d=(ZaP A kind d).map (·.1)
 | [],_,_=>rfl
 | p :: r,kind,d=>by
  have ih:=ZeF r kind d;simp only [Zbj,ZaP,ZaZ,List.map_cons,List.find?_cons] at ih ⊢;by_cases h:isL kind d p=true
  ·have m:((p.1.kind == kind)&&(p.1.name.toList == d.toList))=true:=h;rw [h,m];rfl
  ·have q:isL kind d p=false:=by simpa using h
   have m:((p.1.kind == kind)&&(p.1.name.toList == d.toList))=false:=q;rw [q,m];exact ih
theorem Zqv (d:List (Ln×Value)) (kind:Nat):ZaC (ZaZ d) kind=cnt d kind:=by
 unfold ZaC cnt ZaZ;rw [List.filter_map,List.length_map];rfl
theorem Zi6 (d:List (Ln×Value)) (l:Ln):ZM (ZaZ d) l=Zbv d l:=by
 unfold ZM Zbv Zfg ZfI;rw [ZeF,Zqv];simp only [ZaZ,List.length_map,Option.isSome_map]
structure Rd where
 lines:List Ln
 err:Nat
 at':Nat
def rdC:Nat→List Ln→List ByteArray→Rd
 | i,acc,[]=>if acc.length=0 then ⟨[],2,i⟩ else ⟨acc,0,0⟩
 | i,acc,p :: r =>
  if (Zav p).length=0 then rdC (i+1) acc r
  else match Zag (Zav p) with
   | none=>⟨[],2,i+1⟩
   | some l=>if ZM acc l=0 then rdC (i+1) (acc++[{l with place:=i+1}]) r else ⟨[],ZM acc l,i+1⟩
def rd (s:ByteArray):Rd:=rdC 0 [] (ZP s 10)
theorem Zim {i:Nat} {d:List Ln} {p:ByteArray} {r:List ByteArray} (h:(Zav p).length=0):rdC i d (p :: r)=rdC (i+1) d r:=by rw [rdC,if_pos h]
theorem Zrl {i:Nat} {d:List (Ln×Value)} {p:ByteArray} {r:List ByteArray} (h:¬(Zav p).length=0) (hb:Zdi d (Zav p)≠0):rdC i (ZaZ d) (p :: r)=⟨[],Zdi d (Zav p),i+1⟩:=by
 rw [rdC,if_neg h];unfold Zdi at hb ⊢;cases m:Zag (Zav p) with
 | none=>rfl
 | some l =>
  rw [m] at hb;simp only at hb ⊢;rw [Zi6,if_neg hb]
theorem ZqD {i:Nat} {d:List (Ln×Value)} {p:ByteArray} {r:List ByteArray} {l:Ln} (h:¬(Zav p).length=0) (m:Zag (Zav p)=some l) (hb:Zdi d (Zav p)=0):rdC i (ZaZ d) (p :: r)=rdC (i+1) (ZaZ d++[{l with place:=i+1}]) r:=by
 rw [rdC,if_neg h,m];unfold Zdi at hb;rw [m] at hb;simp only at hb ⊢;rw [Zi6,if_pos hb]
def Sv (w:World) (p:Ln×Value):Prop:=RowAt w p.2 p.1.sets.length (Zah p.1.sets)∧∀ so n sc,p.2=.slice so n sc→Fr 0 w so
theorem Sv.nx {w h:World} {p:Ln×Value} (d:Sv w p) (hb:Below w.heap.size w h):Sv h p:=⟨d.1.nx hb,fun so n sc e=>(d.2 so n sc e).nx hb⟩
theorem Zhn {w I:World} {v:Value} {n:Nat} {q:List Value} {E:Option Nat} (d:RowAt w v n q) (D:w.grownBy I E) (O:∀ so m sc b off,v=.slice so m sc→so=some ⟨b,off,none⟩→E≠some b):RowAt I v n q:=by
 obtain ⟨h,R,e,N,d⟩:=d;refine ⟨h,R,e,N,?_⟩;rcases d with d | ⟨b,off,A,L,M⟩
 ·exact .inl d
 ·refine .inr ⟨b,off,A,Yl L D.size,fun j x Q=>?_⟩;exact D.cell (M j x Q) (fun J=>O h n R b off e A J.symm)
theorem Sv.grown {w E:World} {p:Ln×Value} {q:Option Nat} (h:Sv w p) (D:w.grownBy E q) (M:∀ g,q=some g→∃ d,w.heap[g]?=some (.cells d 167 (0,0))):Sv E p:=by
 have key:∀ so m sc b off,p.2=.slice so m sc→so=some ⟨b,off,none⟩→q≠some b:=by
  intro so m sc b off J e2 e3;obtain ⟨_,d,O⟩:=h.2 so m sc J b off e2;obtain ⟨N,A⟩:=M b e3;rw [O] at A;simp at A
 refine ⟨Zhn h.1 D key,fun so n sc e b off e2=>?_⟩;obtain ⟨L,d,O⟩:=h.2 so n sc e b off e2;exact ⟨L,d,(D.block b (Ya.1 O).1 (fun I=>key so n sc b off e e2 I.symm)).trans O⟩
theorem Z5 {w:World} {B size:Nat} {e:TypeId} {v:Value} {n:Nat} {q:List Value} (h:w.ownsRow B e size v n q):∀ g,v.ownBlock=some g→∃ d,w.heap[g]?=some (.cells d e (0,0)):=by
 intro g E;rcases h.2 with ⟨rfl,_⟩ | ⟨D,A,d,rfl,hb,m,_⟩
 ·simp [Value.ownBlock] at E
 ·simp [Value.ownBlock] at E;subst E;exact ⟨d,m⟩
def Zrr (s:ByteArray) (w w':World) (e:Ending):Prop:=
 ((rd s).err≠0∧e=.returned (.tuple #[.slice none 0 0,.int .i64 (rd s).err,.int .i64 (rd s).at'])∧Below w.heap.size w w') ∨
 (∃ ls ao cap,(rd s).err=0∧(rd s).lines=ZaZ ls∧ls.length≤1001∧0<ls.length∧e=.returned (.tuple #[.slice ao ls.length cap,.int .i64 0,.int .i64 0])∧LinesAt w' (.slice ao ls.length cap) ls∧Below w.heap.size w w')
theorem Zd4 {a b:Option Addr} {n A c d:Nat} {x y z t:Int} (h:x=y) (m:z=t) (q:Value.slice a n c=.slice b A d):Ending.returned (.tuple #[.slice a n c,.int .i64 x,.int .i64 z])=.returned (.tuple #[.slice b A d,.int .i64 y,.int .i64 t]):=by rw [h,m,q]
theorem Zk3 (s:ByteArray) (w:World) (bg:s.size≤1000) :
  Calls Tryz.prog 70 #[.string s] w fun e w'=>Zrr s w w' e:=by
 obtain ⟨b0,bp,bu,bv,bw⟩:=info_parts ZkI;go_enter Tryz.func70,Tryz.ntmps70
 go_wp2_with fail
 refine (Zqm s _ bg).mono ?_;rintro e w1 ⟨bx,bz,rfl,ah,a7⟩;have bc:=Zdh s 10;have ax:=ZdQ s 10;obtain ⟨ps,hps⟩:∃ ps,ZP s 10=ps:=⟨_,rfl⟩;rw [hps] at ah bc ax ⊢;obtain ⟨n,av⟩:∃ n,ps.length=n:=⟨_,rfl⟩;rw [av] at ah bc ⊢;have Q:Hid (RowAt w1 (.slice bx n bz) n (Z6 ps)∧ps.length=n∧ZP s 10=ps∧∀ p∈ps,p.size≤s.size):=⟨ah,av,hps,ax⟩;have aj:Hid (Below w.heap.size w w1):=a7;clear ah av hps a7 ax;go_wp2_with fail
 go_loopw [6,7] (fun v i wr=>∃ (k m:Nat) (ci:List (Ln×Value)),k≤n∧i=.int .i64 k∧m≤k∧Hid (rd s=rdC k (ZaZ ci) (ps.drop k)∧ci.length=m∧∀ p∈ci,Sv wr p)∧wr.ownsRow w1.heap.size 167 5 v m (ZbP ci)∧Below w1.heap.size w1 wr) (fun _ i _=>n - (intOf i).toNat)
 case atStart=>exact ⟨0,0,[],Ye _,rfl,Yd _,⟨by rw [rd,Q.out.2.2.1];rfl,rfl,by simp⟩,World.ownsRow_made w1 #[] 0 (Yd _) (Ye _) rfl,Zc _ _⟩
 case round =>
  obtain ⟨k,m,ci,b9,rfl,cb,cj,O,N⟩:=hrel;obtain ⟨ay,vc,bt,_⟩:=Zf O;subst bt;by_cases bq:k<n
  ·obtain ⟨p,ai⟩:∃ p,ps[k]?=some p:=⟨_,Yb (by rw [Q.out.2.1];exact bq)⟩;obtain ⟨bl,off,br,b1,b6⟩:=(Q.out.1.nx N).at (ZdH ai);subst br;have bf:p.size≤1000:=Ym (Q.out.2.2.2 p (Yo ai)) bg;have HD:Hid (ps.drop k=p :: ps.drop (k+1)):=Zas ai;have ca:(k:Int)<(n:Int):=by omega
   clear ai;go_wp2_with fail
   refine (ZlE p _ bf).mono ?_;rintro e az ⟨a6,a1,rfl,ae,ab⟩;have a8:=Zio p;have aq:=Zjk p;obtain ⟨J,ao⟩:∃ J,Zav p=J:=⟨_,rfl⟩;rw [ao] at ae a8 aq ⊢;obtain ⟨D,ap⟩:∃ D,J.length=D:=⟨_,rfl⟩;rw [ap] at ae a8 ⊢;have V:=Zx O ab;have U:=Zb N ab;have A:Hid (RowAt az (.slice a6 D a1) D (Z6 J)∧J.length=D∧Zav p=J∧∀ q∈J,q.size≤p.size):=⟨ae,ap,ao,aq⟩;have aa:Hid (∀ p∈ci,Sv az p):=fun q E=>(cj.out.2.2 q E).nx ab
   clear ae ap ao aq O N ab;by_cases am:D=0
   ·have Y:Hid (D=0):=am;have bm:¬(0:Int)<(D:Int):=by omega
    have b8:¬0<D:=by omega
    clear am;go_wp2_with fail
    go_roundw
    case rel=>exact ⟨k+1,m,ci,by omega,by go_num,by omega,⟨by rw [cj.out.1,HD.out,Zim (by rw [A.out.2.2.1,A.out.2.1];exact Y.out)],cj.out.2.1,aa.out⟩,V,U⟩
    case measure=>simp [intOf];omega
   ·have bm:(0:Int)<(D:Int):=by omega
    have Y:Hid (¬(Zav p).length=0):=by show ¬_;rw [A.out.2.2.1,A.out.2.1];exact am
    have bk:=Za (Zls a6 a1 D J ay vc m ci az A.out.1 A.out.2.1 (by omega) (by omega) (fun q E=>Ym (A.out.2.2.2 q E) bf) (by
     have h:=Zf V;refine ⟨by rw [cj.out.2.1];exact h,fun q E=>(aa.out q E).1⟩) cj.out.2.1 (by omega))
    go_wp2_with fail
    refine bk.out.mono ?_;rintro e L (⟨ac,cg,ch,s2,s3,a4,cd,c4,rfl,M⟩ | ⟨l,so,sc,bi,be,rfl,aw,a9,M⟩)
    ·obtain ⟨ck,ad⟩:∃ ck,Zdi ci J=ck:=⟨_,rfl⟩;rw [ad] at ac ⊢;have d:Hid ((rd s).err=ck∧(rd s).at'=k+1∧Below w.heap.size w L):=by
      have e:rd s=⟨[],ck,k+1⟩:=by
       rw [cj.out.1,HD.out,Zrl Y.out (by rw [A.out.2.2.1,ad];exact ac),A.out.2.2.1,ad]
      refine ⟨by rw [e],by rw [e],Zb aj.out (Zb U M)⟩
     have b7:((ck:Int) != 0)=true:=by rw [bne_iff_ne];omega
     have bj:=Za ac;clear V U M ad ac;go_wp2_with fail
     go_ret3
     refine .inl ⟨by rw [d.out.1];exact bj.out,?_,Zb d.out.2.2 (Zc _ _)⟩;exact Zd4 (by rw [d.out.1]) (by rw [d.out.2.1];omega) rfl
    ·obtain ⟨I,af⟩:∃ I,l.sets.length=I:=⟨_,rfl⟩;rw [af] at aw ⊢;have ag:=Zx V M;have al:=Zb U M;have cl:w1.heap.size≤L.heap.size:=al.size;have d:Hid (rd s=rdC (k+1) (ZaZ (ci++[({l with place:=k+1},.slice so I sc)])) (ps.drop (k+1))∧l.sets.length=I):=by
      refine ⟨?_,af⟩;rw [cj.out.1,HD.out,ZqD Y.out (by rw [A.out.2.2.1];exact be) (by rw [A.out.2.2.1];exact bi)];simp [ZaZ]
     have HV:Hid ((∀ p∈ci,Sv L p)∧Sv L ({l with place:=k+1},.slice so I sc)):=by
      refine ⟨fun q E=>(aa.out q E).nx M,?_,?_⟩
      ·show RowAt L (.slice so I sc) l.sets.length (Zah l.sets);rw [af];exact aw
      ·intro cf n' ce e;simp only [Value.slice.injEq] at e;obtain ⟨rfl,_,_⟩:=e;exact a9.mono (Ye _)
     clear V U M bi be aw a9 af aa;go_wp2_with (at_builtin;refine wpList_append_own _ rfl (.tmp 42) (.tmp 44) 132 rfl w1.heap.size 167 b0 _ 5 72 Tryz.underlying132 bp bu bv bw rfl (by decide) _ _ _ rfl ((ag.alloc _).alloc _) ⟨L.heap.size+1,0,none⟩ 1 1 [.int .i64 ((k:Int)+1),.int .i64 (l.kind:Int),.string l.name,.string l.frm,.slice so I sc] rfl rfl ?c1 ?c2 ?c3 ?c4 ?c5 ?next)
     case c1=>exact ZY (L.alloc _) [.int .i64 ((k:Int)+1),.int .i64 (l.kind:Int),.string l.name,.string l.frm,.slice so I sc] _ (by simp)
     case c2=>intro u bh;simp at bh;rcases bh with rfl | rfl | rfl | rfl | rfl <;> rfl
     case c3=>unfold maxLen;omega
     case c4=>omega
     case c5=>simp;omega
     case next =>
      intro v' a0 bd ar _;have R:a0.ownsRow w1.heap.size 167 5 v' (m+1) (ZbP (ci++[({l with place:=k+1},.slice so I sc)]))∧Below w1.heap.size w1 a0∧∀ p∈ci++[({l with place:=k+1},.slice so I sc)],Sv a0 p:=by
       refine ⟨by rw [ZeW];exact bd,((al.alloc cl _).alloc (by simp;omega) _).grown ar (by simp;omega) (fun g bo=>(ag.lt g bo).1),?_⟩;intro q E;have bs:Sv L q:=by
        rcases List.mem_append.1 E with h | h
        ·exact HV.out.1 q h
        ·simp at h;subst h;exact HV.out.2
       exact ((bs.nx (Zc _ _)).nx (Zc _ _)).grown ar (Z5 ((ag.alloc _).alloc _))
      clear bd ar ag al;go_wp2_with fail
      go_roundw
      case rel=>exact ⟨k+1,m+1,ci++[({l with place:=k+1},.slice so I sc)],by omega,by go_num,by omega,⟨d.out.1,by simp [cj.out.2.1],R.2.2⟩,R.1,R.2.1⟩
      case measure=>simp [intOf];omega
  ·have ak:ps.drop k=[]:=List.drop_of_length_le (by rw [Q.out.2.1];omega);obtain rfl:k=n:=by omega
   have X:rd s=rdC k (ZaZ ci) []:=by rw [cj.out.1,ak]
   rw [rdC] at X;by_cases au:m=0
   ·have d:Hid (rd s=⟨[],2,k⟩∧Below w.heap.size w wr):=⟨by rw [X,if_pos (by simp [ZaZ,cj.out.2.1,au])],Zb aj.out N⟩;subst au;clear X ak O N;go_wp2_with fail
    go_ret3
    exact .inl ⟨by rw [d.out.1];exact (by decide:(2:Nat)≠0),Zd4 (by rw [d.out.1];rfl) (by rw [d.out.1]) rfl,d.out.2⟩
   ·have d:Hid (rd s=⟨ZaZ ci,0,0⟩∧Below w.heap.size w wr∧LinesAt wr (.slice ay m vc) ci∧ci.length=m):=
     ⟨by rw [X,if_neg (by simp [ZaZ,cj.out.2.1,au])],Zb aj.out N,⟨by rw [cj.out.2.1];exact Zf O,fun q E=>(cj.out.2.2 q E).1⟩,cj.out.2.1⟩
    have cc:((m:Int) == 0)=false:=by simp;omega
    clear X ak O N;go_wp2_with fail
    go_ret3
    refine .inr ⟨ci,ay,vc,by rw [d.out.1],by rw [d.out.1],by rw [d.out.2.2.2];omega,by rw [d.out.2.2.2];omega,Zd4 rfl rfl (by rw [d.out.2.2.2]),?_,d.out.2.1⟩;rw [d.out.2.2.2];exact d.out.2.2.1
def ZeM (all:List (Ln×Value)) (st:Int×List Pl) (p:Ln×Value):Int×List Pl:=
 if p.1.kind=1 then (Zbu 3 0 p.1.sets [],st.2) else if p.1.kind=3 then (st.1,ZH (ZfB all p.1) st.2) else st
def Zb3 (all:List (Ln×Value)) (k:Nat):Int×List Pl:=(all.take k).foldl (ZeM all) (0,[])
theorem ZnY (d:List (Ln×Value)) (k:Nat) (p:Ln×Value) (h:d[k]?=some p):Zb3 d (k+1)=ZeM d (Zb3 d k) p:=by
 unfold Zb3;obtain ⟨m,rfl⟩:=Yc.1 h;rw [Yk m,List.foldl_append];rfl
abbrev Zi (b:Int) (v:Value):Obj:=.cells #[.int .i64 b,v] 39
theorem Zw {w:World} {g:Nat} {d c1:Value} {t:TypeId} (h:w.heap[g]?=some (.cells #[d,c1] t (0,0))) :
  w.cell? ⟨g,0,none⟩=some d∧w.cell? ⟨g,1,none⟩=some c1∧∀ a,w.frozen? ⟨g,a,none⟩=false:=by
 refine ⟨?_,?_,fun a=>?_⟩ <;> simp [World.cell?,World.frozen?,h]
theorem Zmu (ah:Option Addr) (ai n:Nat) (h:List (Ln×Value)) (w:World) (ax:LinesAt w (.slice ah n ai) h) (ay:h.length=n) (bg:n≤1001) (a1:∀ p∈h,p.1.sets.length≤1001) :
  Calls Tryz.prog 72 #[.slice ah n ai] w fun e w'=>∃ m vc,e=.returned (.agg #[.int .i64 (Zb3 h n).1,.slice m (Zb3 h n).2.length vc])∧w'.ownsRow w.heap.size 82 4 (.slice m (Zb3 h n).2.length vc) (Zb3 h n).2.length (Ze (Zb3 h n).2)∧Below w.heap.size w w':=by
 have HL:Hid (LinesAt w (.slice ah n ai) h∧h.length=n∧∀ p∈h,p.1.sets.length≤1001):=⟨ax,ay,a1⟩;clear ax ay a1;have bc:Hid (((w.alloc (Zi 0 (.slice none 0 0))).alloc (Zi 0 (.slice none 0 0))).heap[w.heap.size]?=some (Zi 0 (.slice none 0 0))∧((w.alloc (Zi 0 (.slice none 0 0))).alloc (Zi 0 (.slice none 0 0))).heap[w.heap.size+1]?=some (Zi 0 (.slice none 0 0))):=
  ⟨(Zt _ _ (by simp)).trans (ZC _ _ rfl),ZC _ _ (by simp)⟩
 go_enter Tryz.func72,Tryz.ntmps72
 go_wp2_with fail
 go_loopw [4] (fun i wr=>∃ (k d:Nat) (b:Int) (ps:List Pl) (m:Option Addr) (vc:Nat),k≤n∧i=.int .i64 k∧d≤k∧Hid (Zb3 h k=(b,ps)∧ps.length=d)∧Hid (wr.heap[w.heap.size]?=some (Zi 0 (.slice none 0 0))∧wr.heap[w.heap.size+1]?=some (Zi b (.slice m d vc))) ∧
   wr.ownsRow (w.heap.size+2) 82 4 (.slice m d vc) d (Ze ps)∧Below w.heap.size w wr∧w.heap.size+2≤wr.heap.size) (fun i _=>n - (intOf i).toNat)
 case atStart=>exact ⟨0,0,0,[],none,0,Ye _,rfl,Yd _,⟨rfl,rfl⟩,bc.out,Yq _ _ _ _,Zb (Zc _ _) (Zc _ _),by simp⟩
 case round =>
  obtain ⟨k,d,b,ps,m,vc,bq,rfl,bs,L,X,U,N,ag⟩:=hrel;by_cases bf:k<n
  ·obtain ⟨⟨l,bo⟩,al⟩:∃ p,h[k]?=some p:=⟨_,Yb (by rw [HL.out.2.1];exact bf)⟩;obtain ⟨bl,off,so,sc,ao,bp,bh,af,au,c1,c2,c3,c4⟩:=(HL.out.1.nx N).at al;have a6:l.sets.length≤1001:=HL.out.2.2 _ (Yo al);have HT:=Za (ZnY h k (l,bo) al);have br:(k:Int)<(n:Int):=by omega
   clear al bh;by_cases R:l.kind=1
   ·have A:Hid (Zb3 h (k+1)=(Zbu 3 0 l.sets [],ps)):=by
     show _=_;rw [HT.out,L.out.1,ZeM,if_pos R]
    have bd:((l.kind:Int) == 1)=true:=by rw [ZhB];simp [R]
    have HV:=Za (Zpf l.place l.kind l.name l.frm so sc l.sets.length l.sets wr af rfl a6);obtain ⟨V,a7⟩:∃ V,Zbu 3 0 l.sets []=V:=⟨_,rfl⟩;rw [a7] at A HV;subst ao;clear R HT af a7;go_wp2_with fail
    refine HV.out.mono ?_;rintro e q ⟨rfl,D⟩;have Q:q.heap[w.heap.size]?=some (Zi 0 (.slice none 0 0)):=(D.block _ (by omega)).trans X.out.1;have E:q.heap[w.heap.size+1]?=some (Zi b (.slice m d vc)):=(D.block _ (by omega)).trans X.out.2;obtain ⟨av,aw,a8⟩:=Zw E;have ap:w.heap.size+2≤q.heap.size:=Ym ag D.size;have J:Hid ((q.setCell ⟨w.heap.size+1,0,none⟩ (.int .i64 V)).ownsRow (w.heap.size+2) 82 4 (.slice m d vc) d (Ze ps)∧Below w.heap.size w (q.setCell ⟨w.heap.size+1,0,none⟩ (.int .i64 V)) ∧
      (q.setCell ⟨w.heap.size+1,0,none⟩ (.int .i64 V)).heap[w.heap.size]?=some (Zi 0 (.slice none 0 0))∧(q.setCell ⟨w.heap.size+1,0,none⟩ (.int .i64 V)).heap[w.heap.size+1]?=some (Zi V (.slice m d vc))):=
     ⟨Yi (Zx U D) (by show w.heap.size+1<_;omega) _,(Zb N D).setCell (Nat.le_succ _) _,(Yf _ _ _ _ (by show w.heap.size≠w.heap.size+1;omega)).trans Q,Zm _ _ _ _ _ _ E⟩
    clear D Q E U N au c1 c2 c3 c4 ag;go_wp2_with fail
    go_roundw
    case rel=>exact ⟨k+1,d,V,ps,m,vc,by omega,by go_num,by omega,⟨A.out,L.out.2⟩,⟨J.out.2.2.1,J.out.2.2.2⟩,J.out.1,J.out.2.1,by simpa using ap⟩
    case measure=>simp [intOf];omega
   ·have bd:((l.kind:Int) == 1)=false:=by rw [ZhB];simp [R]
    by_cases ae:l.kind=3
    ·have A:Hid (Zb3 h (k+1)=(b,ZH (ZfB h l) ps)):=by
      show _=_;rw [HT.out,L.out.1,ZeM,if_neg R,if_pos ae]
     have be:((l.kind:Int) == 3)=true:=by rw [ae];rfl
     have ar:=Za (Zn0 l l.place l.kind so sc l.sets.length ah ai n h wr (HL.out.1.nx N) HL.out.2.1 bg af rfl a6 HL.out.2.2);obtain ⟨aq,a0⟩:∃ aq,ZfB h l=aq:=⟨_,rfl⟩;rw [a0] at A ar;subst ao;clear R ae HT af a0;go_wp2_with fail
     refine ar.out.mono ?_;rintro e q ⟨rfl,D⟩;have Q:q.heap[w.heap.size]?=some (Zi 0 (.slice none 0 0)):=(D.block _ (by omega)).trans X.out.1;have E:q.heap[w.heap.size+1]?=some (Zi b (.slice m d vc)):=(D.block _ (by omega)).trans X.out.2;have ap:w.heap.size+2≤q.heap.size:=Ym ag D.size;obtain ⟨nm,sz,wt,fr⟩:=aq;obtain ⟨M,am⟩:∃ M,M=q.alloc (ZF ⟨nm,sz,wt,fr⟩):=⟨_,rfl⟩;have ac:Below q.heap.size q M:=by rw [am];exact Zc _ _
     have az:=Zx (Zx U D) ac;have HI:=Za (Zgp ⟨nm,sz,wt,fr⟩ m vc d ps M (Zf az) L.out.2 (by omega));have bj:=fun o=>(Zw (w:=q.alloc o) ((Zt _ _ (show w.heap.size+1<q.heap.size by omega)).trans E)).1
     have bk:=fun o=>(Zw (w:=q.alloc o) ((Zt _ _ (show w.heap.size+1<q.heap.size by omega)).trans E)).2.1
     have O:Hid (M=q.alloc (ZF ⟨nm,sz,wt,fr⟩)∧Below w.heap.size w M∧M.heap[w.heap.size]?=some (Zi 0 (.slice none 0 0))∧M.heap[w.heap.size+1]?=some (Zi b (.slice m d vc))∧w.heap.size+2≤M.heap.size):=
      ⟨am,Zb (Zb N D) ac,(ac.block _ (by omega)).trans Q,(ac.block _ (by omega)).trans E,Ym ap ac.size⟩
     clear D ac Q E U az N am au c1 c2 c3 c4 ag;go_wp2_with fail
     rw [←O.out.1];refine HI.out.mono ?_;rintro e ab ⟨bt,rfl,ak,ad⟩;obtain ⟨aa,Y,bi,_⟩:=Zf ak;subst bi;obtain ⟨I,aj⟩:∃ I,(ZH ⟨nm,sz,wt,fr⟩ ps).length=I:=⟨_,rfl⟩;rw [aj] at ak ⊢;have a9:Hid (I=d+1):=Za (by rw [←aj,Zch,L.out.2]);have E:ab.heap[w.heap.size+1]?=some (Zi b (.slice m d vc)):=(ad.block _ (by have:=O.out.2.2.2.2;omega)).trans O.out.2.2.2.1;have Q:ab.heap[w.heap.size]?=some (Zi 0 (.slice none 0 0)):=(ad.block _ (by have:=O.out.2.2.2.2;omega)).trans O.out.2.2.1;obtain ⟨av,aw,a8⟩:=Zw E;have J:Hid ((ab.setCell ⟨w.heap.size+1,1,none⟩ (.slice aa I Y)).ownsRow (w.heap.size+2) 82 4 (.slice aa I Y) I (Ze (ZH ⟨nm,sz,wt,fr⟩ ps))∧Below w.heap.size w (ab.setCell ⟨w.heap.size+1,1,none⟩ (.slice aa I Y)) ∧
       (ab.setCell ⟨w.heap.size+1,1,none⟩ (.slice aa I Y)).heap[w.heap.size]?=some (Zi 0 (.slice none 0 0))∧(ab.setCell ⟨w.heap.size+1,1,none⟩ (.slice aa I Y)).heap[w.heap.size+1]?=some (Zi b (.slice aa I Y))∧w.heap.size+2≤ab.heap.size∧(ZH ⟨nm,sz,wt,fr⟩ ps).length=I):=
      ⟨Yi (Zr ak O.out.2.2.2.2) (by show w.heap.size+1<_;omega) _,(Zb O.out.2.1 ad).setCell (Nat.le_succ _) _,(Yf _ _ _ _ (by show w.heap.size≠w.heap.size+1;omega)).trans Q,Zm _ _ _ _ _ _ E,Ym O.out.2.2.2.2 ad.size,aj⟩
     clear ad Q E ak aj bj bk;go_wp2_with fail
     go_roundw
     case rel=>exact ⟨k+1,I,b,ZH ⟨nm,sz,wt,fr⟩ ps,aa,Y,by omega,by go_num,by have:=a9.out;omega,⟨A.out,J.out.2.2.2.2.2⟩,⟨J.out.2.2.1,J.out.2.2.2.1⟩,J.out.1,J.out.2.1,by simpa using J.out.2.2.2.2.1⟩
     case measure=>simp [intOf];omega
    ·have be:((l.kind:Int) == 3)=false:=by simp;omega
     have A:Hid (Zb3 h (k+1)=(b,ps)):=by
      show _=_;rw [HT.out,L.out.1,ZeM,if_neg R,if_neg ae]
     subst ao;clear R ae HT af;go_wp2_with fail
     go_roundw
     case rel=>exact ⟨k+1,d,b,ps,m,vc,by omega,by go_num,by omega,⟨A.out,L.out.2⟩,X.out,U,N,ag⟩
     case measure=>simp [intOf];omega
  ·obtain rfl:k=n:=by omega
   obtain ⟨bv,bm,bu⟩:=Zw X.out.1;obtain ⟨av,aw,a8⟩:=Zw X.out.2;have A:Hid (Zb3 h k=(b,ps)∧ps.length=d∧wr.ownsRow w.heap.size 82 4 (.slice m d vc) d (Ze ps)∧wr.ownsRow (w.heap.size+2) 82 4 (.slice m d vc) d (Ze ps)∧Below w.heap.size w wr):=⟨L.out.1,L.out.2,Zr U (by omega),U,N⟩;clear U N;go_wp2_with fail
   refine bodyPost_ret (v:=.agg #[.int .i64 b,.slice m d vc]) (by simp [results,Tryz.results72,go_sem,bv,bm]) rfl ⟨m,vc,?_,?_,?_⟩
   ·rw [A.out.1];simp only;rw [A.out.2.1]
   ·rw [A.out.1];simp only;rw [A.out.2.1];exact Zr (Yi (Yi A.out.2.2.2.1 (by show w.heap.size<_;omega) _) (by show w.heap.size<_;omega) _) (by omega)
   ·exact (A.out.2.2.2.2.setCell (Yd _) _).setCell (Yd _) _
end Co
namespace Lw
open Co
structure Srv where
 id:Int
 pool:ByteArray
 far:Int
 client:Int
structure Wtr where
 client:Int
 pool:ByteArray
structure Stp where
 kind:Int
 name:ByteArray
 n:Int
def fSv (x:Srv):List Value:=[.int .i64 x.id,.string x.pool,.int .i64 x.far,.int .i64 x.client]
def fWt (x:Wtr):List Value:=[.int .i64 x.client,.string x.pool]
def fSt (x:Stp):List Value:=[.int .i64 x.kind,.string x.name,.int .i64 x.n]
def Zv (l:List Srv):List Value:=l.flatMap fSv
def ZE (l:List Wtr):List Value:=l.flatMap fWt
def Zo (l:List Stp):List Value:=l.flatMap fSt
theorem Zla {α:Type} (f:α→List Value) (k:Nat) (h:∀ x,(f x).length=k):∀ (l:List α) (i:Nat) (x:α),l[i]?=some x→∀ j,j<k→(l.flatMap f)[i*k+j]?=(f x)[j]?
 | [],i,x,d,_,_=>by simp at d
 | y :: r,0,x,d,j,m=>by
  simp at d;subst d;rw [List.flatMap_cons,Nat.zero_mul,Nat.zero_add,List.getElem?_append_left (by rw [h];exact m)]
 | y :: r,i+1,x,d,j,m=>by
  have ih:=Zla f k h r i x (by simpa using d) j m;rw [List.flatMap_cons,List.getElem?_append_right (by rw [h,Nat.succ_mul];omega),h,←ih];congr 1;rw [Nat.succ_mul];omega
theorem Zhf {α:Type} (f:α→List Value) (k:Nat) (d:∀ x,(f x).length=k) (l:List α):(l.flatMap f).length=l.length*k:=by
 induction l with
 | nil=>simp
 | cons x r ih=>rw [List.flatMap_cons,List.length_append,ih,d,List.length_cons,Nat.succ_mul];omega
theorem ZiF {α:Type} (f:α→List Value) (d:∀ x,∀ u∈f x,u.oneCell'=true) (l:List α):∀ u∈l.flatMap f,u.oneCell'=true:=by
 intro u h;obtain ⟨x,_,m⟩:=List.mem_flatMap.1 h;exact d x u m
theorem ZhM {α:Type} {f:α→List Value} {k:Nat} (d:∀ x,(f x).length=k) {w:World} {N:Option Addr} {n m I:Nat} {l:List α} (h:RowAt w (.slice N n I) m (l.flatMap f)) {i:Nat} {x:α} (q:l[i]?=some x) (D:0<k) :
  ∃ b off,N=some ⟨b,off,none⟩∧b<w.heap.size∧∀ j v,(f x)[j]?=some v→w.cell? ⟨b,off+(i*k+j),none⟩=some v:=by
 have J:(l.flatMap f)[i*k+0]?=some ((f x)[0]'(by rw [d];exact D)):=by
  rw [Zla f k d l i x q 0 D,Yb]
 obtain ⟨b,off,e,hb,_⟩:=h.at J;refine ⟨b,off,e,hb,fun j v A=>?_⟩;have L:j<k:=by rw [←d x];exact (Yc.1 A).1
 obtain ⟨E,M,O,_,g⟩:=h.at ((Zla f k d l i x q j L).trans A);rw [e] at O;obtain ⟨rfl,rfl⟩:b=E∧off=M:=by simpa using O
 exact g
theorem ZbA {w:World} {d:Option Addr} {n m q:Nat} {l:List Srv} (h:RowAt w (.slice d n q) m (Zv l)) {i:Nat} {x:Srv} (A:l[i]?=some x) :
  ∃ b off,d=some ⟨b,off,none⟩∧b<w.heap.size∧w.cell? ⟨b,off+i*4,none⟩=some (.int .i64 x.id)∧w.cell? ⟨b,off+i*4+1,none⟩=some (.string x.pool)∧w.cell? ⟨b,off+i*4+2,none⟩=some (.int .i64 x.far)∧w.cell? ⟨b,off+i*4+3,none⟩=some (.int .i64 x.client):=by
 obtain ⟨b,off,e,hb,g⟩:=ZhM (f:=fSv) (k:=4) (fun _=>rfl) h A (by omega);exact ⟨b,off,e,hb,g 0 _ rfl,g 1 _ rfl,g 2 _ rfl,g 3 _ rfl⟩
theorem Zdd {w:World} {d:Option Addr} {n m q:Nat} {l:List Wtr} (h:RowAt w (.slice d n q) m (ZE l)) {i:Nat} {x:Wtr} (A:l[i]?=some x) :
  ∃ b off,d=some ⟨b,off,none⟩∧b<w.heap.size∧w.cell? ⟨b,off+i*2,none⟩=some (.int .i64 x.client)∧w.cell? ⟨b,off+i*2+1,none⟩=some (.string x.pool):=by
 obtain ⟨b,off,e,hb,g⟩:=ZhM (f:=fWt) (k:=2) (fun _=>rfl) h A (by omega);exact ⟨b,off,e,hb,g 0 _ rfl,g 1 _ rfl⟩
theorem Zge {w:World} {d:Option Addr} {n m q:Nat} {l:List Stp} (h:RowAt w (.slice d n q) m (Zo l)) {i:Nat} {x:Stp} (A:l[i]?=some x) :
  ∃ b off,d=some ⟨b,off,none⟩∧b<w.heap.size∧w.cell? ⟨b,off+i*3,none⟩=some (.int .i64 x.kind)∧w.cell? ⟨b,off+i*3+1,none⟩=some (.string x.name)∧w.cell? ⟨b,off+i*3+2,none⟩=some (.int .i64 x.n):=by
 obtain ⟨b,off,e,hb,g⟩:=ZhM (f:=fSt) (k:=3) (fun _=>rfl) h A (by omega);exact ⟨b,off,e,hb,g 0 _ rfl,g 1 _ rfl,g 2 _ rfl⟩
structure Chg (F:Nat→Prop) (w w':World):Prop where
 os:w'.os=w.os
 tape:w'.tape=w.tape
 output:w'.output=w.output
 size:w.heap.size≤w'.heap.size
 block:∀ b,b<w.heap.size→¬F b→w'.heap[b]?=w.heap[b]?
theorem Chg.of_below {w h:World} {F:Nat→Prop} (d:Below w.heap.size w h):Chg F w h:=⟨d.os,d.tape,d.output,d.size,fun b hb _=>d.block b hb⟩
theorem Chg.refl (F:Nat→Prop) (w:World):Chg F w w:=⟨rfl,rfl,rfl,Yd _,fun _ _ _=>rfl⟩
theorem Chg.trans {F G:Nat→Prop} {a b c:World} (d:Chg F a b) (k:Chg G b c) (m:∀ x,G x→F x∨a.heap.size≤x):Chg F a c:=
 ⟨k.os.trans d.os,k.tape.trans d.tape,k.output.trans d.output,Ym d.size k.size,fun x h hF=>(k.block x (Yl h d.size) (fun q=>(m x q).elim hF (fun A=>by omega))).trans (d.block x h hF)⟩
theorem Chg.mono {F G:Nat→Prop} {a b:World} (d:Chg F a b) (hF:∀ x,F x→G x):Chg G a b:=⟨d.os,d.tape,d.output,d.size,fun x q m=>d.block x q (fun h=>m (hF x h))⟩
theorem Chg.below {F:Nat→Prop} {a b:World} (d:Chg F a b) {B:Nat} (h:B≤a.heap.size) (hF:∀ x,F x→B≤x):Below B a b:=
 ⟨d.os,d.tape,d.output,d.size,fun x q=>d.block x (Yl q h) (fun m=>by have:=hF x m;omega)⟩
theorem Chg.set {F:Nat→Prop} (w:World) (g a:Nat) (v:Value) (hF:F g):Chg F w (w.setCell ⟨g,a,none⟩ v):=by
 have d:=(Yh 0 w).setCell (Ye (⟨g,a,none⟩:Addr).block) v;refine ⟨d.os,d.tape,d.output,d.size,fun b hb h=>?_⟩;exact Yf _ _ _ _ (fun e=>h (by rw [show b=g from e];exact hF))
theorem ZtQ (m q:Option Addr) (n D E:Nat) (l:List Srv) (w:World) (J:RowAt w (.slice m n D) n (Zv l)) (L:RowAt w (.slice q n E) n (Zv l)) (I:l.length=n) (X:n≤maxLen) :
  Calls Tryz.prog 35 #[.slice m n D,.slice q n E] w fun e w'=>e=.returned (.bool true)∧Below w.heap.size w w':=by
 unfold maxLen at X;have h:Hid (RowAt w (.slice m n D) n (Zv l)∧RowAt w (.slice q n E) n (Zv l)∧l.length=n):=⟨J,L,I⟩;clear J L I;go_enter Tryz.func35,Tryz.ntmps35
 go_wp2_with fail
 go_loopw [5] (fun i wr=>∃ (k:Nat),k≤n∧i=.int .i64 k∧Below w.heap.size w wr) (fun i _=>n - (intOf i).toNat)
 case atStart=>exact ⟨0,Ye _,rfl,Yh _ _⟩
 case round =>
  obtain ⟨k,ac,rfl,d⟩:=hrel;by_cases Y:k<n
  ·obtain ⟨⟨af,ag,ah,ai⟩,A⟩:∃ p,l[k]?=some p:=⟨_,Yb (by rw [h.out.2.2];exact Y)⟩;obtain ⟨aa,off,Q,U,M,c1,c2,c3⟩:=ZbA (h.out.1.nx d) A;obtain ⟨ab,ae,R,V,N,O,d2,d3⟩:=ZbA (h.out.2.1.nx d) A;subst Q R;clear A U V;simp only at M c1 c2 c3 N O d2 d3;have ad:(k:Int)<(n:Int):=by omega
   go_wp2_with fail
   go_quiet (fail)
   go_wp2_with fail
   go_roundw
   case rel=>exact ⟨k+1,by omega,by go_num,below_drewN d _⟩
   case measure=>simp [intOf];omega
  ·go_wp2_with fail
   go_ret
   exact ⟨rfl,d⟩
theorem Ztt (m q:Option Addr) (n D E:Nat) (l:List Wtr) (w:World) (J:RowAt w (.slice m n D) n (ZE l)) (L:RowAt w (.slice q n E) n (ZE l)) (I:l.length=n) (X:n≤maxLen) :
  Calls Tryz.prog 36 #[.slice m n D,.slice q n E] w fun e w'=>e=.returned (.bool true)∧Below w.heap.size w w':=by
 unfold maxLen at X;have h:Hid (RowAt w (.slice m n D) n (ZE l)∧RowAt w (.slice q n E) n (ZE l)∧l.length=n):=⟨J,L,I⟩;clear J L I;go_enter Tryz.func36,Tryz.ntmps36
 go_wp2_with fail
 go_loopw [5] (fun i wr=>∃ (k:Nat),k≤n∧i=.int .i64 k∧Below w.heap.size w wr) (fun i _=>n - (intOf i).toNat)
 case atStart=>exact ⟨0,Ye _,rfl,Yh _ _⟩
 case round =>
  obtain ⟨k,ac,rfl,d⟩:=hrel;by_cases Y:k<n
  ·obtain ⟨⟨af,ag⟩,A⟩:∃ p,l[k]?=some p:=⟨_,Yb (by rw [h.out.2.2];exact Y)⟩;obtain ⟨aa,off,Q,U,M,c1⟩:=Zdd (h.out.1.nx d) A;obtain ⟨ab,ae,R,V,N,O⟩:=Zdd (h.out.2.1.nx d) A;subst Q R;clear A U V;simp only at M c1 N O;have ad:(k:Int)<(n:Int):=by omega
   go_wp2_with fail
   go_quiet (fail)
   go_wp2_with fail
   go_roundw
   case rel=>exact ⟨k+1,by omega,by go_num,below_drewN d _⟩
   case measure=>simp [intOf];omega
  ·go_wp2_with fail
   go_ret
   exact ⟨rfl,d⟩
theorem Zq4 (m q:Option Addr) (n D E:Nat) (l:List Stp) (w:World) (J:RowAt w (.slice m n D) n (Zo l)) (L:RowAt w (.slice q n E) n (Zo l)) (I:l.length=n) (X:n≤maxLen) :
  Calls Tryz.prog 37 #[.slice m n D,.slice q n E] w fun e w'=>e=.returned (.bool true)∧Below w.heap.size w w':=by
 unfold maxLen at X;have h:Hid (RowAt w (.slice m n D) n (Zo l)∧RowAt w (.slice q n E) n (Zo l)∧l.length=n):=⟨J,L,I⟩;clear J L I;go_enter Tryz.func37,Tryz.ntmps37
 go_wp2_with fail
 go_loopw [5] (fun i wr=>∃ (k:Nat),k≤n∧i=.int .i64 k∧Below w.heap.size w wr) (fun i _=>n - (intOf i).toNat)
 case atStart=>exact ⟨0,Ye _,rfl,Yh _ _⟩
 case round =>
  obtain ⟨k,ac,rfl,d⟩:=hrel;by_cases Y:k<n
  ·obtain ⟨⟨af,ag,ah⟩,A⟩:∃ p,l[k]?=some p:=⟨_,Yb (by rw [h.out.2.2];exact Y)⟩;obtain ⟨aa,off,Q,U,M,c1,c2⟩:=Zge (h.out.1.nx d) A;obtain ⟨ab,ae,R,V,N,O,d2⟩:=Zge (h.out.2.1.nx d) A;subst Q R;clear A U V;simp only at M c1 c2 N O d2;have ad:(k:Int)<(n:Int):=by omega
   go_wp2_with fail
   go_quiet (fail)
   go_wp2_with fail
   go_roundw
   case rel=>exact ⟨k+1,by omega,by go_num,below_drewN d _⟩
   case measure=>simp [intOf];omega
  ·go_wp2_with fail
   go_ret
   exact ⟨rfl,d⟩
theorem ZtE (b:Int) (d h:Option Addr) (n c1 c2:Nat) (ps:List Pl) (w:World) (E:RowAt w (.slice d n c1) n (Ze ps)) (I:RowAt w (.slice h n c2) n (Ze ps)) (D:ps.length=n) (aa:n≤maxLen) :
  Calls Tryz.prog 34 #[.agg #[.int .i64 b,.slice d n c1],.agg #[.int .i64 b,.slice h n c2]] w fun e w'=>e=.returned (.bool true)∧Below w.heap.size w w':=by
 unfold maxLen at aa;have L:Hid (ps.length=n):=D;clear D;have A:Hid (RowAt ((w.alloc (Zi b (.slice d n c1))).alloc (Zi b (.slice h n c2))) (.slice d n c1) n (Ze ps)∧RowAt ((w.alloc (Zi b (.slice d n c1))).alloc (Zi b (.slice h n c2))) (.slice h n c2) n (Ze ps)):=
  ⟨(E.nx (Zc _ _)).nx (Zc _ _),(I.nx (Zc _ _)).nx (Zc _ _)⟩
 clear E I;go_enter Tryz.func34,Tryz.ntmps34
 go_wp2_with fail
 go_loopw [5] (fun i wr=>∃ (k:Nat),k≤n∧i=.int .i64 k ∧
   Below ((w.alloc (Zi b (.slice d n c1))).alloc (Zi b (.slice h n c2))).heap.size ((w.alloc (Zi b (.slice d n c1))).alloc (Zi b (.slice h n c2))) wr) (fun i _=>n - (intOf i).toNat)
 case atStart=>exact ⟨0,Ye _,rfl,Yh _ _⟩
 case round =>
  obtain ⟨k,ag,rfl,m⟩:=hrel;have ae:wr.cell? ⟨w.heap.size,1,none⟩=some (.slice d n c1):=by
   refine (m.cell (p:=⟨w.heap.size,1,none⟩) (by simp;omega)).trans ?_;simp
  have af:wr.cell? ⟨w.heap.size+1,1,none⟩=some (.slice h n c2):=by
   refine (m.cell (p:=⟨w.heap.size+1,1,none⟩) (by simp)).trans ?_;simp
  have J:Hid (Below w.heap.size w wr):=Zb (Zb (Zc _ _) (Zc _ _)) m;by_cases ab:k<n
  ·obtain ⟨⟨nm,sz,wt,fr⟩,q⟩:∃ p,ps[k]?=some p:=⟨_,Yb (by rw [L.out];exact ab)⟩;obtain ⟨ac,off,U,X,M,N,O,c3⟩:=ZJ (A.out.1.nx m) q;obtain ⟨ad,ai,V,Y,Q,R,d2,d3⟩:=ZJ (A.out.2.nx m) q;subst U V;clear q X Y;simp only at M N O c3 Q R d2 d3;have ah:(k:Int)<(n:Int):=by omega
   go_wp2_with fail
   go_quiet (fail)
   go_wp2_with fail
   go_roundw
   case rel=>exact ⟨k+1,by omega,by go_num,below_drewN m _⟩
   case measure=>simp [intOf];omega
  ·go_wp2_with fail
   go_ret
   exact ⟨rfl,J.out⟩
structure Zh where
 bud:Int
 pools:List Pl
 srv:List Srv
 wts:List Wtr
 plan:List Stp
 begun:Bool
 back:Bool
structure ZA where
 po:Option Addr
 pc:Nat
 so:Option Addr
 sc:Nat
 wo:Option Addr
 wc:Nat
 tqo:Option Addr
 tc:Nat
abbrev Zg0 (S:Zh) (v:ZA):Value:=.agg #[.int .i64 S.bud,.slice v.po S.pools.length v.pc,.slice v.so S.srv.length v.sc,.slice v.wo S.wts.length v.wc,.slice v.tqo S.plan.length v.tc,.bool S.begun,.bool S.back]
structure StaAt (w:World) (S:Zh) (v:ZA):Prop where
 p:RowAt w (.slice v.po S.pools.length v.pc) S.pools.length (Ze S.pools)
 s:RowAt w (.slice v.so S.srv.length v.sc) S.srv.length (Zv S.srv)
 t:RowAt w (.slice v.wo S.wts.length v.wc) S.wts.length (ZE S.wts)
 l:RowAt w (.slice v.tqo S.plan.length v.tc) S.plan.length (Zo S.plan)
theorem StaAt.nx {w h:World} {S:Zh} {v:ZA} (d:StaAt w S v) (hb:Below w.heap.size w h):StaAt h S v:=⟨d.p.nx hb,d.s.nx hb,d.t.nx hb,d.l.nx hb⟩
structure Zjy (S:Zh):Prop where
 p:S.pools.length≤maxLen
 s:S.srv.length≤maxLen
 t:S.wts.length≤maxLen
 l:S.plan.length≤maxLen
theorem Zeq {W d:World} {B:Nat} (hb:Below B W d) {g:Nat} (A:g<B) {D c1 c2 c3 c4 c5 m:Value} {t:TypeId} (h:W.heap[g]?=some (.cells #[D,c1,c2,c3,c4,c5,m] t (0,0))) :
  d.cell? ⟨g,0,none⟩=some D∧d.cell? ⟨g,1,none⟩=some c1∧d.cell? ⟨g,2,none⟩=some c2∧d.cell? ⟨g,3,none⟩=some c3∧d.cell? ⟨g,4,none⟩=some c4∧d.cell? ⟨g,5,none⟩=some c5∧d.cell? ⟨g,6,none⟩=some m:=by
 have q:d.heap[g]?=some (.cells #[D,c1,c2,c3,c4,c5,m] t (0,0)):=(hb.block g A).trans h;refine ⟨?_,?_,?_,?_,?_,?_,?_⟩ <;> simp [World.cell?,q]
end Lw
end Go.Proofs.YtmgkcbdlfodjmaaGreatDoor
