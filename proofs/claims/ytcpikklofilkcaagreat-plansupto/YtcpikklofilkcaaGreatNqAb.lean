import Derived.Test.YtcpikklofilkcaaGreatNqQ
import Derived.Test.YtcpikklofilkcaaGreatNqH
import Derived.Deep.RegionWith
import Derived.Test.YtcpikklofilkcaaGreatNqAa
set_option maxRecDepth 100000
set_option maxHeartbeats 16000000
namespace Go.Proofs.YtcpikklofilkcaaGreat
open Go.RowKit
namespace Df
open Co Lw
theorem Za5 {α:Type} {p:α→Bool}:∀ {l:List α} {k:Nat} {x:α},(∀ y∈l.take k,p y=false)→l[k]?=some x→p x=true→l.find? p=some x
 | [],k,x,_,hx,_=>by simp at hx
 | y :: r,0,x,_,hx,hp=>by
  simp at hx;subst hx;exact List.find?_cons_of_pos hp
 | y :: r,k+1,x,hn,hx,hp=>by
  have h0:p y=false:=hn y (by simp);rw [List.find?_cons_of_neg (by rw [h0];simp)];exact Za5 (k:=k) (fun z hz=>hn z (by simp [hz])) (by simpa using hx) hp
theorem ZbI {α:Type} {p:α→Bool} {l:List α} (hn:∀ y∈l,p y=false):l.find? p=none:=by
 rw [List.find?_eq_none];intro x hx;rw [hn x hx];simp
theorem Ziw {α:Type} {p:α→Bool} {l:List α} {k:Nat} {x:α} (hx:l[k]?=some x) (hp:p x=true):l.any p=true:=List.any_eq_true.2 ⟨x,List.mem_of_getElem? hx,hp⟩
theorem Zic {α:Type} {p:α→Bool} {l:List α} (hn:∀ y∈l,p y=false):l.any p=false:=by
 rw [List.any_eq_false];intro x hx;rw [hn x hx];simp
def leadsB (k f t:Int):Bool:=if k=1∨k=3 then decide (t<f) else if k=7∨k=8 then decide (f<t) else !decide (t=f)
def numP (k:Int) (p:Pl):Int:=if k=5 then p.fr else if k=6 then p.wt else p.sz
def inP (ps:List Pl) (nm:ByteArray):Pl:=match ps.find? (isNameP nm) with
 | some p=>p
 | none=>⟨nm,0,0,0⟩
def hasP (ps:List Pl) (p:Pl):Bool:=ps.any (isNameP p.nm)
def stepP (k:Int) (nm:ByteArray) (n:Int):Stp:=⟨k,nm,n⟩
def missL (k:Int) (ps qs:List Pl):List Stp:=(ps.filter (fun p=>!hasP qs p)).map (fun p=>stepP k p.nm 0)
def budL (k f t:Int):List Stp:=if leadsB k f t=true then [⟨k,⟨#[]⟩,t⟩] else []
def chgP (k:Int) (ps:List Pl) (p:Pl):Bool:=leadsB k (numP k (inP ps p.nm)) (numP k p)
def chgL (k:Int) (ps bs:List Pl):List Stp:=(bs.filter (chgP k ps)).map (fun p=>stepP k p.nm (numP k p))
def kindL (k:Int) (ba:Int) (ps:List Pl) (bb:Int) (bs:List Pl):List Stp:=
 if k=2 then missL k ps bs else if k=4 then missL k bs ps else if k=3∨k=7 then budL k ba bb else chgL k ps bs
def diffTo (n:Nat) (ba:Int) (ps:List Pl) (bb:Int) (bs:List Pl):List Stp:=(List.range n).flatMap (fun (i:Nat)=>kindL ((i:Int)+1) ba ps bb bs)
def diffL (ba:Int) (ps:List Pl) (bb:Int) (bs:List Pl):List Stp:=diffTo 8 ba ps bb bs
theorem cLeads (k f t:Int) (w:World):Calls Tryz.prog 157 #[.int .i64 k,.int .i64 f,.int .i64 t] w fun e w'=>e=.returned (.bool (leadsB k f t))∧w'=w:=by
 by_cases h1:k=1
 ·subst h1;go_enter Tryz.func157,Tryz.ntmps157
  go_wp2_with fail
  go_ret
  exact ⟨by simp [leadsB],rfl⟩
 ·by_cases h3:k=3
  ·subst h3;go_enter Tryz.func157,Tryz.ntmps157
   go_wp2_with fail
   go_ret
   exact ⟨by simp [leadsB],rfl⟩
  ·by_cases h7:k=7
   ·subst h7;go_enter Tryz.func157,Tryz.ntmps157
    go_wp2_with fail
    go_ret
    exact ⟨by simp [leadsB],rfl⟩
   ·by_cases h8:k=8
    ·subst h8;go_enter Tryz.func157,Tryz.ntmps157
     go_wp2_with fail
     go_ret
     exact ⟨by simp [leadsB],rfl⟩
    ·have b1:(k == 1)=false:=by simp [h1]
     have b3:(k == 3)=false:=by simp [h3]
     have b7:(k == 7)=false:=by simp [h7]
     have b8:(k == 8)=false:=by simp [h8]
     have HE:Hid (leadsB k f t=!decide (t=f)):=by show _=_;simp [leadsB,h1,h3,h7,h8]
     clear h1 h3 h7 h8;go_enter Tryz.func157,Tryz.ntmps157
     go_wp2_with fail
     go_ret
     exact ⟨Zl (by rw [HE.out];first | rfl | simp),rfl⟩
theorem cNum (k:Int) (nm:ByteArray) (sz wt fr:Int) (w:World):Calls Tryz.prog 159 #[.int .i64 k,.agg #[.string nm,.int .i64 sz,.int .i64 wt,.int .i64 fr]] w fun e w'=>e=.returned (.int .i64 (numP k ⟨nm,sz,wt,fr⟩))∧Below w.heap.size w w':=by
 by_cases h5:k=5
 ·subst h5;go_enter Tryz.func159,Tryz.ntmps159
  go_wp2_with fail
  go_ret
  exact ⟨by simp [numP],Zb _ _⟩
 ·by_cases h6:k=6
  ·subst h6;go_enter Tryz.func159,Tryz.ntmps159
   go_wp2_with fail
   go_ret
   exact ⟨by simp [numP],Zb _ _⟩
  ·have b5:(k == 5)=false:=by simp [h5]
   have b6:(k == 6)=false:=by simp [h6]
   have HE:Hid (numP k ⟨nm,sz,wt,fr⟩=sz):=by show _=_;simp [numP,h5,h6]
   clear h5 h6;go_enter Tryz.func159,Tryz.ntmps159
   go_wp2_with fail
   go_ret
   exact ⟨Zt HE.out.symm,Zb _ _⟩
abbrev zPl:Pl:=⟨⟨#[]⟩,0,0,0⟩
def findV (o:Option Pl):Value:=match o with | some p=>.tuple #[plA p,.bool true] | none=>.tuple #[plA zPl,.bool false]
theorem cFind (ao:Option Addr) (n ac:Nat) (name:ByteArray) (ps:List Pl) (w:World) (hr:RowAt w (.slice ao n ac) n (flatP ps)) (hn:ps.length=n) (hlen:n≤maxLen) :
  Calls Tryz.prog 105 #[.slice ao n ac,.string name] w fun e w'=>e=.returned (findV (ps.find? (isNameP name)))∧Below w.heap.size w w':=by
 unfold maxLen at hlen;have HR:Hid (RowAt (w.alloc (bPl zPl)) (.slice ao n ac) n (flatP ps)∧ps.length=n):=⟨hr.nx (Zb _ _),hn⟩;clear hr hn;go_enter Tryz.func105,Tryz.ntmps105
 go_wp2_with fail
 go_loop [6] (fun i=>∃ k:Nat,k≤n∧i=.int .i64 k∧Hid (∀ y∈ps.take k,(isNameP name) y=false)) (fun i=>n - (intOf i).toNat)
 case atStart=>exact ⟨0,Nat.zero_le _,rfl,by intro y hy;simp at hy⟩
 case round =>
  obtain ⟨k,hk,rfl,HT⟩:=hrel;by_cases hlt:k<n
  ·have HRW:=HR.out.1;obtain ⟨⟨x0,x1,x2,x3⟩,hp⟩:∃ p,ps[k]?=some p:=⟨_,List.getElem?_eq_getElem (by rw [HR.out.2];exact hlt)⟩;obtain ⟨bl,off,hao,hbl,c0,c1,c2,c3⟩:=Zn HRW hp;subst hao;simp only at c0 c1 c2 c3;have hlti:(k:Int)<(n:Int):=by omega
   clear HRW;cases hq:(x0.toList == name.toList) with
   | true =>
    have HH:Hid (ps.find? (isNameP name)=some ⟨x0,x1,x2,x3⟩):=Za5 HT.out hp hq;clear hp;go_wp2_with fail
    refine bodyPost_ret (v:=.tuple #[plA ⟨x0,x1,x2,x3⟩,.bool true]) (by simp [results,Tryz.results105,go_sem]) rfl ⟨by rw [HH.out];rfl,?_⟩;exact Zb _ _
   | false =>
    have HN:Hid (∀ y∈ps.take (k+1),(isNameP name) y=false):=ZK HT.out hp (by show (x0.toList == name.toList)=false;exact hq);clear hp;go_wp2_with fail
    go_round
    case rel=>exact ⟨k+1,by omega,by go_num,HN.out⟩
    case measure=>simp [intOf];omega
  ·have HM:Hid (ps.find? (isNameP name)=none):=ZbI (fun y hy=>HT.out y (by rw [List.take_of_length_le (by rw [HR.out.2];omega)];exact hy));go_wp2_with fail
   refine bodyPost_ret (v:=.tuple #[plA zPl,.bool false]) (by simp [results,Tryz.results105,go_sem]) rfl ⟨by rw [HM.out];rfl,?_⟩;exact Zb _ _
theorem cHas (ao:Option Addr) (n ac:Nat) (name:ByteArray) (ps:List Pl) (w:World) (hr:RowAt w (.slice ao n ac) n (flatP ps)) (hn:ps.length=n) (hlen:n≤maxLen) :
  Calls Tryz.prog 156 #[.slice ao n ac,.string name] w fun e w'=>e=.returned (.bool (ps.any (isNameP name)))∧w'=w:=by
 unfold maxLen at hlen;have HR:Hid (RowAt w (.slice ao n ac) n (flatP ps)∧ps.length=n):=⟨hr,hn⟩;clear hr hn;go_enter Tryz.func156,Tryz.ntmps156
 go_wp2_with fail
 go_loop [5] (fun i=>∃ k:Nat,k≤n∧i=.int .i64 k∧Hid (∀ y∈ps.take k,(isNameP name) y=false)) (fun i=>n - (intOf i).toNat)
 case atStart=>exact ⟨0,Nat.zero_le _,rfl,by intro y hy;simp at hy⟩
 case round =>
  obtain ⟨k,hk,rfl,HT⟩:=hrel;by_cases hlt:k<n
  ·have HRW:=HR.out.1;obtain ⟨⟨x0,x1,x2,x3⟩,hp⟩:∃ p,ps[k]?=some p:=⟨_,List.getElem?_eq_getElem (by rw [HR.out.2];exact hlt)⟩;obtain ⟨bl,off,hao,hbl,c0,c1,c2,c3⟩:=Zn HRW hp;subst hao;simp only at c0 c1 c2 c3;have hlti:(k:Int)<(n:Int):=by omega
   clear HRW;cases hq:(x0.toList == name.toList) with
   | true =>
    have HH:Hid (ps.any (isNameP name)=true):=Ziw hp hq;clear hp;go_wp2_with fail
    go_ret
    exact ⟨by rw [HH.out];rfl,rfl⟩
   | false =>
    have HN:Hid (∀ y∈ps.take (k+1),(isNameP name) y=false):=ZK HT.out hp (by show (x0.toList == name.toList)=false;exact hq);clear hp;go_wp2_with fail
    go_round
    case rel=>exact ⟨k+1,by omega,by go_num,HN.out⟩
    case measure=>simp [intOf];omega
  ·have HM:Hid (ps.any (isNameP name)=false):=Zic (fun y hy=>HT.out y (by rw [List.take_of_length_le (by rw [HR.out.2];omega)];exact hy));go_wp2_with fail
   go_ret
   exact ⟨by rw [HM.out];rfl,rfl⟩
theorem made0 (w:World) (ty:TypeId) (sz:Nat) (g:Nat) (hg:g=w.heap.size) (B:Nat) (hB:B≤w.heap.size):(w.alloc (.cells #[] ty)).ownsRow B ty sz (.slice (some ⟨g,0,none⟩) 0 0) 0 []:=by
 subst hg;exact World.ownsRow_made (base:=B) (e:=ty) (size:=sz) w #[] 0 hB (Nat.zero_le _) (by simp)
theorem Z7:(Tryz.prog.info? 72).map (fun i=>(i.zero,i.size,i.bytes))=some (some (.agg #[.int .i64 0,.string ⟨#[]⟩,.int .i64 0]),3,32):=by kernel_rfl
theorem ZeK (l:List Stp):(flatT l).length=l.length*3:=Zcx fSt 3 (fun _=>rfl) l
theorem ZeL (l:List Stp):∀ u∈flatT l,u.oneCell'=true:=ZdT fSt (fun x u hu=>by simp [fSt] at hu;rcases hu with rfl | rfl | rfl <;> rfl) l
theorem last4 {w1:World} {g:Nat} {t:TypeId} {c0 c1 c2 c3:Value} (hh:w1.heap[g]?=some (.cells #[c0,c1,c2,c3] t (0,0))) (v0 v1 v2 v3:Value) (o:Obj) :
  ((((((w1.setCell ⟨g,0,none⟩ v0).setCell ⟨g,1,none⟩ v1).setCell ⟨g,2,none⟩ v2).setCell ⟨g,3,none⟩ v3)).alloc o).heap[g]?=some (.cells #[v0,v1,v2,v3] t (0,0)):=by
 have h4:=Zg _ g 3 v3 _ _ (Zg _ g 2 v2 _ _ (Zg _ g 1 v1 _ _ (Zg _ g 0 v0 _ _ hh)));refine (Zf _ _ (Array.getElem?_eq_some_iff.1 h4).1).trans ?_;rw [h4];rfl
theorem cPoolIn (ao:Option Addr) (n ac:Nat) (name:ByteArray) (ps:List Pl) (w:World) (hr:RowAt w (.slice ao n ac) n (flatP ps)) (hn:ps.length=n) (hlen:n≤maxLen) :
  Calls Tryz.prog 158 #[.slice ao n ac,.string name] w fun e w'=>e=.returned (plA (inP ps name))∧Below w.heap.size w w':=by
 have HF:=hideIt (fun u (hb:Below w.heap.size w u)=>cFind ao n ac name ps u (hr.nx hb) hn hlen);have HB0:=hideIt (Zb w (bPl zPl));clear hr hn;cases hf:ps.find? (isNameP name) with
 | none =>
  have HI:Hid (inP ps name=⟨name,0,0,0⟩):=by show _=_;rw [inP,hf]
  rw [hf] at HF;clear hf;go_enter Tryz.func158,Tryz.ntmps158
  go_wp2_with fail
  refine (HF.out _ HB0.out).mono ?_;rintro e w1 ⟨rfl,hb1⟩;have hh:w1.heap[w.heap.size]?=some (bPl zPl):=(hb1.block _ (by simp)).trans (Zc _ _ rfl);have HB1:=hideIt (Za HB0.out hb1);have hz1:w.heap.size<w1.heap.size:=(Array.getElem?_eq_some_iff.1 hh).1;obtain ⟨c0,c1,c2,c3,cz⟩:=blk4 (Below.refl w1.heap.size w1) hz1 hh;have HL:=hideIt (last4 hh (.string name) (.int .i64 0) (.int .i64 0) (.int .i64 0) (bPl zPl));clear hb1 HF HB0 hh;unfold findV;go_wp2_with fail
  obtain ⟨FW,hFW⟩:∃ FW,((((((w1.setCell ⟨w.heap.size,0,none⟩ (.string name)).setCell ⟨w.heap.size,1,none⟩ (.int .i64 0)).setCell ⟨w.heap.size,2,none⟩ (.int .i64 0)).setCell ⟨w.heap.size,3,none⟩ (.int .i64 0))).alloc (bPl zPl))=FW:=⟨_,rfl⟩;have hBF:Below w.heap.size w FW:=by
   rw [←hFW];exact ((((HB1.out.setCell (Nat.le_refl _) _).setCell (Nat.le_refl _) _).setCell (Nat.le_refl _) _).setCell (Nat.le_refl _) _).alloc (by simp;omega) _
  rw [hFW] at HL ⊢;obtain ⟨f0,f1,f2,f3,fz⟩:=blk4 (Below.refl FW.heap.size FW) (Array.getElem?_eq_some_iff.1 HL.out).1 HL.out;clear hFW c0 c1 c2 c3 cz;refine bodyPost_ret (v:=plA ⟨name,0,0,0⟩) (by simp [results,Tryz.results158,go_sem,f0,f1,f2,f3]) rfl ⟨by rw [HI.out],hBF⟩
 | some p =>
  obtain ⟨x0,x1,x2,x3⟩:=p;have HI:Hid (inP ps name=⟨x0,x1,x2,x3⟩):=by show _=_;rw [inP,hf]
  rw [hf] at HF;clear hf;go_enter Tryz.func158,Tryz.ntmps158
  go_wp2_with fail
  refine (HF.out _ HB0.out).mono ?_;rintro e w1 ⟨rfl,hb1⟩;have hh:w1.heap[w.heap.size]?=some (bPl zPl):=(hb1.block _ (by simp)).trans (Zc _ _ rfl);have HB1:=hideIt (Za HB0.out hb1);have hz1:w.heap.size<w1.heap.size:=(Array.getElem?_eq_some_iff.1 hh).1;obtain ⟨c0,c1,c2,c3,cz⟩:=blk4 (Below.refl w1.heap.size w1) hz1 hh;have HL:=hideIt (last4 hh (.string x0) (.int .i64 x1) (.int .i64 x2) (.int .i64 x3) (bPl ⟨x0,x1,x2,x3⟩));clear hb1 HF HB0 hh;unfold findV;go_wp2_with fail
  obtain ⟨FW,hFW⟩:∃ FW,((((((w1.setCell ⟨w.heap.size,0,none⟩ (.string x0)).setCell ⟨w.heap.size,1,none⟩ (.int .i64 x1)).setCell ⟨w.heap.size,2,none⟩ (.int .i64 x2)).setCell ⟨w.heap.size,3,none⟩ (.int .i64 x3))).alloc (bPl ⟨x0,x1,x2,x3⟩))=FW:=⟨_,rfl⟩;have hBF:Below w.heap.size w FW:=by
   rw [←hFW];exact ((((HB1.out.setCell (Nat.le_refl _) _).setCell (Nat.le_refl _) _).setCell (Nat.le_refl _) _).setCell (Nat.le_refl _) _).alloc (by simp;omega) _
  rw [hFW] at HL ⊢;obtain ⟨f0,f1,f2,f3,fz⟩:=blk4 (Below.refl FW.heap.size FW) (Array.getElem?_eq_some_iff.1 HL.out).1 HL.out;clear hFW c0 c1 c2 c3 cz;refine bodyPost_ret (v:=plA ⟨x0,x1,x2,x3⟩) (by simp [results,Tryz.results158,go_sem,f0,f1,f2,f3]) rfl ⟨by rw [HI.out],hBF⟩
theorem cBudget (k f t:Int) (w:World):Calls Tryz.prog 140 #[.int .i64 k,.int .i64 f,.int .i64 t] w fun e w'=>∃ ao c,e=.returned (.slice ao (budL k f t).length c)∧RowAt w' (.slice ao (budL k f t).length c) (budL k f t).length (flatT (budL k f t))∧(ao=none→c=0)∧Below w.heap.size w w':=by
 cases hl:leadsB k f t with
 | false =>
  have HB:Hid (budL k f t=[]):=by show _=_;rw [budL,hl];rfl
  go_enter Tryz.func140,Tryz.ntmps140
  go_wp2_with fail
  refine (cLeads _ _ _ _).mono ?_;rintro e w1 ⟨rfl,h1⟩;obtain rfl:=h1.symm;rw [hl];go_wp2_with fail
  go_ret
  exact ⟨none,0,by rw [HB.out];rfl,by rw [HB.out];exact Zak _ _ _,fun _=>rfl,Below.refl _ _⟩
 | true =>
  have HB:Hid (budL k f t=[⟨k,⟨#[]⟩,t⟩]):=by show _=_;rw [budL,hl];rfl
  go_enter Tryz.func140,Tryz.ntmps140
  go_wp2_with fail
  refine (cLeads _ _ _ _).mono ?_;rintro e w1 ⟨rfl,h1⟩;obtain rfl:=h1.symm;rw [hl];go_wp2_with fail
  go_ret
  exact ⟨some ⟨w.heap.size,0,none⟩,1,by rw [HB.out];rfl,by rw [HB.out];exact ZA w [.int .i64 k,.string ⟨#[]⟩,.int .i64 t] _ 1 rfl,(fun h=>by cases h),Zb _ _⟩
theorem cMissing (kd:Int) (ao:Option Addr) (n ac:Nat) (ps:List Pl) (bo:Option Addr) (m bc:Nat) (qs:List Pl) (w:World) (hr:RowAt w (.slice ao n ac) n (flatP ps)) (hn:ps.length=n) (hq:n≤1099511627776) (hr2:RowAt w (.slice bo m bc) m (flatP qs)) (hm:qs.length=m) (hm2:m≤maxLen) :
  Calls Tryz.prog 139 #[.int .i64 kd,.slice ao n ac,.slice bo m bc] w fun e w'=>∃ vo vc,e=.returned (.slice vo (missL kd ps qs).length vc)∧w'.ownsRow w.heap.size 72 3 (.slice vo (missL kd ps qs).length vc) (missL kd ps qs).length (flatT (missL kd ps qs))∧Below w.heap.size w w':=by
 have HR:Hid (RowAt w (.slice ao n ac) n (flatP ps)∧ps.length=n):=⟨hr,hn⟩;have HH:=hideIt (fun u (hb:Below w.heap.size w u) name=>cHas bo m bc name qs u (hr2.nx hb) hm hm2);clear hr hn hr2 hm;go_enter Tryz.func139,Tryz.ntmps139
 go_wp2_with fail
 go_loopw [7,8,9] (fun l i nm wr=>∃ (k j:Nat) (vo:Option Addr) (vc:Nat),k≤n∧j≤k∧i=.int .i64 k∧l=.slice vo j vc∧Hid ((missL kd (ps.take k) qs).length=j∧wr.ownsRow w.heap.size 72 3 (.slice vo j vc) j (flatT (missL kd (ps.take k) qs))∧Below w.heap.size w wr)) (fun _ i _ _=>n - (intOf i).toNat)
 case atStart=>exact ⟨0,0,some ⟨w.heap.size,0,none⟩,0,Nat.zero_le _,Nat.le_refl _,rfl,rfl,by simp [missL],made0 w _ 3 _ rfl _ (Nat.le_refl _),Zb _ _⟩
 case round =>
  obtain ⟨k,j,vo,vc,hk,hj,rfl,rfl,HS⟩:=hrel;by_cases hlt:k<n
  ·obtain ⟨⟨x0,x1,x2,x3⟩,hp⟩:∃ p,ps[k]?=some p:=⟨_,List.getElem?_eq_getElem (by rw [HR.out.2];exact hlt)⟩;obtain ⟨bl,off,hao,hbl,c0,c1,c2,c3⟩:=Zn (HR.out.1.nx HS.out.2.2) hp;subst hao;simp only at c0 c1 c2 c3;have hlti:(k:Int)<(n:Int):=by omega
   have HNX:Hid (missL kd (ps.take (k+1)) qs=missL kd (ps.take k) qs++if qs.any (isNameP x0)=true then [] else [stepP kd x0 0]):=by
    obtain ⟨hk',e⟩:=List.getElem?_eq_some_iff.1 hp;show _=_;unfold missL;rw [List.take_succ_eq_append_getElem hk',List.filter_append,List.map_append,e];congr 1;cases hkk:qs.any (isNameP x0) <;> simp [hasP,hkk]
   clear hp;go_wp2_with fail
   refine (HH.out _ HS.out.2.2 _).mono ?_;rintro e w1 ⟨rfl,h1⟩;obtain rfl:=h1.symm;cases hx:qs.any (isNameP x0) with
   | true =>
    have HN:Hid (missL kd (ps.take (k+1)) qs=missL kd (ps.take k) qs):=by
     show _=_;rw [HNX.out,hx];simp
    clear hx;go_wp2_with fail
    go_roundw
    case rel=>exact ⟨k+1,j,vo,vc,by omega,by omega,by go_num,rfl,by rw [HN.out];exact HS.out⟩
    case measure=>simp [intOf];omega
   | false =>
    have HN:Hid (missL kd (ps.take (k+1)) qs=missL kd (ps.take k) qs++[stepP kd x0 0]):=by
     show _=_;rw [HNX.out,hx];simp
    clear hx;go_wp2_with (at_builtin;refine appendG 72 34 3 32 _ Z7 Tryz.underlying34 rfl (by decide) (by decide) rfl (.tmp 26) (.tmp 30) rfl w.heap.size _ j (flatT (missL kd (ps.take k) qs)) rfl (HS.out.2.1.alloc _) (some ⟨wr.heap.size,0,none⟩) 1 1 [.int .i64 kd,.string x0,.int .i64 0] rfl rfl (ZA wr [.int .i64 kd,.string x0,.int .i64 0] _ 1 rfl) (by intro u hu;simp at hu;rcases hu with rfl | rfl | rfl <;> rfl) (fun h=>by cases h) (by omega) (by simp;have:=HS.out.2.2.size;omega) ?next)
    case next =>
     intro v' w6 hown6 hb6;obtain ⟨vo6,vc6,rfl,_⟩:=Zd hown6;have K6:Hid ((missL kd (ps.take (k+1)) qs).length=j+1∧w6.ownsRow w.heap.size 72 3 (.slice vo6 (j+1) vc6) (j+1) (flatT (missL kd (ps.take (k+1)) qs))∧Below w.heap.size w w6):=by
      refine ⟨by rw [HN.out];simp [HS.out.1],?_,(HS.out.2.2.alloc HS.out.2.2.size _).trans hb6⟩;rw [HN.out];unfold flatT;rw [List.flatMap_append];exact hown6
     clear hown6 hb6;go_wp2_with fail
     go_roundw
     case rel=>exact ⟨k+1,j+1,vo6,vc6,by omega,by omega,by go_num,rfl,K6.out⟩
     case measure=>simp [intOf];omega
  ·have HE:Hid ((missL kd ps qs).length=j∧wr.ownsRow w.heap.size 72 3 (.slice vo j vc) j (flatT (missL kd ps qs))∧Below w.heap.size w wr):=by
    have ht:ps.take k=ps:=List.take_of_length_le (by rw [HR.out.2];omega);have:=HS.out;rw [ht] at this;exact this
   go_wp2_with fail
   go_ret
   exact ⟨vo,vc,by rw [HE.out.1];rfl,by rw [HE.out.1];exact HE.out.2.1,HE.out.2.2⟩
end Df
end Go.Proofs.YtcpikklofilkcaaGreat
namespace Go.Proofs.YtcpikklofilkcaaGreat
open Go.RowKit
namespace Lw
open Co
def cThinL (pool:ByteArray):Nat→Sta→Sta
 | 0,S=>S
 | f+1,S=>cThinL pool f (cQuit S (orW (lastP (isPoolW pool) S.wts)).client)
theorem dThinLine (gp:Nat) (pool:ByteArray) (N:Int) (S:Sta) (X:Aux) (F:Nat→Prop) (w:World) (h:DeskAt w gp S X F) (hq0:S.wts.length≤549755813888) (hN:0≤N∧N≤1000000) :
  Calls Tryz.prog 119 #[.pointer (some ⟨gp,0,none⟩),.string pool,.int .i64 N] w fun e w'=>(∃ x,e=.returned x)∧Moved w w' gp (cThinL pool ((cntG (isPoolW pool) S.wts:Int) - N).toNat S) X F:=by
 obtain ⟨po,pc,so,sc,wo,wc,yo,yc,ho,hc,hx⟩:=h.ex;obtain ⟨g0,g1,g2,g3,g4,gz⟩:=blk5d hx.box;have HH:=hideIt h;have HCN:=hideIt (cWaitersFor wo _ wc pool S.wts w (Zd hx.t.own) rfl (by unfold maxLen;omega));obtain ⟨q,hqe⟩:∃ q:Nat,cntG (isPoolW pool) S.wts=q:=⟨_,rfl⟩;have hql:q≤549755813888:=by
  rw [←hqe];exact Nat.le_trans (List.length_filter_le _ _) hq0
 have HQ:=hideIt hq0;rw [hqe] at HCN ⊢;obtain ⟨V,hV⟩:∃ V:Int,(q:Int) - N=V:=⟨_,rfl⟩;have hVb:-1000000≤V∧V≤549755813888:=by omega
 have HV:=hideIt hV;clear h hx hqe hq0;go_enter Tryz.func119,Tryz.ntmps119
 go_wp2_with fail
 refine HCN.out.mono ?_;rintro e w1 ⟨rfl,h1⟩;obtain rfl:=h1.symm;go_wp2_with fail
 clear g0 g1 g2 g3 g4 gz;go_loopw [6,7] (fun i p7 wr=>∃ (v:Int) (T:Sta),v≤549755813888∧-1000000≤v∧i=.int .i64 v∧Hid (Moved w wr gp T X F∧T.wts.length≤549755813888∧cThinL pool v.toNat T=cThinL pool V.toNat S)) (fun i _ _=>(intOf i).toNat)
 case atStart=>exact ⟨V,S,hVb.2,hVb.1,by rw [←HV.out],Moved.refl HH.out,HQ.out,rfl⟩
 case round =>
  obtain ⟨v,T,hv,hv2,rfl,HS⟩:=hrel;by_cases hlt:0<v
  ·obtain ⟨F1,hd,hnx⟩:=HS.out.1.step;obtain ⟨po',pc',so',sc',wo',wc',yo',yc',ho',hc',hx⟩:=hd.ex;obtain ⟨g0,g1,g2,g3,g4,gz⟩:=blk5d hx.box;have HLI:=hideIt (cLastWaiterFor wo' _ wc' pool T.wts wr (Zd hx.t.own) rfl (by have:=HS.out.2.1;unfold maxLen;omega));obtain ⟨⟨x0,x1⟩,hx0⟩:∃ x,orW (lastP (isPoolW pool) T.wts)=x:=⟨_,rfl⟩;rw [hx0] at HLI;have HX0:=hideIt hx0;have HD:=hideIt hd;have HNX:=hideIt hnx;clear hd hnx hx hx0;go_wp2_with fail
   refine HLI.out.mono ?_;rintro e w2 ⟨rfl,hb2⟩;obtain ⟨W2,hW2⟩:∃ W2,W2=w2.alloc (bWt x0 x1):=⟨_,rfl⟩;have hbW:Below wr.heap.size wr W2:=by rw [hW2];exact Za hb2 (Zb _ _)
   have KW:Hid (W2=w2.alloc (bWt x0 x1)∧W2.heap[w2.heap.size]?=some (bWt x0 x1)∧Below wr.heap.size wr W2):=⟨hW2,by rw [hW2];exact Zc _ _ rfl,hbW⟩;have HSH:=hideIt (dQuit gp x0 T X F1 W2 (HD.out.keep (G:=fun _=>False) (Chg.of_below hbW) (fun _ _ h=>h)) (by have:=HS.out.2.1;omega));have HT2:Hid ((cQuit T x0).wts.length≤549755813888∧cThinL pool (v - 1).toNat (cQuit T x0)=cThinL pool V.toNat S):=by
    refine ⟨Nat.le_trans (List.length_filter_le _ _) HS.out.2.1,?_⟩;have:=HS.out.2.2;rw [show v.toNat=(v - 1).toNat+1 by omega,cThinL,HX0.out] at this;exact this
   clear hb2 hW2 hbW g0 g1 g2 g3 g4 gz;go_upto_region 4 with fail
   rw [←KW.out.1];obtain ⟨b0,b1,bz⟩:=blk2 KW.out.2.1;go_wp2_with fail
   refine HSH.out.mono ?_;rintro e w3 ⟨⟨x,rfl⟩,hm⟩;have KF:=hideIt (HNX.out _ _ _ (Moved.after KW.out.2.2 hm));clear hm b0 b1 bz;go_wp2_with fail
   go_roundw
   case rel=>exact ⟨v - 1,cQuit T x0,by omega,by omega,by go_num,KF.out,HT2.out⟩
   case measure=>simp [intOf];omega
  ·have KF:Hid (Moved w wr gp (cThinL pool V.toNat S) X F):=by
    have:=HS.out.2.2;rw [show v.toNat=0 by omega,cThinL] at this;rw [←this];exact HS.out.1
   go_wp2_with fail
   refine bodyPost_end (v:=.tuple #[]) (by simp [results,Tryz.results119,go_sem]) rfl ?_;exact ⟨⟨_,rfl⟩,by first | exact KF.out | (rw [HV.out];exact KF.out)⟩
def updP (k n:Int) (x:Pl):Pl:=if k=1∨k=8 then {x with sz:=n} else if k=5 then {x with fr:=n} else if k=6 then {x with wt:=n} else x
def chgP (k:Int) (nm:ByteArray) (n:Int) (ps:List Pl):List Pl:=insP (updP k n (Df.inP ps nm)) (ps.filter (othN nm))
abbrev bSt (k:Int) (nm:ByteArray) (n:Int):Obj:=.cells #[.int .i64 k,.string nm,.int .i64 n] 72
abbrev stA (k:Int) (nm:ByteArray) (n:Int):Value:=.agg #[.int .i64 k,.string nm,.int .i64 n]
theorem blk3d {w:World} {g:Nat} {c0 c1 c2:Value} {t:TypeId} (h:w.heap[g]?=some (.cells #[c0,c1,c2] t (0,0))) :
  w.cell? ⟨g,0,none⟩=some c0∧w.cell? ⟨g,1,none⟩=some c1∧w.cell? ⟨g,2,none⟩=some c2∧∀ a,w.frozen? ⟨g,a,none⟩=false:=by
 refine ⟨?_,?_,?_,fun a=>?_⟩ <;> simp [World.cell?,World.frozen?,h]
theorem Zgb {k:Int} (hk:k=1∨k=5∨k=6∨k=8) (so:Option Addr) (n2 sc:Nat) (nm:ByteArray) (n:Int) (ps:List Pl) (w:World) (hr:RowAt w (.slice so n2 sc) n2 (flatP ps)) (hn:ps.length=n2) (hq:n2≤1001) :
  Calls Tryz.prog 143 #[.slice so n2 sc,stA k nm n] w fun e w'=>∃ vo vc,e=.returned (.slice vo (chgP k nm n ps).length vc)∧w'.ownsRow w.heap.size 70 4 (.slice vo (chgP k nm n ps).length vc) (chgP k nm n ps).length (flatP (chgP k nm n ps))∧Below w.heap.size w w':=by
 obtain ⟨qs,hqs⟩:∃ qs,chgP k nm n ps=qs:=⟨_,rfl⟩;rw [hqs];have HQS:=hideIt hqs;have HK:=hideIt hk;clear hqs hk;obtain ⟨W0,hW0⟩:∃ W0,W0=w.alloc (bSt k nm n):=⟨_,rfl⟩;have hb0:Below w.heap.size w W0:=by rw [hW0];exact Zb _ _
 have K0:Hid (W0=w.alloc (bSt k nm n)∧W0.heap[w.heap.size]?=some (bSt k nm n)∧Below w.heap.size w W0):=⟨hW0,by rw [hW0];exact Zc _ _ rfl,hb0⟩;have HWO:=hideIt (cWithout so n2 sc nm ps W0 (hr.nx hb0) hn (by omega));have HPI:=hideIt (fun u (hu:Below w.heap.size w u)=>Df.cPoolIn so n2 sc nm ps u (hr.nx hu) hn (by unfold maxLen;omega));have HLN:Hid ((ps.filter (othN nm)).length≤1001):=by
  have:=List.length_filter_le (othN nm) ps;show _≤_;omega
 clear hr hn hW0 hb0;go_enter Tryz.func143,Tryz.ntmps143
 go_upto_region 1 with fail
 rw [←K0.out.1];obtain ⟨b0,b1,b2,bz⟩:=blk3d K0.out.2.1;go_wp2_with fail
 refine HWO.out.mono ?_;rintro e w1 ⟨vo,vc,rfl,ho1,hb1⟩;have HO1:=hideIt ho1;have HB1:=hideIt (Za K0.out.2.2 hb1);have hs1:w1.heap[w.heap.size]?=some (bSt k nm n):=(hb1.block _ (Array.getElem?_eq_some_iff.1 K0.out.2.1).1).trans K0.out.2.1;clear ho1 hb1 b0 b1 b2 bz;obtain ⟨b0,b1,b2,bz⟩:=blk3d hs1;have HS1:=hideIt hs1;clear hs1;go_wp2_with fail
 refine (HPI.out w1 HB1.out).mono ?_;rintro e w2 ⟨rfl,hb2⟩;obtain ⟨⟨x0,x1,x2,x3⟩,hx⟩:∃ x,Df.inP ps nm=x:=⟨_,rfl⟩;rw [hx];obtain ⟨c,y,HCH,HKC⟩:∃ (c:Nat) (y:Pl),Hid (qs=insP y (ps.filter (othN nm))∧(∀ u:World,u.heap[w2.heap.size]?=some (bPl ⟨x0,x1,x2,x3⟩)→(u.setCell ⟨w2.heap.size,c,none⟩ (.int .i64 n)).heap[w2.heap.size]?=some (bPl y)))∧Hid (k=1∧c=1∨k=5∧c=3∨k=6∧c=2∨k=8∧c=1):=by
  rw [←HQS.out];have h:=HK.out;rcases h with rfl | rfl | rfl | rfl
  ·exact ⟨1,⟨x0,n,x2,x3⟩,⟨by unfold chgP;rw [hx];rfl,fun u h=>Zg _ _ _ _ _ _ h⟩,.inl ⟨rfl,rfl⟩⟩
  ·exact ⟨3,⟨x0,x1,x2,n⟩,⟨by unfold chgP;rw [hx];rfl,fun u h=>Zg _ _ _ _ _ _ h⟩,.inr (.inl ⟨rfl,rfl⟩)⟩
  ·exact ⟨2,⟨x0,x1,n,x3⟩,⟨by unfold chgP;rw [hx];rfl,fun u h=>Zg _ _ _ _ _ _ h⟩,.inr (.inr (.inl ⟨rfl,rfl⟩))⟩
  ·exact ⟨1,⟨x0,n,x2,x3⟩,⟨by unfold chgP;rw [hx];rfl,fun u h=>Zg _ _ _ _ _ _ h⟩,.inr (.inr (.inr ⟨rfl,rfl⟩))⟩
 obtain ⟨W2,hW2⟩:∃ W2,W2=w2.alloc (bPl ⟨x0,x1,x2,x3⟩):=⟨_,rfl⟩;have hbW:Below w1.heap.size w1 W2:=by rw [hW2];exact Za hb2 (Zb _ _)
 have K2:Hid (W2=w2.alloc (bPl ⟨x0,x1,x2,x3⟩)∧W2.heap[w2.heap.size]?=some (bPl ⟨x0,x1,x2,x3⟩)∧Below w1.heap.size w1 W2∧W2.heap[w.heap.size]?=some (bSt k nm n)∧w.heap.size<w2.heap.size):=⟨hW2,by rw [hW2];exact Zc _ _ rfl,hbW,(hbW.block _ (Array.getElem?_eq_some_iff.1 HS1.out).1).trans HS1.out,Nat.lt_of_lt_of_le (Array.getElem?_eq_some_iff.1 HS1.out).1 hb2.size⟩;have HW12:Hid (w1.heap.size≤w2.heap.size):=hb2.size;clear hb2 hW2 hbW hx b0 b1 b2 bz;go_upto_region 3 with fail
 rw [←K2.out.1];obtain ⟨b0,b1,b2,bz⟩:=blk3d K2.out.2.2.2.1;obtain ⟨p0,p1,p2,p3,pz⟩:=blk4d K2.out.2.1;obtain ⟨W3,hW3⟩:∃ W3,W3=W2.setCell ⟨w2.heap.size,c,none⟩ (.int .i64 n):=⟨_,rfl⟩;have hle:W0.heap.size≤w2.heap.size:=by
  have h2:=K2.out.2.2.2.2;rw [K0.out.1];simp;omega
 have K3:Hid (W3=W2.setCell ⟨w2.heap.size,c,none⟩ (.int .i64 n)∧W3.heap[w2.heap.size]?=some (bPl y)∧Below w.heap.size w W3∧W3.ownsRow W0.heap.size 70 4 (.slice vo (ps.filter (othN nm)).length vc) (ps.filter (othN nm)).length (flatP (ps.filter (othN nm)))):=by
  have h5:=Zk HO1.out K2.out.2.2.1;refine ⟨hW3,by rw [hW3];exact HCH.out.2 _ K2.out.2.1,by rw [hW3];exact (Za HB1.out K2.out.2.2.1).setCell (Nat.le_of_lt K2.out.2.2.2.2) _,?_⟩;rw [hW3];exact Zj h5 (fun j hj=>Below.heap_setCell _ _ _ _ (fun e=>by
   have h6:=(HO1.out.lt j hj).2;have h8:j=w2.heap.size:=e;have h9:=HW12.out;omega))
 have HIN:=hideIt (ZbP y vo vc _ (ps.filter (othN nm)) W3 (Zd K3.out.2.2.2) rfl HLN.out);clear hW3;obtain h:=HKC.out;clear HKC HK HQS;rcases h with ⟨rfl,rfl⟩ | ⟨rfl,rfl⟩ | ⟨rfl,rfl⟩ | ⟨rfl,rfl⟩
 all_goals
  go_upto_region 11 with fail
  rw [←K3.out.1];clear b0 b1 b2 bz p0 p1 p2 p3 pz;obtain ⟨p0,p1,p2,p3,pz⟩:=blk4d K3.out.2.1;go_wp2_with fail
  refine HIN.out.mono ?_;rintro e w4 ⟨v,rfl,ho4,hb4⟩;obtain ⟨vo4,vc4,rfl,_⟩:=Zd ho4;have KF:Hid (w4.ownsRow w.heap.size 70 4 (.slice vo4 qs.length vc4) qs.length (flatP qs)∧Below w.heap.size w w4):=by
   rw [HCH.out.1];exact ⟨Zi ho4 K3.out.2.2.1.size,Za K3.out.2.2.1 hb4⟩
  clear ho4 hb4 p0 p1 p2 p3 pz;go_wp2_with fail
  go_ret
  exact ⟨vo4,vc4,by rw [HCH.out.1];rfl,KF.out⟩
end Lw
end Go.Proofs.YtcpikklofilkcaaGreat
