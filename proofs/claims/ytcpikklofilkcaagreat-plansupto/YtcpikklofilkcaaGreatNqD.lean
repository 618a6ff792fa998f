import Derived.Test.YtcpikklofilkcaaGreatNqC
set_option maxRecDepth 100000
set_option maxHeartbeats 16000000
namespace Go.Proofs.YtcpikklofilkcaaGreat
open Go.RowKit
namespace Co
theorem Zi {w:World} {B B':Nat} {e:TypeId} {size:Nat} {v:Value} {n:Nat} {xs:List Value} (h:w.ownsRow B' e size v n xs) (hB:B≤B'):w.ownsRow B e size v n xs:=by
 obtain ⟨hl,h⟩:=h;refine ⟨hl,?_⟩;rcases h with h | ⟨g,cap,cur,h1,h2,h3⟩
 ·exact .inl h
 ·exact .inr ⟨g,cap,cur,h1,Nat.le_trans hB h2,h3⟩
abbrev bPl (p:Pl):Obj:=.cells #[.string p.nm,.int .i64 p.sz,.int .i64 p.wt,.int .i64 p.fr] 70
theorem ZbP (p:Pl) (ao:Option Addr) (cap n:Nat) (ps:List Pl) (w:World) (hr:RowAt w (.slice ao n cap) n (flatP ps)) (hn:ps.length=n) (hn1:n≤1001) :
  Calls Tryz.prog 95 #[.slice ao n cap,plA p] w fun e w'=>∃ v,e=.returned v∧w'.ownsRow w.heap.size 70 4 v (insP p ps).length (flatP (insP p ps))∧Below w.heap.size w w':=by
 obtain ⟨t0,hi,hz0,hz1,hz2⟩:=info_parts ZcK;obtain ⟨nm,sz,wt,fr⟩:=p;have HR:Hid (RowAt w (.slice ao n cap) n (flatP ps)∧ps.length=n):=⟨hr,hn⟩;clear hr hn;have HST:Hid (((w.alloc (bPl ⟨nm,sz,wt,fr⟩)).alloc (.cells #[] 70)).ownsRow (w.heap.size+1) 70 4 (.slice (some ⟨w.heap.size+1,0,none⟩) 0 0) 0 []):=by
  have h:=World.ownsRow_made (base:=w.heap.size+1) (e:=70) (size:=4) (w.alloc (bPl ⟨nm,sz,wt,fr⟩)) #[] 0 (by rw [World.size_alloc];omega) (Nat.zero_le _) rfl;rw [World.size_alloc] at h;exact h
 have HBX:Hid (Below (w.heap.size+1) (w.alloc (bPl ⟨nm,sz,wt,fr⟩)) ((w.alloc (bPl ⟨nm,sz,wt,fr⟩)).alloc (.cells #[] 70))):=(Below.refl _ _).alloc (by simp) _;go_enter Tryz.func95,Tryz.ntmps95
 go_wp2_with fail
 go_loopw [5,6,7] (fun v b i wr=>∃ (k m:Nat) (acc:List Pl) (pl:Bool),k≤n∧i=.int .i64 k∧b=.bool pl∧m≤k+(if pl then 1 else 0) ∧
   Hid (insP ⟨nm,sz,wt,fr⟩ ps=acc++(if pl=true then ps.drop k else insP ⟨nm,sz,wt,fr⟩ (ps.drop k))∧acc.length=m) ∧
   wr.ownsRow (w.heap.size+1) 70 4 v m (flatP acc)∧Below (w.heap.size+1) (w.alloc (bPl ⟨nm,sz,wt,fr⟩)) wr) (fun _ _ i _=>n - (intOf i).toNat)
 case atStart=>exact ⟨0,0,[],false,Nat.zero_le _,rfl,rfl,by omega,⟨by simp,rfl⟩,HST.out,HBX.out⟩
 case round =>
  obtain ⟨k,m,acc,pl,hk,rfl,rfl,hm,HS,hown,hbel⟩:=hrel;have hm2:m≤k+1:=by split at hm <;> omega
  have HMK:=hideIt hm;clear hm;have hBw:w.heap.size+1≤wr.heap.size:=by have:=hbel.size;rw [World.size_alloc] at this;exact this
  have hbox:wr.heap[w.heap.size]?=some (bPl ⟨nm,sz,wt,fr⟩):=(hbel.block _ (by omega)).trans (Zm _ _ rfl);have b0:wr.cell? ⟨w.heap.size,0,none⟩=some (.string nm):=by simp [World.cell?,hbox]
  have b1:wr.cell? ⟨w.heap.size,1,none⟩=some (.int .i64 sz):=by simp [World.cell?,hbox]
  have b2:wr.cell? ⟨w.heap.size,2,none⟩=some (.int .i64 wt):=by simp [World.cell?,hbox]
  have b3:wr.cell? ⟨w.heap.size,3,none⟩=some (.int .i64 fr):=by simp [World.cell?,hbox]
  have HBW:Hid (Below w.heap.size w wr):=(Zb _ _).trans (hbel.mono (by omega));clear hbox;obtain ⟨vo,vc,hv,_⟩:=Zd hown;subst hv;by_cases hlt:k<n
  ·obtain ⟨⟨nm',sz',wt',fr'⟩,hp⟩:∃ q,ps[k]?=some q:=⟨_,List.getElem?_eq_getElem (by rw [HR.out.2];exact hlt)⟩;obtain ⟨bl,off,hao,hbl,c0,c1,c2,c3⟩:=Zn (HR.out.1.nx HBW.out) hp;simp only at c0 c1 c2 c3;have HD:Hid (ps.drop k=⟨nm',sz',wt',fr'⟩ :: ps.drop (k+1)):=Zy hp;have HPk:=hideIt hp;have HPk:=hideIt hp;have hlti:(k:Int)<(n:Int):=by omega
   subst hao;clear hp;cases pl
   ·cases hl:lt nm nm'
    ·have hlb:Op.bytesLess nm.toList nm'.toList=false:=hl;have HX:Hid (insP ⟨nm,sz,wt,fr⟩ ps=(acc++[⟨nm',sz',wt',fr'⟩])++(if false=true then ps.drop (k+1) else insP ⟨nm,sz,wt,fr⟩ (ps.drop (k+1)))):=by
      show _=_;rw [HS.out.1];simp only [Bool.false_eq_true,if_false];rw [HD.out,ZgH hl];simp
     clear hl;go_wp2_with fail
     go_quiet (fail)
     obtain ⟨wd,hwd⟩:∃ wd,wr.drewN nq=wd:=⟨_,rfl⟩;rw [hwd];have hownd:wd.ownsRow (w.heap.size+1) 70 4 (.slice vo m vc) m (flatP acc):=by rw [←hwd];exact ZcE hown nq
     have hbeld:Below (w.heap.size+1) (w.alloc (bPl ⟨nm,sz,wt,fr⟩)) wd:=by rw [←hwd];exact below_drewN hbel nq
     have hBd:w.heap.size+1≤wd.heap.size:=by rw [←hwd];exact hBw
     have d0:wd.cell? ⟨bl,off+k*4,none⟩=some (.string nm'):=by rw [←hwd];exact c0
     have d1:wd.cell? ⟨bl,off+k*4+1,none⟩=some (.int .i64 sz'):=by rw [←hwd];exact c1
     have d2:wd.cell? ⟨bl,off+k*4+2,none⟩=some (.int .i64 wt'):=by rw [←hwd];exact c2
     have d3:wd.cell? ⟨bl,off+k*4+3,none⟩=some (.int .i64 fr'):=by rw [←hwd];exact c3
     have e0:wd.cell? ⟨w.heap.size,0,none⟩=some (.string nm):=by rw [←hwd];exact b0
     have e1:wd.cell? ⟨w.heap.size,1,none⟩=some (.int .i64 sz):=by rw [←hwd];exact b1
     have e2:wd.cell? ⟨w.heap.size,2,none⟩=some (.int .i64 wt):=by rw [←hwd];exact b2
     have e3:wd.cell? ⟨w.heap.size,3,none⟩=some (.int .i64 fr):=by rw [←hwd];exact b3
     have hbld:bl<wd.heap.size:=by rw [←hwd];exact hbl
     clear hwd hown hbel hBw c0 c1 c2 c3 b0 b1 b2 b3 hbl;go_wp2_with (at_builtin;refine wpList_append_own _ rfl (.tmp 31) (.tmp 36) 29 rfl (w.heap.size+1) 70 t0 _ 4 40 Tryz.underlying29 hi hz0 hz1 hz2 rfl (by decide) _ _ _ rfl (hownd.alloc _) ⟨wd.heap.size,0,none⟩ 1 1 [.string nm',.int .i64 sz',.int .i64 wt',.int .i64 fr'] rfl rfl (Zw _ [.string nm',.int .i64 sz',.int .i64 wt',.int .i64 fr'] _) ?a2 ?a3 ?a4 ?a5 ?an)
     case a2=>intro u hu;simp at hu;rcases hu with rfl | rfl | rfl | rfl <;> rfl
     case a3=>unfold maxLen;omega
     case a4=>omega
     case a5=>simp;omega
     case an =>
      intro v' w6 hown' hgrow _;have R:w6.ownsRow (w.heap.size+1) 70 4 v' (m+1) (flatP (acc++[⟨nm',sz',wt',fr'⟩]))∧Below (w.heap.size+1) (w.alloc (bPl ⟨nm,sz,wt,fr⟩)) w6:=by
       refine ⟨by rw [ZI];exact hown',(hbeld.alloc hBd _).grown hgrow (by simp;omega) (fun g hg=>(hownd.lt g hg).1)⟩
      clear hown' hgrow hownd hbeld;go_wp2_with fail
      go_roundw
      case rel=>exact ⟨k+1,m+1,acc++[⟨nm',sz',wt',fr'⟩],false,by omega,by go_num,rfl,by have:=HMK.out;simp at this ⊢;omega,⟨HX.out,by simp [HS.out.2]⟩,R.1,R.2⟩
      case measure=>simp [intOf];omega
    ·have hlb:Op.bytesLess nm.toList nm'.toList=true:=hl;have HX:Hid (insP ⟨nm,sz,wt,fr⟩ ps=((acc++[⟨nm,sz,wt,fr⟩])++[⟨nm',sz',wt',fr'⟩])++(if true=true then ps.drop (k+1) else insP ⟨nm,sz,wt,fr⟩ (ps.drop (k+1)))):=by
      show _=_;rw [HS.out.1];simp only [Bool.false_eq_true,if_false];rw [HD.out,Zfr hl];simp
     clear hl;go_wp2_with fail
     go_quiet (fail)
     obtain ⟨wd,hwd⟩:∃ wd,wr.drewN nq=wd:=⟨_,rfl⟩;rw [hwd];have hownd:wd.ownsRow (w.heap.size+1) 70 4 (.slice vo m vc) m (flatP acc):=by rw [←hwd];exact ZcE hown nq
     have hbeld:Below (w.heap.size+1) (w.alloc (bPl ⟨nm,sz,wt,fr⟩)) wd:=by rw [←hwd];exact below_drewN hbel nq
     have hBd:w.heap.size+1≤wd.heap.size:=by rw [←hwd];exact hBw
     have d0:wd.cell? ⟨bl,off+k*4,none⟩=some (.string nm'):=by rw [←hwd];exact c0
     have d1:wd.cell? ⟨bl,off+k*4+1,none⟩=some (.int .i64 sz'):=by rw [←hwd];exact c1
     have d2:wd.cell? ⟨bl,off+k*4+2,none⟩=some (.int .i64 wt'):=by rw [←hwd];exact c2
     have d3:wd.cell? ⟨bl,off+k*4+3,none⟩=some (.int .i64 fr'):=by rw [←hwd];exact c3
     have e0:wd.cell? ⟨w.heap.size,0,none⟩=some (.string nm):=by rw [←hwd];exact b0
     have e1:wd.cell? ⟨w.heap.size,1,none⟩=some (.int .i64 sz):=by rw [←hwd];exact b1
     have e2:wd.cell? ⟨w.heap.size,2,none⟩=some (.int .i64 wt):=by rw [←hwd];exact b2
     have e3:wd.cell? ⟨w.heap.size,3,none⟩=some (.int .i64 fr):=by rw [←hwd];exact b3
     have hbld:bl<wd.heap.size:=by rw [←hwd];exact hbl
     clear hwd hown hbel hBw c0 c1 c2 c3 b0 b1 b2 b3 hbl;go_wp2_with (at_builtin;refine wpList_append_own _ rfl (.tmp 27) (.tmp 29) 29 rfl (w.heap.size+1) 70 t0 _ 4 40 Tryz.underlying29 hi hz0 hz1 hz2 rfl (by decide) _ _ _ rfl (hownd.alloc _) ⟨wd.heap.size,0,none⟩ 1 1 [.string nm,.int .i64 sz,.int .i64 wt,.int .i64 fr] rfl rfl (Zw _ [.string nm,.int .i64 sz,.int .i64 wt,.int .i64 fr] _) ?b2 ?b3 ?b4 ?b5 ?bn)
     case b2=>intro u hu;simp at hu;rcases hu with rfl | rfl | rfl | rfl <;> rfl
     case b3=>unfold maxLen;omega
     case b4=>omega
     case b5=>simp;omega
     case bn =>
      intro v1 w5 hown1 hgrow1 _;have hown5:w5.ownsRow (w.heap.size+1) 70 4 v1 (m+1) (flatP (acc++[⟨nm,sz,wt,fr⟩])):=by rw [ZI];exact hown1
      have hbel5:Below (w.heap.size+1) (w.alloc (bPl ⟨nm,sz,wt,fr⟩)) w5:=(hbeld.alloc hBd _).grown hgrow1 (by simp;omega) (fun g hg=>(hownd.lt g hg).1);have hB5:w.heap.size+1≤w5.heap.size:=by have:=hbel5.size;rw [World.size_alloc] at this;exact this
      obtain ⟨bl',off',eq5,hbl5,f0,f1,f2,f3⟩:=Zn (HR.out.1.nx ((Zb _ _).trans (hbel5.mono (by omega)))) HPk.out;obtain ⟨rfl,rfl⟩:bl=bl'∧off=off':=by simpa using eq5
      simp only at f0 f1 f2 f3;obtain ⟨vo1,vc1,hv1,_⟩:=Zd hown5;subst hv1;clear hown1 hgrow1 hownd hbeld d0 d1 d2 d3 e0 e1 e2 e3 eq5;go_wp2_with (at_builtin;refine wpList_append_own _ rfl (.tmp 31) (.tmp 36) 29 rfl (w.heap.size+1) 70 t0 _ 4 40 Tryz.underlying29 hi hz0 hz1 hz2 rfl (by decide) _ _ _ rfl (hown5.alloc _) ⟨w5.heap.size,0,none⟩ 1 1 [.string nm',.int .i64 sz',.int .i64 wt',.int .i64 fr'] rfl rfl (Zw _ [.string nm',.int .i64 sz',.int .i64 wt',.int .i64 fr'] _) ?d2 ?d3 ?d4 ?d5 ?dn)
      case d2=>intro u hu;simp at hu;rcases hu with rfl | rfl | rfl | rfl <;> rfl
      case d3=>unfold maxLen;omega
      case d4=>omega
      case d5=>simp;omega
      case dn =>
       intro v' w6 hown' hgrow _;have R:w6.ownsRow (w.heap.size+1) 70 4 v' ((m+1)+1) (flatP ((acc++[⟨nm,sz,wt,fr⟩])++[⟨nm',sz',wt',fr'⟩]))∧Below (w.heap.size+1) (w.alloc (bPl ⟨nm,sz,wt,fr⟩)) w6:=by
        refine ⟨by rw [ZI];exact hown',(hbel5.alloc hB5 _).grown hgrow (by simp;omega) (fun g hg=>(hown5.lt g hg).1)⟩
       clear hown' hgrow hown5 hbel5;go_wp2_with fail
       go_roundw
       case rel=>exact ⟨k+1,(m+1)+1,(acc++[⟨nm,sz,wt,fr⟩])++[⟨nm',sz',wt',fr'⟩],true,by omega,by go_num,rfl,by have:=HMK.out;simp at this ⊢;omega,⟨HX.out,by simp [HS.out.2]⟩,R.1,R.2⟩
       case measure=>simp [intOf];omega
   ·have HX:Hid (insP ⟨nm,sz,wt,fr⟩ ps=(acc++[⟨nm',sz',wt',fr'⟩])++(if true=true then ps.drop (k+1) else insP ⟨nm,sz,wt,fr⟩ (ps.drop (k+1)))):=by
     show _=_;rw [HS.out.1];simp only [if_true];rw [HD.out];simp
    go_wp2_with fail
    go_quiet (fail)
    obtain ⟨wd,hwd⟩:∃ wd,wr.drewN nq=wd:=⟨_,rfl⟩;rw [hwd];have hownd:wd.ownsRow (w.heap.size+1) 70 4 (.slice vo m vc) m (flatP acc):=by rw [←hwd];exact ZcE hown nq
    have hbeld:Below (w.heap.size+1) (w.alloc (bPl ⟨nm,sz,wt,fr⟩)) wd:=by rw [←hwd];exact below_drewN hbel nq
    have hBd:w.heap.size+1≤wd.heap.size:=by rw [←hwd];exact hBw
    have d0:wd.cell? ⟨bl,off+k*4,none⟩=some (.string nm'):=by rw [←hwd];exact c0
    have d1:wd.cell? ⟨bl,off+k*4+1,none⟩=some (.int .i64 sz'):=by rw [←hwd];exact c1
    have d2:wd.cell? ⟨bl,off+k*4+2,none⟩=some (.int .i64 wt'):=by rw [←hwd];exact c2
    have d3:wd.cell? ⟨bl,off+k*4+3,none⟩=some (.int .i64 fr'):=by rw [←hwd];exact c3
    have e0:wd.cell? ⟨w.heap.size,0,none⟩=some (.string nm):=by rw [←hwd];exact b0
    have e1:wd.cell? ⟨w.heap.size,1,none⟩=some (.int .i64 sz):=by rw [←hwd];exact b1
    have e2:wd.cell? ⟨w.heap.size,2,none⟩=some (.int .i64 wt):=by rw [←hwd];exact b2
    have e3:wd.cell? ⟨w.heap.size,3,none⟩=some (.int .i64 fr):=by rw [←hwd];exact b3
    have hbld:bl<wd.heap.size:=by rw [←hwd];exact hbl
    clear hwd hown hbel hBw c0 c1 c2 c3 b0 b1 b2 b3 hbl;go_wp2_with (at_builtin;refine wpList_append_own _ rfl (.tmp 31) (.tmp 36) 29 rfl (w.heap.size+1) 70 t0 _ 4 40 Tryz.underlying29 hi hz0 hz1 hz2 rfl (by decide) _ _ _ rfl (hownd.alloc _) ⟨wd.heap.size,0,none⟩ 1 1 [.string nm',.int .i64 sz',.int .i64 wt',.int .i64 fr'] rfl rfl (Zw _ [.string nm',.int .i64 sz',.int .i64 wt',.int .i64 fr'] _) ?c2 ?c3 ?c4 ?c5 ?cn)
    case c2=>intro u hu;simp at hu;rcases hu with rfl | rfl | rfl | rfl <;> rfl
    case c3=>unfold maxLen;omega
    case c4=>omega
    case c5=>simp;omega
    case cn =>
     intro v' w6 hown' hgrow _;have R:w6.ownsRow (w.heap.size+1) 70 4 v' (m+1) (flatP (acc++[⟨nm',sz',wt',fr'⟩]))∧Below (w.heap.size+1) (w.alloc (bPl ⟨nm,sz,wt,fr⟩)) w6:=by
      refine ⟨by rw [ZI];exact hown',(hbeld.alloc hBd _).grown hgrow (by simp;omega) (fun g hg=>(hownd.lt g hg).1)⟩
     clear hown' hgrow hownd hbeld;go_wp2_with fail
     go_roundw
     case rel=>exact ⟨k+1,m+1,acc++[⟨nm',sz',wt',fr'⟩],true,by omega,by go_num,rfl,by have:=HMK.out;simp at this ⊢;omega,⟨HX.out,by simp [HS.out.2]⟩,R.1,R.2⟩
     case measure=>simp [intOf];omega
  ·have e9:ps.drop k=[]:=List.drop_of_length_le (by rw [HR.out.2];omega);cases pl
   ·have HX:Hid (insP ⟨nm,sz,wt,fr⟩ ps=acc++[⟨nm,sz,wt,fr⟩]∧(insP ⟨nm,sz,wt,fr⟩ ps).length=m+1):=by
     have e:insP ⟨nm,sz,wt,fr⟩ ps=acc++[⟨nm,sz,wt,fr⟩]:=by
      rw [HS.out.1,e9];rfl
     exact ⟨e,by rw [e];simp [HS.out.2]⟩
    clear e9;go_wp2_with (at_builtin;refine wpList_append_own _ rfl (.tmp 40) (.tmp 42) 29 rfl (w.heap.size+1) 70 t0 _ 4 40 Tryz.underlying29 hi hz0 hz1 hz2 rfl (by decide) _ _ _ rfl (hown.alloc _) ⟨wr.heap.size,0,none⟩ 1 1 [.string nm,.int .i64 sz,.int .i64 wt,.int .i64 fr] rfl rfl (Zw _ [.string nm,.int .i64 sz,.int .i64 wt,.int .i64 fr] _) ?e2 ?e3 ?e4 ?e5 ?en)
    case e2=>intro u hu;simp at hu;rcases hu with rfl | rfl | rfl | rfl <;> rfl
    case e3=>unfold maxLen;omega
    case e4=>omega
    case e5=>simp;omega
    case en =>
     intro v1 w5 hown1 hgrow1 _;have R:w5.ownsRow w.heap.size 70 4 v1 (m+1) (flatP (acc++[⟨nm,sz,wt,fr⟩]))∧Below w.heap.size w w5:=by
      refine ⟨Zi (by rw [ZI];exact hown1) (by omega),?_⟩;exact (Zb _ _).trans (((hbel.alloc hBw _).grown hgrow1 (by simp;omega) (fun g hg=>(hown.lt g hg).1)).mono (by omega))
     clear hown1 hgrow1 hown hbel;go_wp2_with fail
     go_ret
     exact ⟨_,rfl,(by rw [HX.out.2,HX.out.1];exact R.1),R.2⟩
   ·have HX:Hid (insP ⟨nm,sz,wt,fr⟩ ps=acc∧(insP ⟨nm,sz,wt,fr⟩ ps).length=m):=by
     have e:insP ⟨nm,sz,wt,fr⟩ ps=acc:=by
      rw [HS.out.1,e9];simp
     exact ⟨e,by rw [e];exact HS.out.2⟩
    have R:=hideIt (Zi hown (Nat.le_succ _));clear e9 hown hbel;go_wp2_with fail
    go_ret
    exact ⟨_,rfl,(by rw [HX.out.2,HX.out.1];exact R.out),HBW.out⟩
def poolC (ls:List (Ln×Value)) (l:Ln):Pl:=
 ⟨l.name,valOf 0 1 l.sets (chn ls 7 l.frm),valOf 1 0 l.sets (chn ls 7 l.frm),valOf 2 0 l.sets (chn ls 7 l.frm)⟩
theorem Zh9 (x0 x1:Int) (s2 s3:ByteArray) (so:Option Addr) (sc m:Nat) (ss:List (Nat×Nat)) (co:Option Addr) (cc q:Nat) (ch:List (Ln×Value)) (w:World)
  (hr:RowAt w (.slice so m sc) m (flatS ss)) (hm:ss.length=m) (hm1:m≤1001) (hl:LinesAt w (.slice co q cc) ch) (hq:ch.length=q) (hq1:q≤1001) (hsl:∀ p∈ch,p.1.sets.length≤1001) :
  Calls Tryz.prog 93 #[.string ⟨#[115,105,122,101]⟩,lnA' x0 x1 s2 s3 so m sc,.slice co q cc,.int .i64 1] w fun e w'=>e=.returned (.int .i64 (valOf 0 1 ss ch))∧Below w.heap.size w w':=
 ZaJ 0 1 x0 x1 s2 s3 so sc m ss co cc q ch w hr hm hm1 hl hq hq1 hsl
theorem Zig (x0 x1:Int) (s2 s3:ByteArray) (so:Option Addr) (sc m:Nat) (ss:List (Nat×Nat)) (co:Option Addr) (cc q:Nat) (ch:List (Ln×Value)) (w:World)
  (hr:RowAt w (.slice so m sc) m (flatS ss)) (hm:ss.length=m) (hm1:m≤1001) (hl:LinesAt w (.slice co q cc) ch) (hq:ch.length=q) (hq1:q≤1001) (hsl:∀ p∈ch,p.1.sets.length≤1001) :
  Calls Tryz.prog 93 #[.string ⟨#[119,97,105,116]⟩,lnA' x0 x1 s2 s3 so m sc,.slice co q cc,.int .i64 0] w fun e w'=>e=.returned (.int .i64 (valOf 1 0 ss ch))∧Below w.heap.size w w':=
 ZaJ 1 0 x0 x1 s2 s3 so sc m ss co cc q ch w hr hm hm1 hl hq hq1 hsl
theorem ZhK (x0 x1:Int) (s2 s3:ByteArray) (so:Option Addr) (sc m:Nat) (ss:List (Nat×Nat)) (co:Option Addr) (cc q:Nat) (ch:List (Ln×Value)) (w:World)
  (hr:RowAt w (.slice so m sc) m (flatS ss)) (hm:ss.length=m) (hm1:m≤1001) (hl:LinesAt w (.slice co q cc) ch) (hq:ch.length=q) (hq1:q≤1001) (hsl:∀ p∈ch,p.1.sets.length≤1001) :
  Calls Tryz.prog 93 #[.string ⟨#[102,97,114]⟩,lnA' x0 x1 s2 s3 so m sc,.slice co q cc,.int .i64 0] w fun e w'=>e=.returned (.int .i64 (valOf 2 0 ss ch))∧Below w.heap.size w w':=
 ZaJ 2 0 x0 x1 s2 s3 so sc m ss co cc q ch w hr hm hm1 hl hq hq1 hsl
theorem ZhJ (x0 x1:Int) (s2 s3:ByteArray) (so:Option Addr) (sc m:Nat) (ss:List (Nat×Nat)) (w:World)
  (hr:RowAt w (.slice so m sc) m (flatS ss)) (hm:ss.length=m) (hm1:m≤1001) :
  Calls Tryz.prog 93 #[.string ⟨#[98,117,100,103,101,116]⟩,lnA' x0 x1 s2 s3 so m sc,.slice none 0 0,.int .i64 0] w fun e w'=>e=.returned (.int .i64 (valOf 3 0 ss []))∧Below w.heap.size w w':=
 ZaJ 3 0 x0 x1 s2 s3 so sc m ss none 0 0 [] w hr hm hm1 ⟨Zak _ _ _,by simp⟩ rfl (by omega) (by simp)
theorem blk4 {W w3:World} {B:Nat} (hb:Below B W w3) {g:Nat} (hg:g<B) {c0 c1 c2 c3:Value} {t:TypeId} (h:W.heap[g]?=some (.cells #[c0,c1,c2,c3] t (0,0))) :
  w3.cell? ⟨g,0,none⟩=some c0∧w3.cell? ⟨g,1,none⟩=some c1∧w3.cell? ⟨g,2,none⟩=some c2∧w3.cell? ⟨g,3,none⟩=some c3∧∀ a,w3.frozen? ⟨g,a,none⟩=false:=by
 have h':w3.heap[g]?=some (.cells #[c0,c1,c2,c3] t (0,0)):=(hb.block g hg).trans h;refine ⟨?_,?_,?_,?_,fun a=>?_⟩ <;> simp [World.cell?,World.frozen?,h']
theorem blk5 {W w3:World} {B:Nat} (hb:Below B W w3) {g:Nat} (hg:g<B) {c0 c1 c2 c3 c4:Value} {t:TypeId} (h:W.heap[g]?=some (.cells #[c0,c1,c2,c3,c4] t (0,0))) :
  w3.cell? ⟨g,0,none⟩=some c0∧w3.cell? ⟨g,1,none⟩=some c1∧w3.cell? ⟨g,2,none⟩=some c2∧w3.cell? ⟨g,3,none⟩=some c3∧w3.cell? ⟨g,4,none⟩=some c4:=by
 have h':w3.heap[g]?=some (.cells #[c0,c1,c2,c3,c4] t (0,0)):=(hb.block g hg).trans h;refine ⟨?_,?_,?_,?_,?_⟩ <;> simp [World.cell?,h']
theorem Zg (w:World) (g a:Nat) (v:Value) (cur:Array Value) (t:TypeId) (h:w.heap[g]?=some (.cells cur t (0,0))):(w.setCell ⟨g,a,none⟩ v).heap[g]?=some (.cells (cur.setIfInBounds a v) t (0,0)):=by
 rw [setCell_eq_setRow w g a cur t (0,0) v h];exact setRow_heap w g _ _ t _ h
theorem Zg0 (l:Ln) (x0 x1:Int) (so:Option Addr) (sc m:Nat) (ao:Option Addr) (cap n:Nat) (ls:List (Ln×Value)) (w:World) (hl:LinesAt w (.slice ao n cap) ls) (hn:ls.length=n) (hn1:n≤1001)
  (hr:RowAt w (.slice so m sc) m (flatS l.sets)) (hm:l.sets.length=m) (hm1:m≤1001) (hsl:∀ p∈ls,p.1.sets.length≤1001) :
  Calls Tryz.prog 94 #[lnA' x0 x1 l.name l.frm so m sc,.slice ao n cap] w fun e w'=>e=.returned (plA (poolC ls l))∧Below w.heap.size w w':=by
 obtain ⟨kind,name,frm,ss,pl⟩:=l;simp only at hr hm ⊢;obtain ⟨W1,hW1⟩:∃ W1,W1=(w.alloc (bLn x0 x1 name frm so m sc)).alloc (bPl ⟨⟨#[]⟩,0,0,0⟩):=⟨_,rfl⟩;have hb1:Below w.heap.size w W1:=by rw [hW1];exact Za (Zb _ _) (Zb _ _)
 have HW:Hid (W1=(w.alloc (bLn x0 x1 name frm so m sc)).alloc (bPl ⟨⟨#[]⟩,0,0,0⟩)∧Below w.heap.size w W1∧W1.heap.size=w.heap.size+2∧W1.heap[w.heap.size]?=some (bLn x0 x1 name frm so m sc)∧W1.heap[w.heap.size+1]?=some (bPl ⟨⟨#[]⟩,0,0,0⟩)):=by
  refine ⟨hW1,hb1,by rw [hW1];simp,?_,?_⟩
  ·rw [hW1];exact (Zh _ _ (by simp)).trans (Zm _ _ rfl)
  ·rw [hW1];exact Zm _ _ (by simp)
 have HCH:=hideIt (Zc2 x0 x1 name frm so m sc ao cap n ls W1 (hl.nx hb1) hn hn1);have HSL:Hid (∀ p∈ls,p.1.sets.length≤1001):=hsl;have HR:Hid (RowAt W1 (.slice so m sc) m (flatS ss)∧ss.length=m):=⟨hr.nx hb1,hm⟩;obtain ⟨ch,hch⟩:∃ ch,chn ls 7 frm=ch:=⟨_,rfl⟩;have HPC:Hid (poolC ls ⟨kind,name,frm,ss,pl⟩=⟨name,valOf 0 1 ss ch,valOf 1 0 ss ch,valOf 2 0 ss ch⟩∧(∀ p∈ch,p.1.sets.length≤1001)∧ch.length≤7):=
  ⟨by rw [poolC,hch],fun p hp=>hsl p (Zgu ls 7 frm p (by rw [hch];exact hp)),by rw [←hch];exact Zed _ _ _⟩
 rw [hch] at HCH;clear hl hn hr hm hW1 hb1 hsl hch;obtain ⟨q,hq⟩:∃ q,ch.length=q:=⟨_,rfl⟩;rw [hq] at HCH;have HQ:=hideIt hq;have hq7:q≤7:=by rw [←hq];exact HPC.out.2.2
 clear hq;go_enter Tryz.func94,Tryz.ntmps94
 go_wp2_with fail
 rw [←HW.out.1];refine HCH.out.mono ?_;rintro e w2 ⟨co,cc,rfl,hlin,hb2⟩;have hz2:w.heap.size+2≤w2.heap.size:=by have:=hb2.size;rw [HW.out.2.2.1] at this;exact this
 obtain ⟨c0,c1,c2,c3,c4⟩:=blk5 hb2 (by rw [HW.out.2.2.1];omega) HW.out.2.2.2.1;have g0:=fun o=>(blk5 (Za hb2 (Zb w2 o)) (by rw [HW.out.2.2.1];omega) HW.out.2.2.2.1).1
 have g1:=fun o=>(blk5 (Za hb2 (Zb w2 o)) (by rw [HW.out.2.2.1];omega) HW.out.2.2.2.1).2.1
 have g2:=fun o=>(blk5 (Za hb2 (Zb w2 o)) (by rw [HW.out.2.2.1];omega) HW.out.2.2.2.1).2.2.1
 have g3:=fun o=>(blk5 (Za hb2 (Zb w2 o)) (by rw [HW.out.2.2.1];omega) HW.out.2.2.2.1).2.2.2.1
 have g4:=fun o=>(blk5 (Za hb2 (Zb w2 o)) (by rw [HW.out.2.2.1];omega) HW.out.2.2.2.1).2.2.2.2
 obtain ⟨W3,hW3⟩:∃ W3,W3=w2.alloc (bPl ⟨name,0,0,0⟩):=⟨_,rfl⟩;have H3:Hid (W3=w2.alloc (bPl ⟨name,0,0,0⟩)∧LinesAt w2 (.slice co q cc) ch∧RowAt w2 (.slice so m sc) m (flatS ss)∧Below w2.heap.size w2 W3∧W3.heap[w2.heap.size]?=some (bPl ⟨name,0,0,0⟩)∧w2.heap.size<W3.heap.size ∧
   w2.heap[w.heap.size]?=some (bLn x0 x1 name frm so m sc)∧w2.heap[w.heap.size+1]?=some (bPl ⟨⟨#[]⟩,0,0,0⟩)∧Below w.heap.size w w2):=
  ⟨hW3,hlin,HR.out.1.nx hb2,by rw [hW3];exact Zb _ _,by rw [hW3];exact Zm _ _ rfl,by rw [hW3];simp,(hb2.block _ (by rw [HW.out.2.2.1];omega)).trans HW.out.2.2.2.1,(hb2.block _ (by rw [HW.out.2.2.1];omega)).trans HW.out.2.2.2.2,Za HW.out.2.1 hb2⟩
 clear hW3 hlin hb2;have HV0:=hideIt (Zh9 x0 x1 name frm so sc m ss co cc q ch W3 (H3.out.2.2.1.nx H3.out.2.2.2.1) HR.out.2 hm1 (H3.out.2.1.nx H3.out.2.2.2.1) HQ.out (by omega) HPC.out.2.1);obtain ⟨v0,hv0⟩:∃ v0,valOf 0 1 ss ch=v0:=⟨_,rfl⟩;obtain ⟨v1,hv1⟩:∃ v1,valOf 1 0 ss ch=v1:=⟨_,rfl⟩;obtain ⟨v2,hv2⟩:∃ v2,valOf 2 0 ss ch=v2:=⟨_,rfl⟩;rw [hv0] at HV0;have HVV:=hideIt (And.intro hv0 (And.intro hv1 hv2));clear hv0 hv1 hv2;go_wp2_with fail
 rw [←H3.out.1];refine HV0.out.mono ?_;rintro e w4 ⟨rfl,hb4⟩;have hB4:Below w2.heap.size w2 w4:=Za H3.out.2.2.2.1 hb4;obtain ⟨d0,d1,d2,d3,zd⟩:=blk4 hb4 H3.out.2.2.2.2.2.1 H3.out.2.2.2.2.1;obtain ⟨f0,f1,f2,f3,f4⟩:=blk5 hB4 (by omega) H3.out.2.2.2.2.2.2.1;have hh4:w4.heap[w2.heap.size]?=some (bPl ⟨name,0,0,0⟩):=(hb4.block _ H3.out.2.2.2.2.2.1).trans H3.out.2.2.2.2.1;obtain ⟨X4,hX4⟩:∃ X4,X4=w4.setCell ⟨w2.heap.size,1,none⟩ (.int .i64 v0):=⟨_,rfl⟩;have hBX4:Below w2.heap.size w2 X4:=by rw [hX4];exact hB4.setCell (Nat.le_refl _) _
 have hhX4:X4.heap[w2.heap.size]?=some (.cells #[.string name,.int .i64 v0,.int .i64 0,.int .i64 0] 70 (0,0)):=by rw [hX4];exact Zg _ _ _ _ _ _ hh4
 have H4:Hid (X4=w4.setCell ⟨w2.heap.size,1,none⟩ (.int .i64 v0)∧Below w2.heap.size w2 X4∧X4.heap[w2.heap.size]?=some (.cells #[.string name,.int .i64 v0,.int .i64 0,.int .i64 0] 70 (0,0))):=⟨hX4,hBX4,hhX4⟩;have HV1:=hideIt (Zig x0 x1 name frm so sc m ss co cc q ch X4 (H3.out.2.2.1.nx hBX4) HR.out.2 hm1 (H3.out.2.1.nx hBX4) HQ.out (by omega) HPC.out.2.1);rw [HVV.out.2.1] at HV1;clear hb4 hB4 hh4 hBX4 hhX4 hX4 HV0 c0 c1 c2 c3 c4 g0 g1 g2 g3 g4;go_wp2_with fail
 rw [←H4.out.1];refine HV1.out.mono ?_;rintro e w5 ⟨rfl,hb5⟩;have hz4:w2.heap.size<X4.heap.size:=(Array.getElem?_eq_some_iff.1 H4.out.2.2).1;have hB5:Below w2.heap.size w2 w5:=Za H4.out.2.1 hb5;obtain ⟨i0,i1,i2,i3,zi⟩:=blk4 hb5 hz4 H4.out.2.2;obtain ⟨j0,j1,j2,j3,j4⟩:=blk5 hB5 (by omega) H3.out.2.2.2.2.2.2.1;have hh5:w5.heap[w2.heap.size]?=some (.cells #[.string name,.int .i64 v0,.int .i64 0,.int .i64 0] 70 (0,0)):=(hb5.block _ hz4).trans H4.out.2.2;obtain ⟨X5,hX5⟩:∃ X5,X5=w5.setCell ⟨w2.heap.size,2,none⟩ (.int .i64 v1):=⟨_,rfl⟩;have hBX5:Below w2.heap.size w2 X5:=by rw [hX5];exact hB5.setCell (Nat.le_refl _) _
 have hhX5:X5.heap[w2.heap.size]?=some (.cells #[.string name,.int .i64 v0,.int .i64 v1,.int .i64 0] 70 (0,0)):=by rw [hX5];exact Zg _ _ _ _ _ _ hh5
 have H5:Hid (X5=w5.setCell ⟨w2.heap.size,2,none⟩ (.int .i64 v1)∧Below w2.heap.size w2 X5∧X5.heap[w2.heap.size]?=some (.cells #[.string name,.int .i64 v0,.int .i64 v1,.int .i64 0] 70 (0,0))):=⟨hX5,hBX5,hhX5⟩;have HV2:=hideIt (ZhK x0 x1 name frm so sc m ss co cc q ch X5 (H3.out.2.2.1.nx hBX5) HR.out.2 hm1 (H3.out.2.1.nx hBX5) HQ.out (by omega) HPC.out.2.1);rw [HVV.out.2.2] at HV2;clear hb5 hB5 hh5 hBX5 hhX5 hX5 HV1 d0 d1 d2 d3 zd f0 f1 f2 f3 f4 hz4;go_wp2_with fail
 rw [←H5.out.1];refine HV2.out.mono ?_;rintro e w6 ⟨rfl,hb6⟩;have hz5:w2.heap.size<X5.heap.size:=(Array.getElem?_eq_some_iff.1 H5.out.2.2).1;have hB6:Below w2.heap.size w2 w6:=Za H5.out.2.1 hb6;obtain ⟨k0,k1,k2,k3,zk⟩:=blk4 hb6 hz5 H5.out.2.2;obtain ⟨r0,r1,r2,r3,zr⟩:=blk4 hB6 (by omega) H3.out.2.2.2.2.2.2.2.1;have HZ:Hid (Below w.heap.size w w6):=Za H3.out.2.2.2.2.2.2.2.2 hB6;clear hb6 hB6 HV2 i0 i1 i2 i3 zi j0 j1 j2 j3 j4 hz5;go_wp2_with fail
 refine bodyPost_ret (v:=plA ⟨name,v0,v1,v2⟩) (by simp [results,Tryz.results94,go_sem,r0,r1,r2,r3]) rfl ⟨?_,?_⟩
 ·rw [HPC.out.1,HVV.out.1,HVV.out.2.1,HVV.out.2.2]
 ·exact ((((HZ.out.setCell (by show _≤w2.heap.size;omega) _).setCell (Nat.le_succ _) _).setCell (Nat.le_succ _) _).setCell (Nat.le_succ _) _).setCell (Nat.le_succ _) _
end Co
end Go.Proofs.YtcpikklofilkcaaGreat
