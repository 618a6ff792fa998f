import Derived.Test.YtmgkcbdlfodjmaaGreatDoorBqB
set_option maxRecDepth 100000
set_option maxHeartbeats 16000000
namespace Go.Proofs.YtmgkcbdlfodjmaaGreatDoor
open Go.RowKit
namespace Co
theorem Zr {w:World} {B h:Nat} {e:TypeId} {size:Nat} {v:Value} {n:Nat} {m:List Value} (d:w.ownsRow h e size v n m) (J:B≤h):w.ownsRow B e size v n m:=by
 obtain ⟨L,d⟩:=d;refine ⟨L,?_⟩;rcases d with d | ⟨g,q,A,D,E,I⟩
 ·exact .inl d
 ·exact .inr ⟨g,q,A,D,Ym J E,I⟩
abbrev ZF (p:Pl):Obj:=.cells #[.string p.nm,.int .i64 p.sz,.int .i64 p.wt,.int .i64 p.fr] 82
theorem Zgp (p:Pl) (ao:Option Addr) (az n:Nat) (ps:List Pl) (w:World) (bi:RowAt w (.slice ao n az) n (Ze ps)) (bh:ps.length=n) (b6:n≤1001) :
  Calls Tryz.prog 118 #[.slice ao n az,plA p] w fun e w'=>∃ v,e=.returned v∧w'.ownsRow w.heap.size 82 4 v (ZH p ps).length (Ze (ZH p ps))∧Below w.heap.size w w':=by
 obtain ⟨au,al,ap,aq,ar⟩:=info_parts ZhP;obtain ⟨nm,sz,wt,fr⟩:=p;have HR:Hid (RowAt w (.slice ao n az) n (Ze ps)∧ps.length=n):=⟨bi,bh⟩;clear bi bh;have bk:Hid (((w.alloc (ZF ⟨nm,sz,wt,fr⟩)).alloc (.cells #[] 82)).ownsRow (w.heap.size+1) 82 4 (.slice (some ⟨w.heap.size+1,0,none⟩) 0 0) 0 []):=by
  have h:=World.ownsRow_made (base:=w.heap.size+1) (e:=82) (size:=4) (w.alloc (ZF ⟨nm,sz,wt,fr⟩)) #[] 0 (by rw [World.size_alloc];omega) (Ye _) rfl;rw [World.size_alloc] at h;exact h
 have bj:Hid (Below (w.heap.size+1) (w.alloc (ZF ⟨nm,sz,wt,fr⟩)) ((w.alloc (ZF ⟨nm,sz,wt,fr⟩)).alloc (.cells #[] 82))):=(Yh _ _).alloc (by simp) _;go_enter Tryz.func118,Tryz.ntmps118
 go_wp2_with fail
 go_loopw [5,6,7] (fun v b i wr=>∃ (k m:Nat) (b9:List Pl) (ah:Bool),k≤n∧i=.int .i64 k∧b=.bool ah∧m≤k+(if ah then 1 else 0) ∧
   Hid (ZH ⟨nm,sz,wt,fr⟩ ps=b9++(if ah=true then ps.drop k else ZH ⟨nm,sz,wt,fr⟩ (ps.drop k))∧b9.length=m) ∧
   wr.ownsRow (w.heap.size+1) 82 4 v m (Ze b9)∧Below (w.heap.size+1) (w.alloc (ZF ⟨nm,sz,wt,fr⟩)) wr) (fun _ _ i _=>n - (intOf i).toNat)
 case atStart=>exact ⟨0,0,[],false,Ye _,rfl,rfl,by omega,⟨by simp,rfl⟩,bk.out,bj.out⟩
 case round =>
  obtain ⟨k,m,b9,ah,bz,rfl,rfl,a8,Q,M,L⟩:=hrel;have b1:m≤k+1:=by split at a8 <;> omega
  have ay:=Za a8;clear a8;have ab:w.heap.size+1≤wr.heap.size:=by have:=L.size;rw [World.size_alloc] at this;exact this
  have aj:wr.heap[w.heap.size]?=some (ZF ⟨nm,sz,wt,fr⟩):=(L.block _ (by omega)).trans (ZC _ _ rfl);have ad:wr.cell? ⟨w.heap.size,0,none⟩=some (.string nm):=by simp [World.cell?,aj]
  have ae:wr.cell? ⟨w.heap.size,1,none⟩=some (.int .i64 sz):=by simp [World.cell?,aj]
  have b2:wr.cell? ⟨w.heap.size,2,none⟩=some (.int .i64 wt):=by simp [World.cell?,aj]
  have b3:wr.cell? ⟨w.heap.size,3,none⟩=some (.int .i64 fr):=by simp [World.cell?,aj]
  have bd:Hid (Below w.heap.size w wr):=(Zc _ _).trans (L.mono (by omega));clear aj;obtain ⟨bc,vc,bu,_⟩:=Zf M;subst bu;by_cases bt:k<n
  ·obtain ⟨⟨ca,A,D,cb⟩,cc⟩:∃ q,ps[k]?=some q:=⟨_,Yb (by rw [HR.out.2];exact bt)⟩;obtain ⟨E,off,br,af,aa,c1,c2,c3⟩:=ZJ (HR.out.1.nx bd.out) cc;simp only at aa c1 c2 c3;have HD:Hid (ps.drop k=⟨ca,A,D,cb⟩ :: ps.drop (k+1)):=Zas cc;have be:=Za cc;have be:=Za cc;have b0:(k:Int)<(n:Int):=by omega
   subst br;clear cc;cases ah
   ·cases ag:lt nm ca
    ·have bs:Op.bytesLess nm.toList ca.toList=false:=ag;have N:Hid (ZH ⟨nm,sz,wt,fr⟩ ps=(b9++[⟨ca,A,D,cb⟩])++(if false=true then ps.drop (k+1) else ZH ⟨nm,sz,wt,fr⟩ (ps.drop (k+1)))):=by
      show _=_;rw [Q.out.1];simp only [Bool.false_eq_true,if_false];rw [HD.out,Zns ag];simp
     clear ag;go_wp2_with fail
     go_quiet (fail)
     obtain ⟨wd,d⟩:∃ wd,wr.drewN nq=wd:=⟨_,rfl⟩;rw [d];have O:wd.ownsRow (w.heap.size+1) 82 4 (.slice bc m vc) m (Ze b9):=by rw [←d];exact Zg6 M nq
     have U:Below (w.heap.size+1) (w.alloc (ZF ⟨nm,sz,wt,fr⟩)) wd:=by rw [←d];exact below_drewN L nq
     have ai:w.heap.size+1≤wd.heap.size:=by rw [←d];exact ab
     have a0:wd.cell? ⟨E,off+k*4,none⟩=some (.string ca):=by rw [←d];exact aa
     have a1:wd.cell? ⟨E,off+k*4+1,none⟩=some (.int .i64 A):=by rw [←d];exact c1
     have d2:wd.cell? ⟨E,off+k*4+2,none⟩=some (.int .i64 D):=by rw [←d];exact c2
     have d3:wd.cell? ⟨E,off+k*4+3,none⟩=some (.int .i64 cb):=by rw [←d];exact c3
     have a6:wd.cell? ⟨w.heap.size,0,none⟩=some (.string nm):=by rw [←d];exact ad
     have a7:wd.cell? ⟨w.heap.size,1,none⟩=some (.int .i64 sz):=by rw [←d];exact ae
     have e2:wd.cell? ⟨w.heap.size,2,none⟩=some (.int .i64 wt):=by rw [←d];exact b2
     have e3:wd.cell? ⟨w.heap.size,3,none⟩=some (.int .i64 fr):=by rw [←d];exact b3
     have bg:E<wd.heap.size:=by rw [←d];exact af
     clear d M L ab aa c1 c2 c3 ad ae b2 b3 af;go_wp2_with (at_builtin;refine wpList_append_own _ rfl (.tmp 31) (.tmp 36) 37 rfl (w.heap.size+1) 82 au _ 4 40 Tryz.underlying37 al ap aq ar rfl (by decide) _ _ _ rfl (O.alloc _) ⟨wd.heap.size,0,none⟩ 1 1 [.string ca,.int .i64 A,.int .i64 D,.int .i64 cb] rfl rfl (Zar _ [.string ca,.int .i64 A,.int .i64 D,.int .i64 cb] _) ?a2 ?a3 ?a4 ?a5 ?an)
     case a2=>intro u I;simp at I;rcases I with rfl | rfl | rfl | rfl <;> rfl
     case a3=>unfold maxLen;omega
     case a4=>omega
     case a5=>simp;omega
     case an =>
      intro v' Y X V _;have J:Y.ownsRow (w.heap.size+1) 82 4 v' (m+1) (Ze (b9++[⟨ca,A,D,cb⟩]))∧Below (w.heap.size+1) (w.alloc (ZF ⟨nm,sz,wt,fr⟩)) Y:=by
       refine ⟨by rw [Zbe];exact X,(U.alloc ai _).grown V (by simp;omega) (fun g R=>(O.lt g R).1)⟩
      clear X V O U;go_wp2_with fail
      go_roundw
      case rel=>exact ⟨k+1,m+1,b9++[⟨ca,A,D,cb⟩],false,by omega,by go_num,rfl,by have:=ay.out;simp at this ⊢;omega,⟨N.out,by simp [Q.out.2]⟩,J.1,J.2⟩
      case measure=>simp [intOf];omega
    ·have bs:Op.bytesLess nm.toList ca.toList=true:=ag;have N:Hid (ZH ⟨nm,sz,wt,fr⟩ ps=((b9++[⟨nm,sz,wt,fr⟩])++[⟨ca,A,D,cb⟩])++(if true=true then ps.drop (k+1) else ZH ⟨nm,sz,wt,fr⟩ (ps.drop (k+1)))):=by
      show _=_;rw [Q.out.1];simp only [Bool.false_eq_true,if_false];rw [HD.out,ZlM ag];simp
     clear ag;go_wp2_with fail
     go_quiet (fail)
     obtain ⟨wd,d⟩:∃ wd,wr.drewN nq=wd:=⟨_,rfl⟩;rw [d];have O:wd.ownsRow (w.heap.size+1) 82 4 (.slice bc m vc) m (Ze b9):=by rw [←d];exact Zg6 M nq
     have U:Below (w.heap.size+1) (w.alloc (ZF ⟨nm,sz,wt,fr⟩)) wd:=by rw [←d];exact below_drewN L nq
     have ai:w.heap.size+1≤wd.heap.size:=by rw [←d];exact ab
     have a0:wd.cell? ⟨E,off+k*4,none⟩=some (.string ca):=by rw [←d];exact aa
     have a1:wd.cell? ⟨E,off+k*4+1,none⟩=some (.int .i64 A):=by rw [←d];exact c1
     have d2:wd.cell? ⟨E,off+k*4+2,none⟩=some (.int .i64 D):=by rw [←d];exact c2
     have d3:wd.cell? ⟨E,off+k*4+3,none⟩=some (.int .i64 cb):=by rw [←d];exact c3
     have a6:wd.cell? ⟨w.heap.size,0,none⟩=some (.string nm):=by rw [←d];exact ad
     have a7:wd.cell? ⟨w.heap.size,1,none⟩=some (.int .i64 sz):=by rw [←d];exact ae
     have e2:wd.cell? ⟨w.heap.size,2,none⟩=some (.int .i64 wt):=by rw [←d];exact b2
     have e3:wd.cell? ⟨w.heap.size,3,none⟩=some (.int .i64 fr):=by rw [←d];exact b3
     have bg:E<wd.heap.size:=by rw [←d];exact af
     clear d M L ab aa c1 c2 c3 ad ae b2 b3 af;go_wp2_with (at_builtin;refine wpList_append_own _ rfl (.tmp 27) (.tmp 29) 37 rfl (w.heap.size+1) 82 au _ 4 40 Tryz.underlying37 al ap aq ar rfl (by decide) _ _ _ rfl (O.alloc _) ⟨wd.heap.size,0,none⟩ 1 1 [.string nm,.int .i64 sz,.int .i64 wt,.int .i64 fr] rfl rfl (Zar _ [.string nm,.int .i64 sz,.int .i64 wt,.int .i64 fr] _) ?b2 ?b3 ?b4 ?b5 ?bn)
     case b2=>intro u I;simp at I;rcases I with rfl | rfl | rfl | rfl <;> rfl
     case b3=>unfold maxLen;omega
     case b4=>omega
     case b5=>simp;omega
     case bn =>
      intro a9 ac am ak _;have ax:ac.ownsRow (w.heap.size+1) 82 4 a9 (m+1) (Ze (b9++[⟨nm,sz,wt,fr⟩])):=by rw [Zbe];exact am
      have aw:Below (w.heap.size+1) (w.alloc (ZF ⟨nm,sz,wt,fr⟩)) ac:=(U.alloc ai _).grown ak (by simp;omega) (fun g R=>(O.lt g R).1);have bq:w.heap.size+1≤ac.heap.size:=by have:=aw.size;rw [World.size_alloc] at this;exact this
      obtain ⟨bl,bw,bf,bx,bm,bo,f2,bp⟩:=ZJ (HR.out.1.nx ((Zc _ _).trans (aw.mono (by omega)))) be.out;obtain ⟨rfl,rfl⟩:E=bl∧off=bw:=by simpa using bf
      simp only at bm bo f2 bp;obtain ⟨b8,b7,bv,_⟩:=Zf ax;subst bv;clear am ak O U a0 a1 d2 d3 a6 a7 e2 e3 bf;go_wp2_with (at_builtin;refine wpList_append_own _ rfl (.tmp 31) (.tmp 36) 37 rfl (w.heap.size+1) 82 au _ 4 40 Tryz.underlying37 al ap aq ar rfl (by decide) _ _ _ rfl (ax.alloc _) ⟨ac.heap.size,0,none⟩ 1 1 [.string ca,.int .i64 A,.int .i64 D,.int .i64 cb] rfl rfl (Zar _ [.string ca,.int .i64 A,.int .i64 D,.int .i64 cb] _) ?d2 ?d3 ?d4 ?d5 ?dn)
      case d2=>intro u I;simp at I;rcases I with rfl | rfl | rfl | rfl <;> rfl
      case d3=>unfold maxLen;omega
      case d4=>omega
      case d5=>simp;omega
      case dn =>
       intro v' Y X V _;have J:Y.ownsRow (w.heap.size+1) 82 4 v' ((m+1)+1) (Ze ((b9++[⟨nm,sz,wt,fr⟩])++[⟨ca,A,D,cb⟩]))∧Below (w.heap.size+1) (w.alloc (ZF ⟨nm,sz,wt,fr⟩)) Y:=by
        refine ⟨by rw [Zbe];exact X,(aw.alloc bq _).grown V (by simp;omega) (fun g R=>(ax.lt g R).1)⟩
       clear X V ax aw;go_wp2_with fail
       go_roundw
       case rel=>exact ⟨k+1,(m+1)+1,(b9++[⟨nm,sz,wt,fr⟩])++[⟨ca,A,D,cb⟩],true,by omega,by go_num,rfl,by have:=ay.out;simp at this ⊢;omega,⟨N.out,by simp [Q.out.2]⟩,J.1,J.2⟩
       case measure=>simp [intOf];omega
   ·have N:Hid (ZH ⟨nm,sz,wt,fr⟩ ps=(b9++[⟨ca,A,D,cb⟩])++(if true=true then ps.drop (k+1) else ZH ⟨nm,sz,wt,fr⟩ (ps.drop (k+1)))):=by
     show _=_;rw [Q.out.1];simp only [if_true];rw [HD.out];simp
    go_wp2_with fail
    go_quiet (fail)
    obtain ⟨wd,d⟩:∃ wd,wr.drewN nq=wd:=⟨_,rfl⟩;rw [d];have O:wd.ownsRow (w.heap.size+1) 82 4 (.slice bc m vc) m (Ze b9):=by rw [←d];exact Zg6 M nq
    have U:Below (w.heap.size+1) (w.alloc (ZF ⟨nm,sz,wt,fr⟩)) wd:=by rw [←d];exact below_drewN L nq
    have ai:w.heap.size+1≤wd.heap.size:=by rw [←d];exact ab
    have a0:wd.cell? ⟨E,off+k*4,none⟩=some (.string ca):=by rw [←d];exact aa
    have a1:wd.cell? ⟨E,off+k*4+1,none⟩=some (.int .i64 A):=by rw [←d];exact c1
    have d2:wd.cell? ⟨E,off+k*4+2,none⟩=some (.int .i64 D):=by rw [←d];exact c2
    have d3:wd.cell? ⟨E,off+k*4+3,none⟩=some (.int .i64 cb):=by rw [←d];exact c3
    have a6:wd.cell? ⟨w.heap.size,0,none⟩=some (.string nm):=by rw [←d];exact ad
    have a7:wd.cell? ⟨w.heap.size,1,none⟩=some (.int .i64 sz):=by rw [←d];exact ae
    have e2:wd.cell? ⟨w.heap.size,2,none⟩=some (.int .i64 wt):=by rw [←d];exact b2
    have e3:wd.cell? ⟨w.heap.size,3,none⟩=some (.int .i64 fr):=by rw [←d];exact b3
    have bg:E<wd.heap.size:=by rw [←d];exact af
    clear d M L ab aa c1 c2 c3 ad ae b2 b3 af;go_wp2_with (at_builtin;refine wpList_append_own _ rfl (.tmp 31) (.tmp 36) 37 rfl (w.heap.size+1) 82 au _ 4 40 Tryz.underlying37 al ap aq ar rfl (by decide) _ _ _ rfl (O.alloc _) ⟨wd.heap.size,0,none⟩ 1 1 [.string ca,.int .i64 A,.int .i64 D,.int .i64 cb] rfl rfl (Zar _ [.string ca,.int .i64 A,.int .i64 D,.int .i64 cb] _) ?c2 ?c3 ?c4 ?c5 ?cn)
    case c2=>intro u I;simp at I;rcases I with rfl | rfl | rfl | rfl <;> rfl
    case c3=>unfold maxLen;omega
    case c4=>omega
    case c5=>simp;omega
    case cn =>
     intro v' Y X V _;have J:Y.ownsRow (w.heap.size+1) 82 4 v' (m+1) (Ze (b9++[⟨ca,A,D,cb⟩]))∧Below (w.heap.size+1) (w.alloc (ZF ⟨nm,sz,wt,fr⟩)) Y:=by
      refine ⟨by rw [Zbe];exact X,(U.alloc ai _).grown V (by simp;omega) (fun g R=>(O.lt g R).1)⟩
     clear X V O U;go_wp2_with fail
     go_roundw
     case rel=>exact ⟨k+1,m+1,b9++[⟨ca,A,D,cb⟩],true,by omega,by go_num,rfl,by have:=ay.out;simp at this ⊢;omega,⟨N.out,by simp [Q.out.2]⟩,J.1,J.2⟩
     case measure=>simp [intOf];omega
  ·have av:ps.drop k=[]:=List.drop_of_length_le (by rw [HR.out.2];omega);cases ah
   ·have N:Hid (ZH ⟨nm,sz,wt,fr⟩ ps=b9++[⟨nm,sz,wt,fr⟩]∧(ZH ⟨nm,sz,wt,fr⟩ ps).length=m+1):=by
     have e:ZH ⟨nm,sz,wt,fr⟩ ps=b9++[⟨nm,sz,wt,fr⟩]:=by
      rw [Q.out.1,av];rfl
     exact ⟨e,by rw [e];simp [Q.out.2]⟩
    clear av;go_wp2_with (at_builtin;refine wpList_append_own _ rfl (.tmp 40) (.tmp 42) 37 rfl (w.heap.size+1) 82 au _ 4 40 Tryz.underlying37 al ap aq ar rfl (by decide) _ _ _ rfl (M.alloc _) ⟨wr.heap.size,0,none⟩ 1 1 [.string nm,.int .i64 sz,.int .i64 wt,.int .i64 fr] rfl rfl (Zar _ [.string nm,.int .i64 sz,.int .i64 wt,.int .i64 fr] _) ?e2 ?e3 ?e4 ?e5 ?en)
    case e2=>intro u I;simp at I;rcases I with rfl | rfl | rfl | rfl <;> rfl
    case e3=>unfold maxLen;omega
    case e4=>omega
    case e5=>simp;omega
    case en =>
     intro a9 ac am ak _;have J:ac.ownsRow w.heap.size 82 4 a9 (m+1) (Ze (b9++[⟨nm,sz,wt,fr⟩]))∧Below w.heap.size w ac:=by
      refine ⟨Zr (by rw [Zbe];exact am) (by omega),?_⟩;exact (Zc _ _).trans (((L.alloc ab _).grown ak (by simp;omega) (fun g R=>(M.lt g R).1)).mono (by omega))
     clear am ak M L;go_wp2_with fail
     go_ret
     exact ⟨_,rfl,(by rw [N.out.2,N.out.1];exact J.1),J.2⟩
   ·have N:Hid (ZH ⟨nm,sz,wt,fr⟩ ps=b9∧(ZH ⟨nm,sz,wt,fr⟩ ps).length=m):=by
     have e:ZH ⟨nm,sz,wt,fr⟩ ps=b9:=by
      rw [Q.out.1,av];simp
     exact ⟨e,by rw [e];exact Q.out.2⟩
    have J:=Za (Zr M (Nat.le_succ _));clear av M L;go_wp2_with fail
    go_ret
    exact ⟨_,rfl,(by rw [N.out.2,N.out.1];exact J.out),bd.out⟩
def ZfB (ls:List (Ln×Value)) (l:Ln):Pl:=
 ⟨l.name,Zbu 0 1 l.sets (chn ls 7 l.frm),Zbu 1 0 l.sets (chn ls 7 l.frm),Zbu 2 0 l.sets (chn ls 7 l.frm)⟩
theorem Zo9 (D E:Int) (s2 s3:ByteArray) (so:Option Addr) (sc d:Nat) (ss:List (Nat×Nat)) (A:Option Addr) (q m:Nat) (h:List (Ln×Value)) (w:World)
  (O:RowAt w (.slice so d sc) d (Zah ss)) (J:ss.length=d) (L:d≤1001) (I:LinesAt w (.slice A m q) h) (M:h.length=m) (N:m≤1001) (Q:∀ p∈h,p.1.sets.length≤1001) :
  Calls Tryz.prog 116 #[.string ⟨#[115,105,122,101]⟩,ZcW D E s2 s3 so d sc,.slice A m q,.int .i64 1] w fun e R=>e=.returned (.int .i64 (Zbu 0 1 ss h))∧Below w.heap.size w R:=
 Zea 0 1 D E s2 s3 so sc d ss A q m h w O J L I M N Q
theorem ZoU (D E:Int) (s2 s3:ByteArray) (so:Option Addr) (sc d:Nat) (ss:List (Nat×Nat)) (A:Option Addr) (q m:Nat) (h:List (Ln×Value)) (w:World)
  (O:RowAt w (.slice so d sc) d (Zah ss)) (J:ss.length=d) (L:d≤1001) (I:LinesAt w (.slice A m q) h) (M:h.length=m) (N:m≤1001) (Q:∀ p∈h,p.1.sets.length≤1001) :
  Calls Tryz.prog 116 #[.string ⟨#[119,97,105,116]⟩,ZcW D E s2 s3 so d sc,.slice A m q,.int .i64 0] w fun e R=>e=.returned (.int .i64 (Zbu 1 0 ss h))∧Below w.heap.size w R:=
 Zea 1 0 D E s2 s3 so sc d ss A q m h w O J L I M N Q
theorem ZpB (D E:Int) (s2 s3:ByteArray) (so:Option Addr) (sc d:Nat) (ss:List (Nat×Nat)) (A:Option Addr) (q m:Nat) (h:List (Ln×Value)) (w:World)
  (O:RowAt w (.slice so d sc) d (Zah ss)) (J:ss.length=d) (L:d≤1001) (I:LinesAt w (.slice A m q) h) (M:h.length=m) (N:m≤1001) (Q:∀ p∈h,p.1.sets.length≤1001) :
  Calls Tryz.prog 116 #[.string ⟨#[102,97,114]⟩,ZcW D E s2 s3 so d sc,.slice A m q,.int .i64 0] w fun e R=>e=.returned (.int .i64 (Zbu 2 0 ss h))∧Below w.heap.size w R:=
 Zea 2 0 D E s2 s3 so sc d ss A q m h w O J L I M N Q
theorem Zpf (h m:Int) (s2 s3:ByteArray) (so:Option Addr) (sc d:Nat) (ss:List (Nat×Nat)) (w:World)
  (D:RowAt w (.slice so d sc) d (Zah ss)) (q:ss.length=d) (A:d≤1001) :
  Calls Tryz.prog 116 #[.string ⟨#[98,117,100,103,101,116]⟩,ZcW h m s2 s3 so d sc,.slice none 0 0,.int .i64 0] w fun e E=>e=.returned (.int .i64 (Zbu 3 0 ss []))∧Below w.heap.size w E:=
 Zea 3 0 h m s2 s3 so sc d ss none 0 0 [] w D q A ⟨Zdb _ _ _,by simp⟩ rfl (by omega) (by simp)
theorem ZbK {W d:World} {B:Nat} (hb:Below B W d) {g:Nat} (q:g<B) {A c1 c2 c3:Value} {t:TypeId} (h:W.heap[g]?=some (.cells #[A,c1,c2,c3] t (0,0))) :
  d.cell? ⟨g,0,none⟩=some A∧d.cell? ⟨g,1,none⟩=some c1∧d.cell? ⟨g,2,none⟩=some c2∧d.cell? ⟨g,3,none⟩=some c3∧∀ a,d.frozen? ⟨g,a,none⟩=false:=by
 have m:d.heap[g]?=some (.cells #[A,c1,c2,c3] t (0,0)):=(hb.block g q).trans h;refine ⟨?_,?_,?_,?_,fun a=>?_⟩ <;> simp [World.cell?,World.frozen?,m]
theorem Zhv {W d:World} {B:Nat} (hb:Below B W d) {g:Nat} (q:g<B) {A c1 c2 c3 c4:Value} {t:TypeId} (h:W.heap[g]?=some (.cells #[A,c1,c2,c3,c4] t (0,0))) :
  d.cell? ⟨g,0,none⟩=some A∧d.cell? ⟨g,1,none⟩=some c1∧d.cell? ⟨g,2,none⟩=some c2∧d.cell? ⟨g,3,none⟩=some c3∧d.cell? ⟨g,4,none⟩=some c4:=by
 have m:d.heap[g]?=some (.cells #[A,c1,c2,c3,c4] t (0,0)):=(hb.block g q).trans h;refine ⟨?_,?_,?_,?_,?_⟩ <;> simp [World.cell?,m]
theorem Zm (w:World) (g a:Nat) (v:Value) (d:Array Value) (t:TypeId) (h:w.heap[g]?=some (.cells d t (0,0))):(w.setCell ⟨g,a,none⟩ v).heap[g]?=some (.cells (d.setIfInBounds a v) t (0,0)):=by
 rw [setCell_eq_setRow w g a d t (0,0) v h];exact setRow_heap w g _ _ t _ h
theorem Zn0 (l:Ln) (O Q:Int) (so:Option Addr) (sc m:Nat) (ao:Option Addr) (ax n:Nat) (N:List (Ln×Value)) (w:World) (bj:LinesAt w (.slice ao n ax) N) (bl:N.length=n) (b8:n≤1001)
  (a8:RowAt w (.slice so m sc) m (Zah l.sets)) (a6:l.sets.length=m) (a7:m≤1001) (a9:∀ p∈N,p.1.sets.length≤1001) :
  Calls Tryz.prog 117 #[ZcW O Q l.name l.frm so m sc,.slice ao n ax] w fun e w'=>e=.returned (plA (ZfB N l))∧Below w.heap.size w w':=by
 obtain ⟨kind,h,E,ss,cj⟩:=l;simp only at a8 a6 ⊢;obtain ⟨I,V⟩:∃ I,I=(w.alloc (bLn O Q h E so m sc)).alloc (ZF ⟨⟨#[]⟩,0,0,0⟩):=⟨_,rfl⟩;have ak:Below w.heap.size w I:=by rw [V];exact Zb (Zc _ _) (Zc _ _)
 have c0:Hid (I=(w.alloc (bLn O Q h E so m sc)).alloc (ZF ⟨⟨#[]⟩,0,0,0⟩)∧Below w.heap.size w I∧I.heap.size=w.heap.size+2∧I.heap[w.heap.size]?=some (bLn O Q h E so m sc)∧I.heap[w.heap.size+1]?=some (ZF ⟨⟨#[]⟩,0,0,0⟩)):=by
  refine ⟨V,ak,by rw [V];simp,?_,?_⟩
  ·rw [V];exact (Zt _ _ (by simp)).trans (ZC _ _ rfl)
  ·rw [V];exact ZC _ _ (by simp)
 have ar:=Za (ZhZ O Q h E so m sc ao ax n N I (bj.nx ak) bl b8);have cr:Hid (∀ p∈N,p.1.sets.length≤1001):=a9;have HR:Hid (RowAt I (.slice so m sc) m (Zah ss)∧ss.length=m):=⟨a8.nx ak,a6⟩;obtain ⟨A,ac⟩:∃ A,chn N 7 E=A:=⟨_,rfl⟩;have Y:Hid (ZfB N ⟨kind,h,E,ss,cj⟩=⟨h,Zbu 0 1 ss A,Zbu 1 0 ss A,Zbu 2 0 ss A⟩∧(∀ p∈A,p.1.sets.length≤1001)∧A.length≤7):=
  ⟨by rw [ZfB,ac],fun p b9=>a9 p (Zm6 N 7 E p (by rw [ac];exact b9)),by rw [←ac];exact ZjO _ _ _⟩
 rw [ac] at ar;clear bj bl a8 a6 V ak a9 ac;obtain ⟨q,c7⟩:∃ q,A.length=q:=⟨_,rfl⟩;rw [c7] at ar;have HQ:=Za c7;have cs:q≤7:=by rw [←c7];exact Y.out.2.2
 clear c7;go_enter Tryz.func117,Tryz.ntmps117
 go_wp2_with fail
 rw [←c0.out.1];refine ar.out.mono ?_;rintro e d ⟨af,ae,rfl,bk,D⟩;have ct:w.heap.size+2≤d.heap.size:=by have:=D.size;rw [c0.out.2.2.1] at this;exact this
 obtain ⟨br,c1,c2,c3,c4⟩:=Zhv D (by rw [c0.out.2.2.1];omega) c0.out.2.2.2.1;have bz:=fun o=>(Zhv (Zb D (Zc d o)) (by rw [c0.out.2.2.1];omega) c0.out.2.2.2.1).1
 have b0:=fun o=>(Zhv (Zb D (Zc d o)) (by rw [c0.out.2.2.1];omega) c0.out.2.2.2.1).2.1
 have b1:=fun o=>(Zhv (Zb D (Zc d o)) (by rw [c0.out.2.2.1];omega) c0.out.2.2.2.1).2.2.1
 have b6:=fun o=>(Zhv (Zb D (Zc d o)) (by rw [c0.out.2.2.1];omega) c0.out.2.2.2.1).2.2.2.1
 have b7:=fun o=>(Zhv (Zb D (Zc d o)) (by rw [c0.out.2.2.1];omega) c0.out.2.2.2.1).2.2.2.2
 obtain ⟨R,ab⟩:∃ R,R=d.alloc (ZF ⟨h,0,0,0⟩):=⟨_,rfl⟩;have c6:Hid (R=d.alloc (ZF ⟨h,0,0,0⟩)∧LinesAt d (.slice af q ae) A∧RowAt d (.slice so m sc) m (Zah ss)∧Below d.heap.size d R∧R.heap[d.heap.size]?=some (ZF ⟨h,0,0,0⟩)∧d.heap.size<R.heap.size ∧
   d.heap[w.heap.size]?=some (bLn O Q h E so m sc)∧d.heap[w.heap.size+1]?=some (ZF ⟨⟨#[]⟩,0,0,0⟩)∧Below w.heap.size w d):=
  ⟨ab,bk,HR.out.1.nx D,by rw [ab];exact Zc _ _,by rw [ab];exact ZC _ _ rfl,by rw [ab];simp,(D.block _ (by rw [c0.out.2.2.1];omega)).trans c0.out.2.2.2.1,(D.block _ (by rw [c0.out.2.2.1];omega)).trans c0.out.2.2.2.2,Zb c0.out.2.1 D⟩
 clear ab bk D;have au:=Za (Zo9 O Q h E so sc m ss af ae q A R (c6.out.2.2.1.nx c6.out.2.2.2.1) HR.out.2 a7 (c6.out.2.1.nx c6.out.2.2.2.1) HQ.out (by omega) Y.out.2.1);obtain ⟨J,bc⟩:∃ J,Zbu 0 1 ss A=J:=⟨_,rfl⟩;obtain ⟨U,bm⟩:∃ U,Zbu 1 0 ss A=U:=⟨_,rfl⟩;obtain ⟨be,bo⟩:∃ be,Zbu 2 0 ss A=be:=⟨_,rfl⟩;rw [bc] at au;have aa:=Za (And.intro bc (And.intro bm bo));clear bc bm bo;go_wp2_with fail
 rw [←c6.out.1];refine au.out.mono ?_;rintro e ap ⟨rfl,al⟩;have ay:Below d.heap.size d ap:=Zb c6.out.2.2.2.1 al;obtain ⟨bs,bt,d2,d3,cp⟩:=ZbK al c6.out.2.2.2.2.2.1 c6.out.2.2.2.2.1;obtain ⟨bu,bv,f2,bw,bx⟩:=Zhv ay (by omega) c6.out.2.2.2.2.2.2.1;have bf:ap.heap[d.heap.size]?=some (ZF ⟨h,0,0,0⟩):=(al.block _ c6.out.2.2.2.2.2.1).trans c6.out.2.2.2.2.1;obtain ⟨L,ai⟩:∃ L,L=ap.setCell ⟨d.heap.size,1,none⟩ (.int .i64 J):=⟨_,rfl⟩;have ag:Below d.heap.size d L:=by rw [ai];exact ay.setCell (Yd _) _
 have bh:L.heap[d.heap.size]?=some (.cells #[.string h,.int .i64 J,.int .i64 0,.int .i64 0] 82 (0,0)):=by rw [ai];exact Zm _ _ _ _ _ _ bf
 have X:Hid (L=ap.setCell ⟨d.heap.size,1,none⟩ (.int .i64 J)∧Below d.heap.size d L∧L.heap[d.heap.size]?=some (.cells #[.string h,.int .i64 J,.int .i64 0,.int .i64 0] 82 (0,0))):=⟨ai,ag,bh⟩;have av:=Za (ZoU O Q h E so sc m ss af ae q A L (c6.out.2.2.1.nx ag) HR.out.2 a7 (c6.out.2.1.nx ag) HQ.out (by omega) Y.out.2.1);rw [aa.out.2.1] at av;clear al ay bf ag bh ai au br c1 c2 c3 c4 bz b0 b1 b6 b7;go_wp2_with fail
 rw [←X.out.1];refine av.out.mono ?_;rintro e aq ⟨rfl,am⟩;have bd:d.heap.size<L.heap.size:=(Ya.1 X.out.2.2).1;have az:Below d.heap.size d aq:=Zb X.out.2.1 am;obtain ⟨ca,cb,cc,cd,cq⟩:=ZbK am bd X.out.2.2;obtain ⟨ce,cf,cg,ch,ci⟩:=Zhv az (by omega) c6.out.2.2.2.2.2.2.1;have bg:aq.heap[d.heap.size]?=some (.cells #[.string h,.int .i64 J,.int .i64 0,.int .i64 0] 82 (0,0)):=(am.block _ bd).trans X.out.2.2;obtain ⟨M,aj⟩:∃ M,M=aq.setCell ⟨d.heap.size,2,none⟩ (.int .i64 U):=⟨_,rfl⟩;have ah:Below d.heap.size d M:=by rw [aj];exact az.setCell (Yd _) _
 have bi:M.heap[d.heap.size]?=some (.cells #[.string h,.int .i64 J,.int .i64 U,.int .i64 0] 82 (0,0)):=by rw [aj];exact Zm _ _ _ _ _ _ bg
 have ad:Hid (M=aq.setCell ⟨d.heap.size,2,none⟩ (.int .i64 U)∧Below d.heap.size d M∧M.heap[d.heap.size]?=some (.cells #[.string h,.int .i64 J,.int .i64 U,.int .i64 0] 82 (0,0))):=⟨aj,ah,bi⟩;have aw:=Za (ZpB O Q h E so sc m ss af ae q A M (c6.out.2.2.1.nx ah) HR.out.2 a7 (c6.out.2.1.nx ah) HQ.out (by omega) Y.out.2.1);rw [aa.out.2.2] at aw;clear am az bg ah bi aj av bs bt d2 d3 cp bu bv f2 bw bx bd;go_wp2_with fail
 rw [←ad.out.1];refine aw.out.mono ?_;rintro e bq ⟨rfl,a1⟩;have bp:d.heap.size<M.heap.size:=(Ya.1 ad.out.2.2).1;have a0:Below d.heap.size d bq:=Zb ad.out.2.1 a1;obtain ⟨cu,cv,cw,cx,cy⟩:=ZbK a1 bp ad.out.2.2;obtain ⟨ck,cl,cm,co,cz⟩:=ZbK a0 (by omega) c6.out.2.2.2.2.2.2.2.1;have HZ:Hid (Below w.heap.size w bq):=Zb c6.out.2.2.2.2.2.2.2.2 a0;clear a1 a0 aw ca cb cc cd cq ce cf cg ch ci bp;go_wp2_with fail
 refine bodyPost_ret (v:=plA ⟨h,J,U,be⟩) (by simp [results,Tryz.results117,go_sem,ck,cl,cm,co]) rfl ⟨?_,?_⟩
 ·rw [Y.out.1,aa.out.1,aa.out.2.1,aa.out.2.2]
 ·exact ((((HZ.out.setCell (by show _≤d.heap.size;omega) _).setCell (Nat.le_succ _) _).setCell (Nat.le_succ _) _).setCell (Nat.le_succ _) _).setCell (Nat.le_succ _) _
def namedF (kind:Nat):List ByteArray→Option Ln
 | []=>none
 | nm :: r=>if ZW nm=true then
   (match r with
    | []=>some ⟨kind,nm,⟨#[]⟩,[],0⟩
    | fw :: r2=>if (fw.toList == [102,114,111,109])=true then
      (match r2 with
      | []=>none
      | b :: r3=>if ZW b=true then (Z8 r3).map (fun ss=>⟨kind,nm,b,ss,0⟩) else none)
     else (Z8 (fw :: r2)).map (fun ss=>⟨kind,nm,⟨#[]⟩,ss,0⟩))
  else none
def ZcF:List ByteArray→Option Ln
 | [a]=>(Za9 a).map (fun n=>⟨1,⟨#[]⟩,⟨#[]⟩,[(3,n)],0⟩)
 | _=>none
def Zag:List ByteArray→Option Ln
 | []=>none
 | f0 :: rest=>if (f0.toList == [98,117,100,103,101,116])=true then ZcF rest
   else if (f0.toList == [98,97,115,101])=true then namedF 2 rest
   else if (f0.toList == [112,111,111,108])=true then namedF 3 rest else none
theorem ZaM (w:World) (d:List Value) (t:TypeId) (n:Nat) {g:Nat} (h:g=w.heap.size):RowAt (w.alloc (.cells d.toArray t)) (.slice (some ⟨g,0,none⟩) n n) n d:=by
 subst h;refine ⟨_,_,rfl,Yd _,.inr ⟨_,_,rfl,by simp,fun j x m=>?_⟩⟩;rw [Nat.zero_add,World.cell?_alloc_new];simpa using m
theorem Zd (w:World) (o:Obj) {k:Nat} (d:k=w.heap.size):(w.alloc o).heap[k]?=some o:=by
 subst d;show (w.heap.push o)[w.heap.size]?=some o;simp
theorem Zn (w:World) (o:Obj) {k:Nat} (d:k<w.heap.size):(w.alloc o).heap[k]?=w.heap[k]?:=Below.heap_alloc w o k d
abbrev lnA (x0 x1:Int) (s2 s3:ByteArray) (a4:Option Addr) (n4 c4:Nat):Value:=.agg #[.int .i64 x0,.int .i64 x1,.string s2,.string s3,.slice a4 n4 c4]
def ZlK (o:Option Ln) (w w':World) (e:Ending):Prop:=
 (o=none∧∃ x0 x1 s2 s3 a4 n4 c4,e=.returned (.tuple #[lnA x0 x1 s2 s3 a4 n4 c4,.bool false])∧Below w.heap.size w w') ∨
 (∃ l so sc,o=some l∧e=.returned (.tuple #[lnA 0 l.kind l.name l.frm so l.sets.length sc,.bool true])∧RowAt w' (.slice so l.sets.length sc) l.sets.length (Zah l.sets)∧Fr w.heap.size w' so∧Below w.heap.size w w')
abbrev Zbw:Obj:=.cells #[.int .i64 0,.int .i64 0,.string ⟨#[]⟩,.string ⟨#[]⟩,.slice none 0 0] 167
theorem Zjj (L:Option Addr) (N n:Nat) (d:List ByteArray) (w:World) (E:RowAt w (.slice L n N) n (Z6 d)) (q:d.length=n) (X:n≤1001) (I:∀ p∈d,p.size≤1000) :
  Calls Tryz.prog 173 #[.slice L n N] w fun e J=>ZlK (ZcF d) w J e:=by
 by_cases U:n=1
 ·subst U;obtain ⟨a,rfl⟩:∃ a,d=[a]:=by
   match d,q with
   | [a],_=>exact ⟨a,rfl⟩
  have O:a.size≤1000:=I a (by simp);obtain ⟨M,off,rfl,V,Q⟩:=E.at (j:=0) (x:=.string a) rfl;rw [Nat.add_zero] at Q;clear E I X q;have aa:∀ o,(w.alloc o).cell? ⟨M,off,none⟩=some (.string a):=fun o=>((Zc w o).cell (p:=⟨M,off,none⟩) V).trans Q
  cases h:Za9 a with
  | none =>
   have m:Hid (ZcF [a]=none):=by show _=_;simp [ZcF,h]
   have A:ZdN a=false:=by simp [ZdN,h]
   have D:Zet a=0:=by simp [Zet,h]
   clear h;go_enter Tryz.func173,Tryz.ntmps173
   go_wp2_with fail
   refine (Zb5 a _ O).mono ?_;rintro e J ⟨rfl,rfl⟩;rw [A,D];go_wp2_with fail
   refine bodyPost_ret (v:=.tuple #[lnA 0 1 ⟨#[]⟩ ⟨#[]⟩ (some ⟨w.heap.size+1+1,0,none⟩) 1 1,.bool false]) (by simp [results,Tryz.results173,go_sem]) rfl (.inl ⟨m.out,_,_,_,_,_,_,_,rfl,?_⟩);exact Zb (Zb (Zc _ _) (Zc _ _)) (Zc _ _)
  | some b =>
   have m:Hid (ZcF [a]=some ⟨1,⟨#[]⟩,⟨#[]⟩,[(3,b)],0⟩):=by show _=_;simp [ZcF,h]
   have A:ZdN a=true:=by simp [ZdN,h]
   have D:Zet a=(b:Int):=by simp [Zet,h]
   clear h;go_enter Tryz.func173,Tryz.ntmps173
   go_wp2_with fail
   refine (Zb5 a _ O).mono ?_;rintro e J ⟨rfl,rfl⟩;rw [A,D];go_wp2_with fail
   refine bodyPost_ret (v:=.tuple #[lnA 0 1 ⟨#[]⟩ ⟨#[]⟩ (some ⟨w.heap.size+1+1,0,none⟩) 1 1,.bool true]) (by simp [results,Tryz.results173,go_sem]) rfl (.inr ⟨_,_,_,m.out,rfl,?_,?_,?_⟩)
   ·exact ZaM _ (Zah [(3,b)]) 221 1 (by simp)
   ·intro Y ac e;injection e with e
    injection e with R _ _
    subst R;exact ⟨by omega,_,Zd _ _ (by simp)⟩
   ·exact Zb (Zb (Zc _ _) (Zc _ _)) (Zc _ _)
 ·have ab:((n:Int) != 1)=true:=by rw [bne_iff_ne];omega
  have m:Hid (ZcF d=none):=by
   show _=_;match d,q with
   | [],_=>rfl
   | [a],q=>simp at q;omega
   | a :: b :: r,_=>rfl
  clear E I;go_enter Tryz.func173,Tryz.ntmps173
  go_wp2_with fail
  refine bodyPost_ret (v:=.tuple #[lnA 0 0 ⟨#[]⟩ ⟨#[]⟩ none 0 0,.bool false]) (by simp [results,Tryz.results173,go_sem]) rfl (.inl ⟨m.out,_,_,_,_,_,_,_,rfl,Zc _ _⟩)
theorem ZeG {kind:Nat} {nm:ByteArray} {r:List ByteArray} (d:ZW nm=false):namedF kind (nm :: r)=none:=by simp [namedF,d]
theorem Zi9 {kind:Nat} {nm:ByteArray} (d:ZW nm=true):namedF kind [nm]=some ⟨kind,nm,⟨#[]⟩,[],0⟩:=by simp [namedF,d]
theorem Zhz {kind:Nat} {nm d:ByteArray} {r:List ByteArray} (h:ZW nm=true) (m:(d.toList == [102,114,111,109])=false):namedF kind (nm :: d :: r)=(Z8 (d :: r)).map (fun ss=>⟨kind,nm,⟨#[]⟩,ss,0⟩):=by
 simp [namedF,h,m]
theorem ZkF {kind:Nat} {nm d:ByteArray} (h:ZW nm=true) (m:(d.toList == [102,114,111,109])=true):namedF kind [nm,d]=none:=by
 simp [namedF,h,m]
theorem ZkV {kind:Nat} {nm d b:ByteArray} {r:List ByteArray} (h:ZW nm=true) (m:(d.toList == [102,114,111,109])=true) (hb:ZW b=false):namedF kind (nm :: d :: b :: r)=none:=by
 simp [namedF,h,m,hb]
theorem Zkb {kind:Nat} {nm d b:ByteArray} {r:List ByteArray} (h:ZW nm=true) (m:(d.toList == [102,114,111,109])=true) (hb:ZW b=true):namedF kind (nm :: d :: b :: r)=(Z8 r).map (fun ss=>⟨kind,nm,b,ss,0⟩):=by
 simp [namedF,h,m,hb]
theorem Zaz {W d:World} (hb:Below W.heap.size W d) {g:Nat} (q:g<W.heap.size) {A c1 c2 c3 c4:Value} (h:W.heap[g]?=some (.cells #[A,c1,c2,c3,c4] 167 (0,0))) :
  d.cell? ⟨g,0,none⟩=some A∧d.cell? ⟨g,1,none⟩=some c1∧d.cell? ⟨g,2,none⟩=some c2∧d.cell? ⟨g,3,none⟩=some c3∧d.cell? ⟨g,4,none⟩=some c4∧∀ a,d.frozen? ⟨g,a,none⟩=false:=by
 have m:d.heap[g]?=some (.cells #[A,c1,c2,c3,c4] 167 (0,0)):=(hb.block g q).trans h;refine ⟨?_,?_,?_,?_,?_,fun a=>?_⟩ <;> simp [World.cell?,World.frozen?,m]
theorem ZjM (kind:Nat) (ao:Option Addr) (ai n:Nat) (fs:List ByteArray) (w:World) (Y:RowAt w (.slice ao n ai) n (Z6 fs)) (L:fs.length=n) (b0:n≤1001) (X:∀ p∈fs,p.size≤1000) :
  Calls Tryz.prog 174 #[.int .i64 (kind:Int),.slice ao n ai] w fun e w'=>ZlK (namedF kind fs) w w' e:=by
 by_cases bh:n=0
 ·subst bh;obtain rfl:fs=[]:=List.eq_nil_of_length_eq_zero L;have HN:Hid (namedF kind []=none):=rfl;clear Y X L;go_enter Tryz.func174,Tryz.ntmps174
  go_wp2_with fail
  exact bodyPost_ret (v:=.tuple #[lnA 0 0 ⟨#[]⟩ ⟨#[]⟩ none 0 0,.bool false]) (by simp [results,Tryz.results174,go_sem]) rfl (.inl ⟨HN.out,_,_,_,_,_,_,_,rfl,Zc _ _⟩)
 obtain ⟨nm,r,rfl⟩:∃ nm r,fs=nm :: r:=by
  match fs,L with
  | [],L=>simp at L;omega
  | nm :: r,_=>exact ⟨nm,r,rfl⟩
 have br:((n:Int) == 0)=false:=by simp;omega
 have cc:nm.size≤maxLen:=by have:=X nm (by simp);unfold maxLen;omega
 obtain ⟨ax,off,rfl,bk,bd⟩:=Y.at (j:=0) (x:=.string nm) rfl;rw [Nat.add_zero] at bd;have bt:=ZeR Y;have b1:(0:Int)<(n:Int):=by omega
 have bs:∀ o,(w.alloc o).cell? ⟨ax,off,none⟩=some (.string nm):=fun o=>((Zc w o).cell (p:=⟨ax,off,none⟩) bk).trans bd
 cases N:ZW nm
 ·have HN:=Za (ZeG (kind:=kind) (r:=r) N);clear Y X L;go_enter Tryz.func174,Tryz.ntmps174
  go_wp2_with fail
  refine (Za6 nm _ cc).mono ?_;rintro e w' ⟨rfl,rfl⟩;rw [N];go_wp2_with fail
  exact bodyPost_ret (v:=.tuple #[lnA 0 0 ⟨#[]⟩ ⟨#[]⟩ none 0 0,.bool false]) (by simp [results,Tryz.results174,go_sem]) rfl (.inl ⟨HN.out,_,_,_,_,_,_,_,rfl,Zc _ _⟩)
 obtain ⟨A,hA⟩:∃ A,(if ai=1 then some (⟨ax,off,none⟩:Addr) else some ⟨ax,off+1,none⟩)=A:=⟨_,rfl⟩;have O:RowAt w (.slice A (n - 1) (ai - 1)) (n - 1) (Z6 r):=by
  have:=Ze2 1 Y L (by omega);rw [hA] at this;exact this
 have D:r.length=n - 1:=by simp at L;omega
 by_cases bm:n=1
 ·subst bm;obtain rfl:r=[]:=List.eq_nil_of_length_eq_zero D;obtain ⟨m,I⟩:∃ m,m=(w.alloc Zbw).alloc (.cells #[.int .i64 0,.int .i64 (kind:Int),.string nm,.string ⟨#[]⟩,.slice none 0 0] 167):=⟨_,rfl⟩;have V:Below w.heap.size w m:=by rw [I];exact Zb (Zc _ _) (Zc _ _)
  have HP:=Za (Zdl A (ai - 1) 0 [] m (O.nx V) rfl (by omega) (by simp));have ca:Hid (m.heap[w.heap.size]?=some Zbw∧m.heap[w.heap.size+1]?=some (.cells #[.int .i64 0,.int .i64 (kind:Int),.string nm,.string ⟨#[]⟩,.slice none 0 0] 167 (0,0))∧m.heap.size=w.heap.size+2):=by
   rw [I];refine ⟨(Zn _ _ (by simp)).trans (Zd _ _ rfl),Zd _ _ (by simp),by simp⟩
  have R:Hid (m=(w.alloc Zbw).alloc (.cells #[.int .i64 0,.int .i64 (kind:Int),.string nm,.string ⟨#[]⟩,.slice none 0 0] 167)∧Below w.heap.size w m):=⟨I,V⟩;have ab:Hid (namedF kind [nm]=(Z8 []).map (fun ss=>⟨kind,nm,⟨#[]⟩,ss,0⟩)):=(by show _=_;rw [Zi9 N];rfl);clear Y X L O D V I;go_enter Tryz.func174,Tryz.ntmps174
  go_wp2_with fail
  refine (Za6 nm _ cc).mono ?_;rintro e w' ⟨rfl,rfl⟩;rw [N];go_wp2_with fail
  rw [←R.out.1];refine HP.out.mono ?_;rintro e J (⟨ae,rfl,q⟩ | ⟨ss,so,sc,ag,rfl,af,ad,q⟩)
  ·obtain ⟨U,c1,c2,c3,c4,au⟩:=Zaz q (by rw [ca.out.2.2];omega) ca.out.1;obtain ⟨ap,aq,d2,d3,d4,av⟩:=Zaz q (by rw [ca.out.2.2];omega) ca.out.2.1;have d:Hid (namedF kind [nm]=none∧Below w.heap.size w J):=⟨by rw [ab.out,ae];rfl,Zb R.out.2 q⟩;clear ae q;go_wp2_with fail
   refine bodyPost_ret (v:=.tuple #[lnA 0 (kind:Int) nm ⟨#[]⟩ none 0 0,.bool false]) (by simp [results,Tryz.results174,go_sem,U,c1,c2,c3,c4]) rfl (.inl ⟨d.out.1,_,_,_,_,_,_,_,rfl,?_⟩);exact (((((d.out.2.setCell (Nat.le_succ _) _).setCell (Yd _) _).setCell (Yd _) _).setCell (Yd _) _).setCell (Yd _) _).setCell (Yd _) _
  ·obtain ⟨U,c1,c2,c3,c4,au⟩:=Zaz q (by rw [ca.out.2.2];omega) ca.out.1;obtain ⟨ap,aq,d2,d3,d4,av⟩:=Zaz q (by rw [ca.out.2.2];omega) ca.out.2.1;have d:Hid (namedF kind [nm]=some ⟨kind,nm,⟨#[]⟩,ss,0⟩∧Below w.heap.size w J∧RowAt J (.slice so ss.length sc) ss.length (Zah ss)∧Fr (w.heap.size+2) J so):=
    ⟨by rw [ab.out,ag];rfl,Zb R.out.2 q,af,by rw [←ca.out.2.2];exact ad⟩
   clear ag q af ad;go_wp2_with fail
   refine bodyPost_ret (v:=.tuple #[lnA 0 (kind:Int) nm ⟨#[]⟩ so ss.length sc,.bool true]) (by simp [results,Tryz.results174,go_sem,U,c1,c2,c3,c4]) rfl (.inr ⟨_,_,_,d.out.1,rfl,?_,?_,?_⟩)
   ·have cb:∀ b off,so=some ⟨b,off,none⟩→w.heap.size≠b:=fun b o e=>by have:=(d.out.2.2.2 b o e).1;omega
    have ar:∀ b off,so=some ⟨b,off,none⟩→w.heap.size+1≠b:=fun b o e=>by have:=(d.out.2.2.2 b o e).1;omega
    exact (((((d.out.2.2.1.set ar _ _).set cb _ _).set cb _ _).set cb _ _).set cb _ _).set cb _ _
   ·exact ((((((d.out.2.2.2.set (by omega) _ _).set (by omega) _ _).set (by omega) _ _).set (by omega) _ _).set (by omega) _ _).set (by omega) _ _).mono (by omega)
   ·exact (((((d.out.2.1.setCell (Nat.le_succ _) _).setCell (Yd _) _).setCell (Yd _) _).setCell (Yd _) _).setCell (Yd _) _).setCell (Yd _) _
 obtain ⟨E,M,rfl⟩:∃ E M,r=E :: M:=by
  match r,D with
  | [],D=>simp at D;omega
  | E :: M,_=>exact ⟨E,M,rfl⟩
 obtain ⟨ac,ah,bi,bc,am⟩:=O.at (j:=0) (x:=.string E) rfl;rw [Nat.add_zero] at am;subst bi;have b6:(0:Int)<(n:Int) - 1:=by omega
 have bo:0<n - 1:=by omega
 have bv:∀ aj ak,((w.alloc aj).alloc ak).cell? ⟨ac,ah,none⟩=some (.string E):=fun aj ak=>((Zb (Zc w aj) (Zc _ ak)).cell (p:=⟨ac,ah,none⟩) bc).trans am
 cases az:E.toList == [102,114,111,109]
 ·obtain ⟨m,I⟩:∃ m,m=(w.alloc Zbw).alloc (.cells #[.int .i64 0,.int .i64 (kind:Int),.string nm,.string ⟨#[]⟩,.slice none 0 0] 167):=⟨_,rfl⟩;have V:Below w.heap.size w m:=by rw [I];exact Zb (Zc _ _) (Zc _ _)
  have HP:=Za (Zdl (some ⟨ac,ah,none⟩) (ai - 1) (n - 1) (E :: M) m (O.nx V) D (by omega) (fun p a1=>X p (List.mem_cons_of_mem _ a1)));have ca:Hid (m.heap[w.heap.size]?=some Zbw∧m.heap[w.heap.size+1]?=some (.cells #[.int .i64 0,.int .i64 (kind:Int),.string nm,.string ⟨#[]⟩,.slice none 0 0] 167 (0,0))∧m.heap.size=w.heap.size+2):=by
   rw [I];refine ⟨(Zn _ _ (by simp)).trans (Zd _ _ rfl),Zd _ _ (by simp),by simp⟩
  have R:Hid (m=(w.alloc Zbw).alloc (.cells #[.int .i64 0,.int .i64 (kind:Int),.string nm,.string ⟨#[]⟩,.slice none 0 0] 167)∧Below w.heap.size w m):=⟨I,V⟩;have ab:Hid (namedF kind (nm :: E :: M)=(Z8 (E :: M)).map (fun ss=>⟨kind,nm,⟨#[]⟩,ss,0⟩)):=Zhz N az;clear Y X L O D am V I;go_enter Tryz.func174,Tryz.ntmps174
  go_wp2_with fail
  refine (Za6 nm _ cc).mono ?_;rintro e w' ⟨rfl,rfl⟩;rw [N];go_wp2_with fail
  rw [←R.out.1];refine HP.out.mono ?_;rintro e J (⟨ae,rfl,q⟩ | ⟨ss,so,sc,ag,rfl,af,ad,q⟩)
  ·obtain ⟨U,c1,c2,c3,c4,au⟩:=Zaz q (by rw [ca.out.2.2];omega) ca.out.1;obtain ⟨ap,aq,d2,d3,d4,av⟩:=Zaz q (by rw [ca.out.2.2];omega) ca.out.2.1;have d:Hid (namedF kind (nm :: E :: M)=none∧Below w.heap.size w J):=⟨by rw [ab.out,ae];rfl,Zb R.out.2 q⟩;clear ae q;go_wp2_with fail
   refine bodyPost_ret (v:=.tuple #[lnA 0 (kind:Int) nm ⟨#[]⟩ none 0 0,.bool false]) (by simp [results,Tryz.results174,go_sem,U,c1,c2,c3,c4]) rfl (.inl ⟨d.out.1,_,_,_,_,_,_,_,rfl,?_⟩);exact (((((d.out.2.setCell (Nat.le_succ _) _).setCell (Yd _) _).setCell (Yd _) _).setCell (Yd _) _).setCell (Yd _) _).setCell (Yd _) _
  ·obtain ⟨U,c1,c2,c3,c4,au⟩:=Zaz q (by rw [ca.out.2.2];omega) ca.out.1;obtain ⟨ap,aq,d2,d3,d4,av⟩:=Zaz q (by rw [ca.out.2.2];omega) ca.out.2.1;have d:Hid (namedF kind (nm :: E :: M)=some ⟨kind,nm,⟨#[]⟩,ss,0⟩∧Below w.heap.size w J∧RowAt J (.slice so ss.length sc) ss.length (Zah ss)∧Fr (w.heap.size+2) J so):=
    ⟨by rw [ab.out,ag];rfl,Zb R.out.2 q,af,by rw [←ca.out.2.2];exact ad⟩
   clear ag q af ad;go_wp2_with fail
   refine bodyPost_ret (v:=.tuple #[lnA 0 (kind:Int) nm ⟨#[]⟩ so ss.length sc,.bool true]) (by simp [results,Tryz.results174,go_sem,U,c1,c2,c3,c4]) rfl (.inr ⟨_,_,_,d.out.1,rfl,?_,?_,?_⟩)
   ·have cb:∀ b off,so=some ⟨b,off,none⟩→w.heap.size≠b:=fun b o e=>by have:=(d.out.2.2.2 b o e).1;omega
    have ar:∀ b off,so=some ⟨b,off,none⟩→w.heap.size+1≠b:=fun b o e=>by have:=(d.out.2.2.2 b o e).1;omega
    exact (((((d.out.2.2.1.set ar _ _).set cb _ _).set cb _ _).set cb _ _).set cb _ _).set cb _ _
   ·exact ((((((d.out.2.2.2.set (by omega) _ _).set (by omega) _ _).set (by omega) _ _).set (by omega) _ _).set (by omega) _ _).set (by omega) _ _).mono (by omega)
   ·exact (((((d.out.2.1.setCell (Nat.le_succ _) _).setCell (Yd _) _).setCell (Yd _) _).setCell (Yd _) _).setCell (Yd _) _).setCell (Yd _) _
 obtain ⟨al,bl⟩:∃ al,ai - 1=al:=⟨_,rfl⟩;obtain ⟨aa,be⟩:∃ aa,n - 1=aa:=⟨_,rfl⟩;rw [bl,be] at O;rw [be] at D bo;obtain ⟨aw,bj⟩:∃ aw,(if al=2 then some (⟨ac,ah,none⟩:Addr) else some ⟨ac,ah+2,none⟩)=aw:=⟨_,rfl⟩;by_cases bf:n=2
 ·obtain rfl:M=[]:=by
   match M,D with
   | [],_=>rfl
   | a :: b,h=>simp at h;omega
  have bx:(n:Int) - 1<2:=by omega
  have bz:aa<2:=by omega
  have bq:Hid (n=2):=bf;clear bf;have HN:=Za (ZkF (kind:=kind) N az);clear Y X L O D am;go_enter Tryz.func174,Tryz.ntmps174
  go_wp2_with fail
  refine (Za6 nm _ cc).mono ?_;rintro e w' ⟨rfl,rfl⟩;rw [N];go_wp2_with fail
  exact bodyPost_ret (v:=.tuple #[lnA 0 0 ⟨#[]⟩ ⟨#[]⟩ none 0 0,.bool false]) (by simp [results,Tryz.results174,go_sem]) rfl (.inl ⟨HN.out,_,_,_,_,_,_,_,rfl,Zb (Zc _ _) (Zc _ _)⟩)
 obtain ⟨b,Q,rfl⟩:∃ b Q,M=b :: Q:=by
  match M,D with
  | [],D=>simp at D;omega
  | b :: Q,_=>exact ⟨b,Q,rfl⟩
 have a9:b.size≤maxLen:=by have:=X b (by simp);unfold maxLen;omega
 obtain ⟨bg,bp,a8,_,a0⟩:=O.at (j:=1) (x:=.string b) rfl;obtain ⟨rfl,rfl⟩:ac=bg∧ah=bp:=by simpa using a8
 have b7:(1:Int)<(n:Int) - 1:=by omega
 have b8:1<aa:=by omega
 have b9:(2:Int)≤(aa:Int):=by omega
 have bu:aa≤al:=ZeR O;have bw:∀ aj ak,((w.alloc aj).alloc ak).cell? ⟨ac,ah+1,none⟩=some (.string b):=fun aj ak=>((Zb (Zc w aj) (Zc _ ak)).cell (p:=⟨ac,ah+1,none⟩) bc).trans a0
 have a7:RowAt w (.slice aw (aa - 2) (al - 2)) (aa - 2) (Z6 Q):=by
  have:=Ze2 2 O D (by omega);rw [bj] at this;exact this
 have a6:Q.length=aa - 2:=by simp at D;omega
 clear a8;cases ay:ZW b
 ·have HN:=Za (ZkV (kind:=kind) (r:=Q) N az ay);clear Y X L O D am a0 a7 a6;go_enter Tryz.func174,Tryz.ntmps174
  go_wp2_with fail
  refine (Za6 nm _ cc).mono ?_;rintro e w' ⟨rfl,rfl⟩;rw [N];go_wp2_with fail
  refine (Za6 b _ a9).mono ?_;rintro e w' ⟨rfl,rfl⟩;rw [ay];go_wp2_with fail
  exact bodyPost_ret (v:=.tuple #[lnA 0 0 ⟨#[]⟩ ⟨#[]⟩ none 0 0,.bool false]) (by simp [results,Tryz.results174,go_sem]) rfl (.inl ⟨HN.out,_,_,_,_,_,_,_,rfl,Zb (Zc _ _) (Zc _ _)⟩)
 obtain ⟨m,I⟩:∃ m,m=(w.alloc Zbw).alloc (.cells #[.int .i64 0,.int .i64 (kind:Int),.string nm,.string b,.slice none 0 0] 167):=⟨_,rfl⟩;have V:Below w.heap.size w m:=by rw [I];exact Zb (Zc _ _) (Zc _ _)
 have HP:=Za (Zdl aw (al - 2) (aa - 2) Q m (a7.nx V) a6 (by omega) (fun p a1=>X p (by simp [a1])));have ca:Hid (m.heap[w.heap.size]?=some Zbw∧m.heap[w.heap.size+1]?=some (.cells #[.int .i64 0,.int .i64 (kind:Int),.string nm,.string b,.slice none 0 0] 167 (0,0))∧m.heap.size=w.heap.size+2):=by
  rw [I];refine ⟨(Zn _ _ (by simp)).trans (Zd _ _ rfl),Zd _ _ (by simp),by simp⟩
 have R:Hid (m=(w.alloc Zbw).alloc (.cells #[.int .i64 0,.int .i64 (kind:Int),.string nm,.string b,.slice none 0 0] 167)∧Below w.heap.size w m):=⟨I,V⟩;have ab:Hid (namedF kind (nm :: E :: b :: Q)=(Z8 Q).map (fun ss=>⟨kind,nm,b,ss,0⟩)):=Zkb N az ay;clear Y X L O D am a0 a7 a6 V I;go_enter Tryz.func174,Tryz.ntmps174
 go_wp2_with fail
 refine (Za6 nm _ cc).mono ?_;rintro e w' ⟨rfl,rfl⟩;rw [N];go_wp2_with fail
 refine (Za6 b _ a9).mono ?_;rintro e w' ⟨rfl,rfl⟩;rw [ay];go_wp2_with fail
 rw [←R.out.1];refine HP.out.mono ?_;rintro e J (⟨ae,rfl,q⟩ | ⟨ss,so,sc,ag,rfl,af,ad,q⟩)
 ·obtain ⟨U,c1,c2,c3,c4,au⟩:=Zaz q (by rw [ca.out.2.2];omega) ca.out.1;obtain ⟨ap,aq,d2,d3,d4,av⟩:=Zaz q (by rw [ca.out.2.2];omega) ca.out.2.1;have d:Hid (namedF kind (nm :: E :: b :: Q)=none∧Below w.heap.size w J):=⟨by rw [ab.out,ae];rfl,Zb R.out.2 q⟩;clear ae q;go_wp2_with fail
  refine bodyPost_ret (v:=.tuple #[lnA 0 (kind:Int) nm b none 0 0,.bool false]) (by simp [results,Tryz.results174,go_sem,U,c1,c2,c3,c4]) rfl (.inl ⟨d.out.1,_,_,_,_,_,_,_,rfl,?_⟩);exact (((((d.out.2.setCell (Nat.le_succ _) _).setCell (Yd _) _).setCell (Yd _) _).setCell (Yd _) _).setCell (Yd _) _).setCell (Yd _) _
 ·obtain ⟨U,c1,c2,c3,c4,au⟩:=Zaz q (by rw [ca.out.2.2];omega) ca.out.1;obtain ⟨ap,aq,d2,d3,d4,av⟩:=Zaz q (by rw [ca.out.2.2];omega) ca.out.2.1;have d:Hid (namedF kind (nm :: E :: b :: Q)=some ⟨kind,nm,b,ss,0⟩∧Below w.heap.size w J∧RowAt J (.slice so ss.length sc) ss.length (Zah ss)∧Fr (w.heap.size+2) J so):=
   ⟨by rw [ab.out,ag];rfl,Zb R.out.2 q,af,by rw [←ca.out.2.2];exact ad⟩
  clear ag q af ad;go_wp2_with fail
  refine bodyPost_ret (v:=.tuple #[lnA 0 (kind:Int) nm b so ss.length sc,.bool true]) (by simp [results,Tryz.results174,go_sem,U,c1,c2,c3,c4]) rfl (.inr ⟨_,_,_,d.out.1,rfl,?_,?_,?_⟩)
  ·have cb:∀ b off,so=some ⟨b,off,none⟩→w.heap.size≠b:=fun b o e=>by have:=(d.out.2.2.2 b o e).1;omega
   have ar:∀ b off,so=some ⟨b,off,none⟩→w.heap.size+1≠b:=fun b o e=>by have:=(d.out.2.2.2 b o e).1;omega
   exact (((((d.out.2.2.1.set ar _ _).set cb _ _).set cb _ _).set cb _ _).set cb _ _).set cb _ _
  ·exact ((((((d.out.2.2.2.set (by omega) _ _).set (by omega) _ _).set (by omega) _ _).set (by omega) _ _).set (by omega) _ _).set (by omega) _ _).mono (by omega)
  ·exact (((((d.out.2.1.setCell (Nat.le_succ _) _).setCell (Yd _) _).setCell (Yd _) _).setCell (Yd _) _).setCell (Yd _) _).setCell (Yd _) _
end Co
end Go.Proofs.YtmgkcbdlfodjmaaGreatDoor
