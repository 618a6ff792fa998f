import Derived.Test.YtcpikklofilkcaaGreatNqR
import Derived.Maps.AppendAt
import Derived.Deep.RegionWith
import Derived.Deep.RegionLaw
import Derived.Test.YtcpikklofilkcaaGreatNqQ
set_option maxRecDepth 100000
set_option maxHeartbeats 16000000
namespace Go.Proofs.YtcpikklofilkcaaGreat
open Go.RowKit
namespace Lw
open Co
theorem appendH {w:World} {ops:Array Oper} {rest:List Oper} {o:Oper} {a:Act} {Q:Exit→Act→World→Prop} (ty tyl:TypeId) (sz bytes:Nat) (z:Value) (hinfo:(Tryz.prog.info? ty).map (fun i=>(i.zero,i.size,i.bytes))=some (some z,sz,bytes)) (hund:Tryz.prog.underlying tyl=some (.slice ty)) (hzs:z.cells.size=sz) (hsz:0<sz) (hby:bytes≤64)
  (hgd:o.guard=none) (s x:Operand) (ho:o.op=.call {callee:=.builtin .append,args:=#[s,x],argTypes:=#[tyl,tyl]}) (base:Nat)
  (v:Value) (n:Nat) (xs:List Value) (hs:a.eval s=v) (hown:w.ownsRow base ty sz v n xs)
  (b off:Nat) (m c:Nat) (news:List Value) (hx:a.eval x=.slice (some ⟨b,off,none⟩) m c) (hnl:news.length=m*sz) (hrow:RowAt w (.slice (some ⟨b,off,none⟩) m c) m news) (hone:∀ u∈news,u.oneCell'=true) (hm:0<m)
  (h6:n+m≤1099511627776) (hbase:base≤w.heap.size)
  (h:∀ g cap w',w'.ownsRow base ty sz (.slice (some ⟨g,0,none⟩) (n+m) cap) (n+m) (xs++news)→w.grownBy w' v.ownBlock→(v.ownBlock=some g∨g=w.heap.size)→wpList Tryz.prog ops Q rest (a.put o.dst (.slice (some ⟨g,0,none⟩) (n+m) cap)) w'):wpList Tryz.prog ops Q (o :: rest) a w:=by
 obtain ⟨t0,hi,hz0,hz1,hz2⟩:=info_parts hinfo;refine wpList_plain hgd fun _ hK=>wp_append_lies w s x tyl ho base ty t0 z sz bytes hund hi hz0 hz1 hz2 hzs hsz v n xs hs hown ⟨b,off,none⟩ m c news hx hnl ?_ hone hm (by unfold maxLen;omega) ?_ hbase _ rfl fun g cap w' h2 h3 h4 _=>hK _ _ (h g cap w' h2 h3 h4)
 ·intro j u hj;obtain ⟨b',off',e,_,g⟩:=hrow.at hj;simp only [Option.some.injEq,Addr.mk.injEq,and_true] at e;obtain ⟨rfl,rfl⟩:=e;rw [show (⟨b,off,none⟩:Addr).add j=⟨b,off+j,none⟩ by unfold Addr.add;split <;> simp_all];exact g
 ·have:(n+m)*bytes≤1099511627776*64:=Nat.mul_le_mul h6 hby;omega
theorem Chg.grown {F:Nat→Prop} {w w':World} {row:Option Nat} (h:w.grownBy w' row) (hF:∀ y,row=some y→F y):Chg F w w':=
 ⟨h.os,h.tape,h.output,h.size,fun y hy hf=>h.block y hy (fun e=>hf (hF y e.symm))⟩
theorem Zhm (B gp:Nat) (b:Int) (po:Option Addr) (n1 pc:Nat) (so:Option Addr) (n2 sc:Nat) (wo:Option Addr) (n3 wc:Nat) (op:Int) (q:WyV) (c:Int) (p:ByteArray) (ws:List Wtr) (w:World) (hgp:w.heap[gp]?=some (bDesk b po n1 pc so n2 sc wo n3 wc op q)) (hr:w.ownsRow B 76 2 (.slice wo n3 wc) n3 (flatW ws)) (hB:B≤w.heap.size) (hq:n3+1≤1099511627776) :
  Calls Tryz.prog 106 #[.pointer (some ⟨gp,0,none⟩),.int .i64 c,.string p] w fun e w'=>(∃ x,e=.returned x)∧∃ g vc,w'.heap[gp]?=some (bDesk b po n1 pc so n2 sc (some ⟨g,0,none⟩) (n3+1) vc op q)∧w'.ownsRow B 76 2 (.slice (some ⟨g,0,none⟩) (n3+1) vc) (n3+1) (flatW (ws++[⟨c,p⟩]))∧Chg (fun y=>y=gp∨(Value.slice wo n3 wc).ownBlock=some y) w w'∧((Value.slice wo n3 wc).ownBlock=some g∨w.heap.size≤g):=by
 have hgplt:gp<w.heap.size:=(Array.getElem?_eq_some_iff.1 hgp).1;obtain ⟨g0,g1,g2,g3,g4,gz⟩:=blk5d hgp;have HR:Hid (w.ownsRow B 76 2 (.slice wo n3 wc) n3 (flatW ws)∧w.heap[gp]?=some (bDesk b po n1 pc so n2 sc wo n3 wc op q)):=⟨hr,hgp⟩;clear hr hgp;go_enter Tryz.func106,Tryz.ntmps106
 go_wp2_with (at_builtin;refine appendH 76 33 2 24 _ ZfY Tryz.underlying33 rfl (by decide) (by decide) rfl (.tmp 10) (.tmp 14) rfl B _ n3 (flatW ws) rfl (HR.out.1.alloc _) w.heap.size 0 1 1 [.int .i64 c,.string p] rfl rfl (ZA w [.int .i64 c,.string p] _ 1 rfl) (by intro u hu;simp at hu;rcases hu with rfl | rfl <;> rfl) (by decide) (by omega) (by simp;omega) ?next)
 case next =>
  intro g cap w6 hown6 hg6 hor;have HN:Hid (gp≠g∧w6.heap[gp]?=some (bDesk b po n1 pc so n2 sc wo n3 wc op q)):=by
   have hk:∀ y,(Value.slice wo n3 wc).ownBlock=some y→gp≠y:=by
    intro y hy e;obtain ⟨cc,fz,hh⟩:=Go.Lib.ownsRow_kind HR.out.1 y hy;rw [←e,HR.out.2] at hh;simp [bDesk] at hh
   refine ⟨?_,?_⟩
   ·rcases hor with h | h
    ·exact hk g h
    ·(first | omega | (simp [World.alloc] at h;omega))
   ·refine (hg6.block gp (by simp;omega) (fun e=>hk gp e.symm rfl)).trans ?_;exact ((Zb w _).block gp hgplt).trans HR.out.2
  obtain ⟨k0,k1,k2,k3,k4,kz⟩:=blk5d HN.out.2;have HK:Hid (w6.ownsRow B 76 2 (.slice (some ⟨g,0,none⟩) (n3+1) cap) (n3+1) (flatW (ws++[⟨c,p⟩]))∧Chg (fun y=>(Value.slice wo n3 wc).ownBlock=some y) w w6∧((Value.slice wo n3 wc).ownBlock=some g∨w.heap.size≤g)):=by
   refine ⟨?_,?_,?_⟩
   ·unfold flatW;rw [List.flatMap_append];exact hown6
   ·exact (Chg.of_below (Zb w _)).trans (Chg.grown (F:=fun y=>(Value.slice wo n3 wc).ownBlock=some y) hg6 (fun y hy=>hy)) (fun y hy=>.inl hy)
   ·rcases hor with h | h
    ·exact .inl h
    ·exact .inr (by first | omega | (simp [World.alloc] at h;omega))
  clear hown6 hg6 hor g0 g1 g2 g3 g4 gz;go_wp2_with fail
  refine bodyPost_end (v:=.tuple #[]) (by simp [results,Tryz.results106,go_sem]) rfl ?_;refine ⟨⟨_,rfl⟩,g,cap,?_,?_,?_,HK.out.2.2⟩
  ·exact Zg _ _ _ _ _ _ HN.out.2
  ·exact Zj HK.out.1 (fun j hj=>Below.heap_setCell _ _ _ _ (by show j≠gp;intro e;exact HN.out.1 (by have:g=j:=(by simpa [Value.ownBlock] using hj);omega)))
  ·exact (HK.out.2.1.mono (fun y hy=>.inr hy)).trans (Chg.set (F:=fun y=>y=gp) w6 gp 3 _ rfl) (fun y hy=>.inl (.inl hy))
theorem Zku {g n c j gp:Nat} (hj:(Value.slice (some ⟨g,0,none⟩) n c).ownBlock=some j) (h:gp≠g):j≠gp:=by
 have e:g=j:=by simpa [Value.ownBlock] using hj
 omega
theorem blk4d {w:World} {g:Nat} {c0 c1 c2 c3:Value} {t:TypeId} (h:w.heap[g]?=some (.cells #[c0,c1,c2,c3] t (0,0))) :
  w.cell? ⟨g,0,none⟩=some c0∧w.cell? ⟨g,1,none⟩=some c1∧w.cell? ⟨g,2,none⟩=some c2∧w.cell? ⟨g,3,none⟩=some c3∧∀ a,w.frozen? ⟨g,a,none⟩=false:=by
 refine ⟨?_,?_,?_,?_,fun a=>?_⟩ <;> simp [World.cell?,World.frozen?,h]
theorem Zhl (B gp:Nat) (b:Int) (po:Option Addr) (n1 pc:Nat) (so:Option Addr) (n2 sc:Nat) (wo:Option Addr) (n3 wc:Nat) (op:Int) (q:WyV) (nm:ByteArray) (s1 s2 s3:Int) (c:Int) (ss:List Srv) (w:World) (hgp:w.heap[gp]?=some (bDesk b po n1 pc so n2 sc wo n3 wc op q)) (hr:w.ownsRow B 74 4 (.slice so n2 sc) n2 (flatV ss)) (hB:B≤w.heap.size) (hq:n2+1≤1099511627776) (ho:0≤op∧op<9223372036854775807) :
  Calls Tryz.prog 162 #[.pointer (some ⟨gp,0,none⟩),.agg #[.string nm,.int .i64 s1,.int .i64 s2,.int .i64 s3],.int .i64 c] w fun e w'=>(∃ x,e=.returned x)∧∃ g vc,w'.heap[gp]?=some (bDesk b po n1 pc (some ⟨g,0,none⟩) (n2+1) vc wo n3 wc (op+1) q)∧w'.ownsRow B 74 4 (.slice (some ⟨g,0,none⟩) (n2+1) vc) (n2+1) (flatV (ss++[⟨op+1,nm,s3,c⟩]))∧Chg (fun y=>y=gp∨(Value.slice so n2 sc).ownBlock=some y) w w'∧((Value.slice so n2 sc).ownBlock=some g∨w.heap.size≤g):=by
 have hgplt:gp<w.heap.size:=(Array.getElem?_eq_some_iff.1 hgp).1;have hne:¬gp=w.heap.size:=by omega
 have hA:∀ o,(w.alloc o).heap[gp]?=some (bDesk b po n1 pc so n2 sc wo n3 wc op q):=fun o=>((Zb w o).block gp hgplt).trans hgp
 have a3:∀ o,(w.alloc o).cell? ⟨gp,4,none⟩=some (.int .i64 op):=fun o=>(blk5d (hA o)).2.2.2.2.1
 have az:∀ o,(w.alloc o).frozen? ⟨gp,4,none⟩=false:=fun o=>(blk5d (hA o)).2.2.2.2.2 4
 go_enter Tryz.func162,Tryz.ntmps162
 go_upto_region 2 with fail
 have HW:Hid (∀ W0,W0=((w.setCell ⟨gp,4,none⟩ (.int .i64 (op+1))).alloc (Obj.cells #[.string nm,.int .i64 s1,.int .i64 s2,.int .i64 s3] 70))→W0.heap.size=w.heap.size+1∧W0.heap[gp]?=some (bDesk b po n1 pc so n2 sc wo n3 wc (op+1) q)∧W0.heap[w.heap.size]?=some (Obj.cells #[.string nm,.int .i64 s1,.int .i64 s2,.int .i64 s3] 70)∧W0.ownsRow B 74 4 (.slice so n2 sc) n2 (flatV ss)∧Chg (fun y=>y=gp) w W0):=by
  rintro W0 rfl;have hk:∀ y,(Value.slice so n2 sc).ownBlock=some y→y≠gp:=by
   intro y hy e;obtain ⟨cc,fz,hh⟩:=Go.Lib.ownsRow_kind hr y hy;rw [e,hgp] at hh;simp [bDesk] at hh
  refine ⟨by simp,?_,?_,?_,?_⟩
  ·exact ((Zb _ _).block gp (by simp;omega)).trans (Zg _ _ _ _ _ _ hgp)
  ·exact Zc _ _ (by simp)
  ·exact (Zj hr (fun j hj=>Below.heap_setCell _ _ _ _ (hk j hj))).alloc _
  ·exact (Chg.set (F:=fun y=>y=gp) w gp 4 _ rfl).trans (Chg.of_below (F:=fun y=>y=gp) (Zb _ _)) (fun y hy=>.inl hy)
 generalize hW:World.alloc (w.setCell ⟨gp,4,none⟩ (.int .i64 (op+1))) _=W0;have H0:=hideIt (HW.out W0 hW.symm);clear HW hW hA a3 az hr hgp;obtain ⟨hs0,hd0,hb0,ho0,hc0⟩:=H0.out;have dA:∀ o,(W0.alloc o).cell? ⟨gp,4,none⟩=some (.int .i64 (op+1)):=fun o=>(blk5d (((Zb W0 o).block gp (by omega)).trans hd0)).2.2.2.2.1
 have bA:∀ o,(W0.alloc o).heap[w.heap.size]?=some (Obj.cells #[.string nm,.int .i64 s1,.int .i64 s2,.int .i64 s3] 70):=fun o=>((Zb W0 o).block w.heap.size (by omega)).trans hb0
 have b0:=(blk4d hb0).1;have b3:=(blk4d hb0).2.2.2.1;have c0:=fun o=>(blk4d (bA o)).1
 have c3:=fun o=>(blk4d (bA o)).2.2.2.1
 have d0:=(blk5d hd0).2.2.2.2.1;clear hs0 hd0 hb0 ho0 hc0 bA;go_region
 have HV:Hid (∀ W1,W1=(W0.alloc (Obj.cells #[.int .i64 (op+1),.string nm,.int .i64 s3,.int .i64 c] 74)).drew→W1.heap.size=W0.heap.size+1∧W1.heap[gp]?=some (bDesk b po n1 pc so n2 sc wo n3 wc (op+1) q)∧W1.heap[W0.heap.size]?=some (Obj.cells #[.int .i64 (op+1),.string nm,.int .i64 s3,.int .i64 c] 74)∧W1.ownsRow B 74 4 (.slice so n2 sc) n2 (flatV ss)∧Chg (fun y=>y=gp) w W1):=by
  rintro W1 rfl;obtain ⟨hs0,hd0,hb0,ho0,hc0⟩:=H0.out;have hX:Chg (fun y=>y=gp) w (W0.alloc (Obj.cells #[.int .i64 (op+1),.string nm,.int .i64 s3,.int .i64 c] 74)):=hc0.trans (Chg.of_below (F:=fun y=>y=gp) (Zb _ _)) (fun y hy=>.inl hy);refine ⟨by show (W0.alloc _).heap.size=_;simp,?_,?_,(ho0.alloc _).drew,⟨hX.os,hX.tape,hX.output,hX.size,hX.block⟩⟩
  ·exact ((Zb W0 _).block gp (by omega)).trans hd0
  ·exact Zc W0 _ rfl
 generalize hV:World.drew (W0.alloc _)=W1;have H1:=hideIt (HV.out W1 hV.symm);clear HV hV dA b0 b3 c0 c3 d0;obtain ⟨hs1,hd1,hb1,ho1,hc1⟩:=H1.out;have hs0:=H0.out.1;obtain ⟨e0,e1,e2,e3,e4⟩:=blk4d hb1;have f2:=(blk5d hd1).2.2.1;have fA:∀ o,(W1.alloc o).cell? ⟨gp,2,none⟩=some (.slice so n2 sc):=fun o=>(blk5d (((Zb W1 o).block gp (by omega)).trans hd1)).2.2.1
 have HK:Hid (∀ y,(Value.slice so n2 sc).ownBlock=some y→gp≠y):=by
  intro y hy e;obtain ⟨cc,fz,hh⟩:=Go.Lib.ownsRow_kind H1.out.2.2.2.1 y hy;rw [←e,H1.out.2.1] at hh;simp [bDesk] at hh
 have hle:w.heap.size+2≤W1.heap.size:=by omega
 clear hd1 hb1 hc1 hs0 hs1;obtain ⟨t0,hi,hz0,hz1,hz2⟩:=info_parts Zce;go_upto_region 3 with fail
 go_region_law
  ((refine step_append_lies _ (by rfl) (.tmp 28) (.tmp 30) 32 (by rfl) B 74 t0 _ 4 40 Tryz.underlying32 hi hz0 hz1 hz2 (by rfl) (by decide) _ n2 (flatV ss) (by rfl) (ho1.alloc _) ⟨W1.heap.size,0,none⟩ 1 1 [.int .i64 (op+1),.string nm,.int .i64 s3,.int .i64 c] (by rfl) (by rfl) (Zw _ [.int .i64 (op+1),.string nm,.int .i64 s3,.int .i64 c] _) (by intro u hu;simp at hu;rcases hu with rfl | rfl | rfl | rfl <;> rfl) (by omega) (by unfold maxLen;omega) (by omega) (by simp;omega) (W1.heap.size+1) (by simp) ?_;intro g6 cap6 w6 hown6 hgrow6 hat6 hlt6;have q6:=(hgrow6.block gp (by simp;omega) (fun e=>HK.out gp e.symm rfl)).trans (((Zb W1 _).block gp (by omega)).trans H1.out.2.1);obtain ⟨q0,q1,q2,q3,q4,qz⟩:=blk5d q6))
 all_goals
  have HX:Hid (w6.ownsRow B 74 4 (.slice (some ⟨g6,0,none⟩) (n2+1) cap6) (n2+1) (flatV (ss++[⟨op+1,nm,s3,c⟩]))∧Chg (fun y=>y=gp∨(Value.slice so n2 sc).ownBlock=some y) w w6∧((Value.slice so n2 sc).ownBlock=some g6∨w.heap.size≤g6)∧gp≠g6∧w6.heap[gp]?=some (bDesk b po n1 pc so n2 sc wo n3 wc (op+1) q)):=by
   refine ⟨?_,?_,?_,?_,q6⟩
   ·unfold flatV;rw [List.flatMap_append];exact hown6
   ·have h1:=H1.out.2.2.2.2.trans (Chg.of_below (F:=fun y=>y=gp) (Zb W1 (Obj.cells #[.int .i64 (op+1),.string nm,.int .i64 s3,.int .i64 c] 74))) (fun y hy=>.inl hy);have h2:=Chg.grown (F:=fun y=>(Value.slice so n2 sc).ownBlock=some y) hgrow6 (fun y hy=>hy);exact (h1.mono (fun y hy=>.inl hy)).trans (G:=fun y=>(Value.slice so n2 sc).ownBlock=some y) ⟨h2.os,h2.tape,h2.output,h2.size,h2.block⟩ (fun y hy=>.inl (.inr hy))
   ·rcases hat6 with h | h
    ·exact .inl h
    ·exact .inr (by omega)
   ·rcases hat6 with h | h
    ·exact HK.out g6 h
    ·omega
  clear hown6 hgrow6 hat6 q0 q1 q2 q3 q4 qz q6;refine bodyPost_end (v:=.tuple #[]) (by simp [results,Tryz.results162,go_sem]) rfl ?_;refine ⟨⟨_,rfl⟩,g6,cap6,?_,?_,?_,HX.out.2.2.1⟩
  ·exact Zg _ _ _ _ _ _ HX.out.2.2.2.2
  ·exact Zj HX.out.1 (fun j hj=>Below.heap_setCell _ _ _ _ (by show j≠gp;exact Zku hj HX.out.2.2.2.1))
  ·exact HX.out.2.1.trans (Chg.set (F:=fun y=>y=gp) w6 gp 2 _ rfl) (fun y hy=>.inl (.inl hy))
theorem ZcQ:∀ (l:List Srv) (k:Nat) (c:Int) (y:Srv),y∈l.modify k (fun x=>{x with client:=c})→∃ x∈l,y.id=x.id∧(y=x∨y.client=c)
 | [],k,c,y,h=>by simp at h
 | x :: r,0,c,y,h=>by
  simp only [List.modify_zero_cons,List.mem_cons] at h;rcases h with rfl | h
  ·exact ⟨x,List.mem_cons_self,rfl,.inr rfl⟩
  ·exact ⟨y,List.mem_cons_of_mem _ h,rfl,.inl rfl⟩
 | x :: r,k+1,c,y,h=>by
  simp only [List.modify_succ_cons,List.mem_cons] at h;rcases h with rfl | h
  ·exact ⟨y,List.mem_cons_self,rfl,.inl rfl⟩
  ·obtain ⟨z,hz,h1,h2⟩:=ZcQ r k c y h;exact ⟨z,List.mem_cons_of_mem _ hz,h1,h2⟩
theorem Zen:∀ (l:List Srv) (k:Nat) (c:Int),l.Pairwise (fun a b=>a.id<b.id)→(l.modify k (fun x=>{x with client:=c})).Pairwise (fun a b=>a.id<b.id)
 | [],k,c,h=>by simp
 | x :: r,0,c,h=>by
  obtain ⟨h1,h2⟩:=List.pairwise_cons.1 h;simp only [List.modify_zero_cons];exact List.pairwise_cons.2 ⟨h1,h2⟩
 | x :: r,k+1,c,h=>by
  obtain ⟨h1,h2⟩:=List.pairwise_cons.1 h;simp only [List.modify_succ_cons];refine List.pairwise_cons.2 ⟨fun y hy=>?_,Zen r k c h2⟩;obtain ⟨z,hz,e,_⟩:=ZcQ r k c y hy;rw [e];exact h1 z hz
theorem Zfe:∀ (l:List Srv) (k:Nat) (c:Int) (s:Srv),l[k]?=some s→∀ x∈l,x≠s→x∈l.modify k (fun x=>{x with client:=c})
 | [],k,c,s,h,_,_,_=>by simp at h
 | y :: r,0,c,s,h,x,hx,hne=>by
  simp at h;subst h;simp only [List.modify_zero_cons];rcases List.mem_cons.1 hx with rfl | hx
  ·exact absurd rfl hne
  ·exact List.mem_cons_of_mem _ hx
 | y :: r,k+1,c,s,h,x,hx,hne=>by
  simp only [List.modify_succ_cons];rcases List.mem_cons.1 hx with rfl | hx
  ·exact List.mem_cons_self
  ·exact List.mem_cons_of_mem _ (Zfe r k c s (by simpa using h) x hx hne)
theorem ZhM:∀ (l:List Srv) (k:Nat) (c:Int) (s:Srv),l[k]?=some s→{s with client:=c}∈l.modify k (fun x=>{x with client:=c})
 | [],k,c,s,h=>by simp at h
 | y :: r,0,c,s,h=>by simp at h;subst h;simp
 | y :: r,k+1,c,s,h=>by
  simp only [List.modify_succ_cons];exact List.mem_cons_of_mem _ (ZhM r k c s (by simpa using h))
theorem Zg3 {α:Type} (l:List α) (k:Nat) (s:α) (h:l[k]?=some s):∀ x∈l,x≠s→x∈l.eraseIdx k:=by
 intro x hx hne;rw [List.mem_eraseIdx_iff_getElem?];obtain ⟨j,hj⟩:=List.getElem?_of_mem hx;refine ⟨j,fun e=>?_,hj⟩;subst e;rw [h] at hj;exact hne (Option.some.inj hj).symm
structure Step (S S':Sta) (op nx:Int) (i:Nat) (c:Wtr):Prop where
 inv:Inv S' (nx - 1)
 wts:S'.wts=S.wts.eraseIdx i
 pools:S'.pools=S.pools
 bud:S'.bud=S.bud
 rest:S'.plan=S.plan∧S'.begun=S.begun∧S'.back=S.back
 keep:∀ x∈S.srv,x.client≠0→x∈S'.srv
 got:∃ x∈S'.srv,x.client=c.client
 up:op+1≤nx∧nx≤op+2
 len:(S'.srv.length:Int)≤max (S.srv.length:Int) S.bud
theorem Zbk {S S':Sta} {op nx:Int} (hI:Inv S op) {i:Nat} {c:Wtr} (h:rLent S (op+1) i c=some (S',nx)):Step S S' op nx i c:=by
 have hcl:(S.wts.eraseIdx i).Pairwise (fun a b=>a.client≠b.client):=hI.cli.sublist (List.eraseIdx_sublist _ _);unfold rLent at h;split at h
 ·simp at h
 ·rename_i x hx
  split at h
  ·rename_i k hk
   simp only [Option.some.injEq,Prod.mk.injEq] at h;obtain ⟨rfl,rfl⟩:=h;obtain ⟨s,hs,hs2⟩:=(ZB _ S.srv).1 k hk;have hidle:=List.find?_some hs2;simp only [isIdle,Bool.and_eq_true,beq_iff_eq] at hidle;refine ⟨⟨Zen _ _ _ hI.ids,fun y hy=>?_,by have:=hI.op0;omega,hcl⟩,rfl,rfl,rfl,⟨rfl,rfl,rfl⟩,fun y hy hc=>?_,⟨_,ZhM _ _ _ _ hs,rfl⟩,by omega,?_⟩
   ·obtain ⟨z,hz,e,_⟩:=ZcQ _ _ _ _ hy;rw [e];have:=hI.low z hz;omega
   ·exact Zfe _ _ _ _ hs y hy (fun e=>hc (by rw [e];exact hidle.1))
   ·show ((S.srv.modify k _).length:Int)≤_;rw [List.length_modify];omega
  ·split at h
   ·simp at h
   ·rename_i hno
    split at h
    ·simp at h
    ·rename_i hr
     simp only [Option.some.injEq,Prod.mk.injEq] at h;obtain ⟨rfl,rfl⟩:=h;have hlt:(S.srv.length:Int)<S.bud:=by
      unfold rRoom at hr;split at hr
      ·assumption
      ·split at hr <;> simp at hr
     refine ⟨⟨?_,fun y hy=>?_,by have:=hI.op0;omega,hcl⟩,rfl,rfl,rfl,⟨rfl,rfl,rfl⟩,fun y hy _=>?_,⟨⟨op+1,x.nm,x.fr,c.client⟩,?_,rfl⟩,by omega,?_⟩
     ·show (S.srv++[_]).Pairwise _;rw [List.pairwise_append];refine ⟨hI.ids,by simp,fun a ha b hb=>?_⟩;simp at hb;subst hb;have:=hI.low a ha;show a.id<op+1;omega
     ·have hy':y∈S.srv++[⟨op+1,x.nm,x.fr,c.client⟩]:=hy;rcases List.mem_append.1 hy' with hy' | hy'
      ·have:=hI.low y hy';omega
      ·simp at hy';subst hy';have:=hI.op0;show 1≤op+1∧op+1≤_;omega
     ·show y∈S.srv++[_];exact List.mem_append_left _ hy
     ·show _∈S.srv++[_];simp
     ·show ((S.srv++[_]).length:Int)≤_;simp;omega
    ·rename_i k hr
     simp only [Option.some.injEq,Prod.mk.injEq] at h;obtain ⟨rfl,rfl⟩:=h;have hk:¬(S.srv.length:Int)<S.bud∧S.srv.findIdx? (isIdle ⟨#[]⟩ true)=some k:=by
      unfold rRoom at hr;split at hr
      ·simp at hr
      ·rename_i hb
       refine ⟨hb,?_⟩;split at hr
       ·simp at hr
       ·rename_i j hj
        simp at hr;rw [hj,hr]
     obtain ⟨s,hs,hs2⟩:=(ZB _ S.srv).1 k hk.2;have hidle:=List.find?_some hs2;simp only [isIdle,Bool.and_eq_true,beq_iff_eq] at hidle;have hmem:∀ y∈S.srv.eraseIdx k,y∈S.srv:=fun y hy=>(List.eraseIdx_sublist _ _).subset hy
     refine ⟨⟨?_,fun y hy=>?_,by have:=hI.op0;omega,hcl⟩,rfl,rfl,rfl,⟨rfl,rfl,rfl⟩,fun y hy hc=>?_,⟨⟨op+1,x.nm,x.fr,c.client⟩,?_,rfl⟩,by omega,?_⟩
     ·show (S.srv.eraseIdx k++[_]).Pairwise _;rw [List.pairwise_append];refine ⟨hI.ids.sublist (List.eraseIdx_sublist _ _),by simp,fun a ha b hb=>?_⟩;simp at hb;subst hb;have:=hI.low a (hmem a ha);show a.id<op+1;omega
     ·have hy':y∈S.srv.eraseIdx k++[⟨op+1,x.nm,x.fr,c.client⟩]:=hy;rcases List.mem_append.1 hy' with hy' | hy'
      ·have:=hI.low y (hmem y hy');omega
      ·simp at hy';subst hy';have:=hI.op0;show 1≤op+1∧op+1≤_;omega
     ·show y∈S.srv.eraseIdx k++[_];exact List.mem_append_left _ (Zg3 _ _ _ hs y hy (fun e=>hc (by rw [e];exact hidle.1)))
     ·show _∈S.srv.eraseIdx k++[_];simp
     ·show ((S.srv.eraseIdx k++[_]).length:Int)≤_;have hkl:k<S.srv.length:=(List.getElem?_eq_some_iff.1 hs).1;rw [List.length_append,List.length_eraseIdx_of_lt hkl];simp;omega
theorem Zbi {S:Sta} {op:Int} (hI:Inv S op):∀ (l:List Wtr) (i:Nat),S.wts.drop i=l→(cFirst S op l).map (fun y=>(y.1,y.2+1))=rFirst S (op+1) i l
 | [],i,_=>rfl
 | c :: r,i,h=>by
  have hi:S.wts[i]?=some c:=by
   rw [←List.head?_drop,h];rfl
  have hr:S.wts.drop (i+1)=r:=by
   rw [←List.tail_drop,h];rfl
  have hg:=Zhn hI hi;rw [cFirst,rFirst,←hg];cases cGive S op c with
  | none=>simp only [Option.map_none];exact Zbi hI r (i+1) hr
  | some y=>rfl
theorem ZaB {S S':Sta} {op nx:Int}:∀ (l:List Wtr) (i:Nat),S.wts.drop i=l→rFirst S (op+1) i l=some (S',nx)→∃ j c,S.wts[j]?=some c∧i≤j∧rLent S (op+1) j c=some (S',nx)
 | [],i,_,h=>by simp [rFirst] at h
 | c :: r,i,hd,h=>by
  have hi:S.wts[i]?=some c:=by
   rw [←List.head?_drop,hd];rfl
  have hr:S.wts.drop (i+1)=r:=by
   rw [←List.tail_drop,hd];rfl
  rw [rFirst] at h;cases hl:rLent S (op+1) i c with
  | none =>
   rw [hl] at h;obtain ⟨j,c',h1,h2,h3⟩:=ZaB r (i+1) hr h;exact ⟨j,c',h1,by omega,h3⟩
  | some y =>
   rw [hl] at h;simp at h;exact ⟨i,c,hi,Nat.le_refl _,by rw [hl,h]⟩
theorem Z4:∀ (f:Nat) (S:Sta) (op:Int),Inv S op→((cServe f S op).1,(cServe f S op).2+1)=rServed f S (op+1)∧Inv (cServe f S op).1 (cServe f S op).2
 | 0,S,op,hI=>⟨rfl,hI⟩
 | f+1,S,op,hI=>by
  have he:=Zbi hI S.wts 0 (by simp);rw [cServe,rServed,←he];cases hc:cFirst S op S.wts with
  | none=>exact ⟨rfl,hI⟩
  | some y =>
   rw [hc] at he;obtain ⟨j,c,hj,_,hl⟩:=ZaB (S:=S) (S':=y.1) (op:=op) (nx:=y.2+1) S.wts 0 (by simp) (by rw [←he];rfl);have hst:=Zbk hI hl;have hI2:Inv y.1 y.2:=by have:=hst.inv;rwa [show y.2+1 - 1=y.2 by omega] at this
   simp only [Option.map_some];exact Z4 f y.1 y.2 hI2
def Still (S:Sta) (op:Int):Prop:=rFirst S (op+1) 0 S.wts=none
theorem Zac:∀ (f:Nat) (S:Sta) (op:Int),Inv S op→S.wts.length≤f→Still (cServe f S op).1 (cServe f S op).2
 | 0,S,op,hI,h=>by
  have:S.wts=[]:=List.length_eq_zero_iff.1 (by omega);show rFirst S (op+1) 0 S.wts=none;rw [this];rfl
 | f+1,S,op,hI,h=>by
  have he:=Zbi hI S.wts 0 (by simp);rw [cServe];cases hc:cFirst S op S.wts with
  | none =>
   rw [hc] at he;exact he.symm
  | some y =>
   rw [hc] at he;obtain ⟨j,c,hj,_,hl⟩:=ZaB (S:=S) (S':=y.1) (op:=op) (nx:=y.2+1) S.wts 0 (by simp) (by rw [←he];rfl);have hst:=Zbk hI hl;have hI2:Inv y.1 y.2:=by have:=hst.inv;rwa [show y.2+1 - 1=y.2 by omega] at this
   refine Zac f y.1 y.2 hI2 ?_;rw [hst.wts,List.length_eraseIdx_of_lt (List.getElem?_eq_some_iff.1 hj).1];omega
structure Kept (S S':Sta):Prop where
 pools:S'.pools=S.pools
 bud:S'.bud=S.bud
 rest:S'.plan=S.plan∧S'.begun=S.begun∧S'.back=S.back
 keep:∀ x∈S.srv,x.client≠0→x∈S'.srv
 sub:S'.wts.Sublist S.wts
 len:(S'.srv.length:Int)≤max (S.srv.length:Int) S.bud
theorem ZdM:∀ (f:Nat) (S:Sta) (op:Int),Inv S op→Kept S (cServe f S op).1
 | 0,S,op,_=>⟨rfl,rfl,⟨rfl,rfl,rfl⟩,fun _ h _=>h,List.Sublist.refl _,by show (S.srv.length:Int)≤_;omega⟩
 | f+1,S,op,hI=>by
  have he:=Zbi hI S.wts 0 (by simp);rw [cServe];cases hc:cFirst S op S.wts with
  | none=>exact ⟨rfl,rfl,⟨rfl,rfl,rfl⟩,fun _ h _=>h,List.Sublist.refl _,by show (S.srv.length:Int)≤_;omega⟩
  | some y =>
   rw [hc] at he;obtain ⟨j,c,hj,_,hl⟩:=ZaB (S:=S) (S':=y.1) (op:=op) (nx:=y.2+1) S.wts 0 (by simp) (by rw [←he];rfl);have hst:=Zbk hI hl;have hI2:Inv y.1 y.2:=by have:=hst.inv;rwa [show y.2+1 - 1=y.2 by omega] at this
   have ih:=ZdM f y.1 y.2 hI2;refine ⟨ih.pools.trans hst.pools,ih.bud.trans hst.bud,⟨ih.rest.1.trans hst.rest.1,ih.rest.2.1.trans hst.rest.2.1,ih.rest.2.2.trans hst.rest.2.2⟩,fun x hx hx0=>ih.keep x (hst.keep x hx hx0) hx0,ih.sub.trans (by rw [hst.wts];exact List.eraseIdx_sublist _ _),?_⟩;have h1:=ih.len;have h2:=hst.len;rw [hst.bud] at h1;show ((cServe f y.1 y.2).1.srv.length:Int)≤_;omega
theorem Zc8 {S:Sta} {nx:Int} {c:Wtr} {i j:Nat} {l:List Wtr}:(rLent S nx i c).isSome=(rLent {S with wts:=l} nx j c).isSome:=by
 unfold rLent rRoom;simp only;cases S.pools.find? (isNameP c.pool) with
 | none=>rfl
 | some x =>
  simp only;cases S.srv.findIdx? (isIdle c.pool false) with
  | some k=>rfl
  | none =>
   simp only;split
   ·rfl
   ·split <;> rfl
theorem ZaX {S:Sta} {nx:Int}:∀ (l:List Wtr) (i:Nat),rFirst S nx i l=none↔∀ c∈l,(rLent S nx 0 c).isSome=false
 | [],i=>by simp [rFirst]
 | c :: r,i=>by
  have hw:(rLent S nx i c).isSome=(rLent S nx 0 c).isSome:=Zc8 (l:=S.wts);rw [rFirst];cases hl:rLent S nx i c with
  | none =>
   rw [hl] at hw;simp only;rw [ZaX r (i+1)];constructor
   ·intro h d hd;rcases List.mem_cons.1 hd with rfl | hd
    ·rw [←hw];rfl
    ·exact h d hd
   ·intro h d hd;exact h d (List.mem_cons_of_mem _ hd)
  | some y =>
   rw [hl] at hw;simp only [reduceCtorEq,false_iff];intro h;have:=h c List.mem_cons_self;rw [←hw] at this;simp at this
theorem Zcw {S:Sta} {op:Int} (hI:Inv S op) (hst:Still S op) {c:Wtr} (hn:∀ x∈S.wts,x.client≠c.client) (hc0:c.client≠0) :
  Inv {S with wts:=S.wts++[c]} op ∧
  ((cServe (S.wts++[c]).length {S with wts:=S.wts++[c]} op=({S with wts:=S.wts++[c]},op))∨∃ x∈(cServe (S.wts++[c]).length {S with wts:=S.wts++[c]} op).1.srv,x.client=c.client):=by
 have hI1:Inv {S with wts:=S.wts++[c]} op:=⟨hI.ids,hI.low,hI.op0,by
  rw [List.pairwise_append];refine ⟨hI.cli,by simp,fun a ha b hb=>?_⟩;simp at hb;subst hb;exact hn a ha⟩
 refine ⟨hI1,?_⟩;have hlen:(S.wts++[c]).length=S.wts.length+1:=by simp
 rw [hlen,cServe];have he:=Zbi hI1 (S.wts++[c]) 0 (by simp);cases hc:cFirst {S with wts:=S.wts++[c]} op (S.wts++[c]) with
 | none=>left;rfl
 | some y =>
  right;rw [hc] at he;obtain ⟨j,d,hj,_,hl⟩:=ZaB (S:={S with wts:=S.wts++[c]}) (S':=y.1) (op:=op) (nx:=y.2+1) (S.wts++[c]) 0 (by simp) (by rw [←he];rfl);have hstp:=Zbk hI1 hl;have hI2:Inv y.1 y.2:=by have:=hstp.inv;rwa [show y.2+1 - 1=y.2 by omega] at this
  have hd:d=c:=by
   have hmem:d∈S.wts++[c]:=List.mem_of_getElem? hj;rcases List.mem_append.1 hmem with h | h
   ·have h1:=(ZaX S.wts 0).1 hst d h;have h2:(rLent S (op+1) 0 d).isSome=(rLent {S with wts:=S.wts++[c]} (op+1) j d).isSome:=Zc8;rw [h1,hl] at h2;simp at h2
   ·simpa using h
  subst hd;obtain ⟨x,hx,hxc⟩:=hstp.got;exact ⟨x,(ZdM _ _ _ hI2).keep x hx (by rw [hxc];exact hc0),hxc⟩
structure Res where
 S:Sta
 op:Int
 id:Int
 err:Nat
def okCli (c:Int):Bool:=decide (1≤c)&&decide (c≤99)
def joined (S:Sta) (c:Int) (nm:ByteArray):Sta:={S with wts:=S.wts++[(⟨c,nm⟩:Wtr)]}
def cAsked (S:Sta) (op:Int) (c:Int) (nm:ByteArray):Sta×Int:=cServe (S.wts.length+1) (joined S c nm) op
def rAsked (S:Sta) (nx:Int) (c:Int) (nm:ByteArray):Sta×Int:=rServed (S.wts.length+1) (joined S c nm) nx
def cAsk (S:Sta) (op:Int) (c:Int) (name:ByteArray):Res:=
 if okCli c=false then ⟨S,op,0,10⟩
 else if ((S.srv.find? (isCliV c)).isSome||(S.wts.find? (isCliW c)).isSome)=true then ⟨S,op,0,11⟩
 else match S.pools.find? (isNameP name) with
  | none=>⟨S,op,0,12⟩
  | some x=>match (cAsked S op c x.nm).1.srv.find? (isCliV c) with
   | some s=>⟨(cAsked S op c x.nm).1,(cAsked S op c x.nm).2,s.id,0⟩
   | none=>if x.wt<(cntG (isPoolW x.nm) (cAsked S op c x.nm).1.wts:Int) then ⟨cQuit (cAsked S op c x.nm).1 c,(cAsked S op c x.nm).2,0,13⟩
    else ⟨(cAsked S op c x.nm).1,(cAsked S op c x.nm).2,0,0⟩
def rAsk (S:Sta) (nx:Int) (c:Int) (name:ByteArray):Res:=
 if okCli c=false then ⟨S,nx,0,10⟩
 else if ((S.srv.find? (isCliV c)).isSome||(S.wts.find? (isCliW c)).isSome)=true then ⟨S,nx,0,11⟩
 else match S.pools.find? (isNameP name) with
  | none=>⟨S,nx,0,12⟩
  | some x=>match (rAsked S nx c name).1.srv.find? (isCliV c) with
   | some s=>⟨(rAsked S nx c name).1,(rAsked S nx c name).2,s.id,0⟩
   | none=>if x.wt<(cntG (isPoolW name) (rAsked S nx c name).1.wts:Int) then ⟨S,nx,0,13⟩
    else ⟨(rAsked S nx c name).1,(rAsked S nx c name).2,0,0⟩
def Same (a b:Res):Prop:=a.S=b.S∧a.op+1=b.op∧a.id=b.id∧a.err=b.err
theorem Zae {α:Type} {p:α→Bool} {l:List α} (h:(l.find? p).isSome=false):∀ x∈l,p x=false:=by
 intro x hx;cases hp:p x with
 | false=>rfl
 | true =>
  have:(l.find? p).isSome=true:=List.find?_isSome.2 ⟨x,hx,hp⟩;rw [h] at this;simp at this
theorem Zhq {S:Sta} {op:Int} (hI:Inv S op) (hst:Still S op) (c:Int) (name:ByteArray) :
  Same (cAsk S op c name) (rAsk S (op+1) c name)∧Inv (cAsk S op c name).S (cAsk S op c name).op∧Still (cAsk S op c name).S (cAsk S op c name).op:=by
 unfold cAsk rAsk;by_cases h0:okCli c=false
 ·rw [if_pos h0,if_pos h0];exact ⟨⟨rfl,rfl,rfl,rfl⟩,hI,hst⟩
 ·rw [if_neg h0,if_neg h0];by_cases h1:((S.srv.find? (isCliV c)).isSome||(S.wts.find? (isCliW c)).isSome)=true
  ·rw [if_pos h1,if_pos h1];exact ⟨⟨rfl,rfl,rfl,rfl⟩,hI,hst⟩
  ·rw [if_neg h1,if_neg h1];cases hf:S.pools.find? (isNameP name) with
   | none=>exact ⟨⟨rfl,rfl,rfl,rfl⟩,hI,hst⟩
   | some x =>
    have hx:=Zbu hf;simp only;rw [hx];have hc0:c≠0:=by
     intro e;rw [e] at h0;exact h0 (by decide)
    have hw:(S.wts.find? (isCliW c)).isSome=false:=by
     cases hh:(S.wts.find? (isCliW c)).isSome with
     | false=>rfl
     | true=>rw [hh] at h1;simp at h1
    have hn:∀ y∈S.wts,y.client≠c:=by
     intro y hy e;have:=Zae hw y hy;simp [isCliW,e] at this
    have hor:=(Zcw (c:=(⟨c,name⟩:Wtr)) hI hst hn hc0).2;have hI1:Inv (joined S c name) op:=(Zcw (c:=(⟨c,name⟩:Wtr)) hI hst hn hc0).1;have hl:(S.wts++[(⟨c,name⟩:Wtr)]).length=S.wts.length+1:=by simp
    rw [hl] at hor;have hor':cAsked S op c name=(joined S c name,op)∨∃ x∈(cAsked S op c name).1.srv,x.client=c:=hor;have he:((cAsked S op c name).1,(cAsked S op c name).2+1)=rAsked S (op+1) c name:=(Z4 (S.wts.length+1) (joined S c name) op hI1).1;have hI2:Inv (cAsked S op c name).1 (cAsked S op c name).2:=(Z4 (S.wts.length+1) (joined S c name) op hI1).2;have hs2:Still (cAsked S op c name).1 (cAsked S op c name).2:=Zac (S.wts.length+1) (joined S c name) op hI1 (by simp [joined]);rw [←he];obtain ⟨⟨T,t⟩,hT⟩:∃ y,cAsked S op c name=y:=⟨_,rfl⟩;rw [hT] at hor' hI2 hs2 ⊢;simp only at hor' hI2 hs2 ⊢;cases hh:T.srv.find? (isCliV c) with
    | some s=>exact ⟨⟨rfl,rfl,rfl,rfl⟩,hI2,hs2⟩
    | none =>
     simp only;have hno:∀ y∈T.srv,isCliV c y=false:=Zae (by rw [hh];rfl);have hT1:joined S c name=T∧op=t:=by
      rcases hor' with h | ⟨y,hy,hyc⟩
      ·simp only [Prod.mk.injEq] at h;exact ⟨h.1.symm,h.2.symm⟩
      ·have:=hno y hy;simp [isCliV,hyc] at this
     obtain ⟨rfl,rfl⟩:=hT1;split
     ·have hq:cQuit (joined S c name) c=S:=by
       unfold cQuit joined;simp only;have:(S.wts++[(⟨c,name⟩:Wtr)]).filter (fun x=>!decide (x.client=c))=S.wts:=by
        rw [List.filter_append,List.filter_eq_self.2 (fun y hy=>by simp [hn y hy])];simp
       rw [this]
      refine ⟨⟨hq,rfl,rfl,rfl⟩,?_,?_⟩
      ·show Inv (cQuit _ c) op;rw [hq];exact hI
      ·show Still (cQuit _ c) op;rw [hq];exact hst
     ·exact ⟨⟨rfl,rfl,rfl,rfl⟩,hI2,hs2⟩
def cLeave (S:Sta) (op:Int) (c:Int):Res:=if okCli c=false then ⟨S,op,0,10⟩ else if (S.wts.find? (isCliW c)).isSome=false then ⟨S,op,0,14⟩ else ⟨cQuit S c,op,0,0⟩
def rLeave (S:Sta) (nx:Int) (c:Int):Res:=if okCli c=false then ⟨S,nx,0,10⟩ else match S.wts.findIdx? (isCliW c) with | none=>⟨S,nx,0,14⟩ | some i=>⟨rLeft S i,nx,0,0⟩
theorem Zhw {S:Sta} {op:Int} {l:List Wtr} (hst:Still S op) (h:∀ x∈l,x∈S.wts):Still {S with wts:=l} op:=by
 unfold Still at *;rw [ZaX] at hst ⊢;intro d hd;have h2:(rLent S (op+1) 0 d).isSome=(rLent {S with wts:=l} (op+1) 0 d).isSome:=Zc8;rw [←h2];exact hst d (h d hd)
theorem ZfF {S:Sta} {op:Int} (hI:Inv S op) (hst:Still S op) (c:Int) :
  Same (cLeave S op c) (rLeave S (op+1) c)∧Inv (cLeave S op c).S (cLeave S op c).op∧Still (cLeave S op c).S (cLeave S op c).op:=by
 unfold cLeave rLeave;by_cases h0:okCli c=false
 ·rw [if_pos h0,if_pos h0];exact ⟨⟨rfl,rfl,rfl,rfl⟩,hI,hst⟩
 ·rw [if_neg h0,if_neg h0];obtain ⟨f1,f2⟩:=ZB (isCliW c) S.wts;cases hk:S.wts.findIdx? (isCliW c) with
  | none=>rw [f2 hk];exact ⟨⟨rfl,rfl,rfl,rfl⟩,hI,hst⟩
  | some i =>
   obtain ⟨s,hs,hs2⟩:=f1 i hk;rw [hs2];simp only [Option.isSome_some,Bool.true_eq_false,if_false];have hc:s.client=c:=by have:=List.find?_some hs2;simpa [isCliW] using this
   have hq:cQuit S c=rLeft S i:=by
    unfold cQuit rLeft;rw [←hc,Z3 S.wts hI.cli i s hs]
   refine ⟨⟨hq,rfl,rfl,rfl⟩,?_,?_⟩
   ·show Inv (cQuit S c) op;rw [hq];exact ⟨hI.ids,hI.low,hI.op0,hI.cli.sublist (List.eraseIdx_sublist _ _)⟩
   ·show Still (cQuit S c) op;rw [hq];exact Zhw hst (fun x hx=>(List.eraseIdx_sublist _ _).subset hx)
def cCrash (S:Sta) (op:Int) (id:Int):Res:=if (S.srv.find? (fun x=>x.id == id)).isSome=false then ⟨S,op,0,15⟩ else ⟨(cServe S.wts.length (cShut S id) op).1,(cServe S.wts.length (cShut S id) op).2,0,0⟩
def rCrash (S:Sta) (nx:Int) (id:Int):Res:=match S.srv.findIdx? (fun x=>x.id == id) with | none=>⟨S,nx,0,15⟩ | some i=>⟨(rServed S.wts.length (rClosed S i) nx).1,(rServed S.wts.length (rClosed S i) nx).2,0,0⟩
theorem ZaT {S:Sta} {op:Int} (hI:Inv S op) (i:Nat):Inv (rClosed S i) op:=
 ⟨hI.ids.sublist (List.eraseIdx_sublist _ _),fun x hx=>hI.low x ((List.eraseIdx_sublist _ _).subset hx),hI.op0,hI.cli⟩
theorem Zfp {S:Sta} {op:Int} (hI:Inv S op) (hst:Still S op) (id:Int) :
  Same (cCrash S op id) (rCrash S (op+1) id)∧Inv (cCrash S op id).S (cCrash S op id).op∧Still (cCrash S op id).S (cCrash S op id).op:=by
 unfold cCrash rCrash;obtain ⟨f1,f2⟩:=ZB (fun x:Srv=>x.id == id) S.srv;cases hk:S.srv.findIdx? (fun x=>x.id == id) with
 | none=>rw [f2 hk];exact ⟨⟨rfl,rfl,rfl,rfl⟩,hI,hst⟩
 | some i =>
  obtain ⟨s,hs,hs2⟩:=f1 i hk;rw [hs2];simp only [Option.isSome_some,Bool.true_eq_false,if_false];have hc:s.id=id:=by have:=List.find?_some hs2;simpa using this
  have hq:cShut S id=rClosed S i:=by
   unfold cShut rClosed;rw [←hc,Zal S.srv hI.ids i s hs]
  rw [hq];have hI1:=ZaT hI i;obtain ⟨he,hI2⟩:=Z4 S.wts.length (rClosed S i) op hI1;rw [←he];exact ⟨⟨rfl,rfl,rfl,rfl⟩,hI2,Zac S.wts.length (rClosed S i) op hI1 (Nat.le_refl _)⟩
def isSur (S:Sta) (s:Srv):Bool:=
 match S.pools.find? (isNameP s.pool) with
 | none=>true
 | some x=>!decide (s.far=x.fr)||decide (x.sz<(cntG (isPoolV s.pool) S.srv:Int))||decide (S.bud<(S.srv.length:Int))
def cDone (S:Sta) (op:Int) (c:Int):Res:=
 if okCli c=false then ⟨S,op,0,10⟩
 else match S.srv.find? (isCliV c) with
  | none=>⟨S,op,0,14⟩
  | some s=>let T:=if isSur (cHand S s.id 0) s=true then cShut (cHand S s.id 0) s.id else cHand S s.id 0
   ⟨(cServe S.wts.length T op).1,(cServe S.wts.length T op).2,0,0⟩
def rDone (S:Sta) (nx:Int) (c:Int):Res:=
 if okCli c=false then ⟨S,nx,0,10⟩
 else match S.srv.findIdx? (isCliV c) with
  | none=>⟨S,nx,0,14⟩
  | some i=>match S.srv[i]? with
   | none=>⟨S,nx,0,14⟩
   | some s=>let T:=if isSur (rSet S i 0) s=true then rClosed (rSet S i 0) i else rSet S i 0
    ⟨(rServed S.wts.length T nx).1,(rServed S.wts.length T nx).2,0,0⟩
theorem Zeh:∀ (l:List Srv) (k:Nat) (c:Int) (s:Srv),l[k]?=some s→(l.modify k (fun x=>{x with client:=c}))[k]?=some {s with client:=c}
 | [],k,c,s,h=>by simp at h
 | y :: r,0,c,s,h=>by simp at h;subst h;simp
 | y :: r,k+1,c,s,h=>by
  simp only [List.modify_succ_cons,List.getElem?_cons_succ];exact Zeh r k c s (by simpa using h)
theorem Zj5 {S:Sta} {op:Int} (hI:Inv S op) (k:Nat) (c:Int):Inv (rSet S k c) op:=
 ⟨Zen _ _ _ hI.ids,fun x hx=>by
  obtain ⟨z,hz,e,_⟩:=ZcQ _ _ _ _ hx;rw [e];exact hI.low z hz,hI.op0,hI.cli⟩
theorem Zgv {S:Sta} {op:Int} (hI:Inv S op) (hst:Still S op) (c:Int) :
  Same (cDone S op c) (rDone S (op+1) c)∧Inv (cDone S op c).S (cDone S op c).op∧Still (cDone S op c).S (cDone S op c).op:=by
 unfold cDone rDone;by_cases h0:okCli c=false
 ·rw [if_pos h0,if_pos h0];exact ⟨⟨rfl,rfl,rfl,rfl⟩,hI,hst⟩
 ·rw [if_neg h0,if_neg h0];obtain ⟨f1,f2⟩:=ZB (isCliV c) S.srv;cases hk:S.srv.findIdx? (isCliV c) with
  | none=>rw [f2 hk];exact ⟨⟨rfl,rfl,rfl,rfl⟩,hI,hst⟩
  | some i =>
   obtain ⟨s,hs,hs2⟩:=f1 i hk;rw [hs2];simp only;rw [hs];simp only;have hh:cHand S s.id 0=rSet S i 0:=by
    unfold cHand rSet;rw [Zb7 S.srv hI.ids i s 0 hs]
   have hI1:=Zj5 hI i 0;have hsh:cShut (rSet S i 0) s.id=rClosed (rSet S i 0) i:=by
    unfold cShut rClosed;have hg:=Zeh S.srv i 0 s hs;exact congrArg (fun l=>({rSet S i 0 with srv:=l}:Sta)) (Zal (rSet S i 0).srv hI1.ids i {s with client:=0} hg)
   rw [hh,hsh];have hI2:Inv (if isSur (rSet S i 0) s=true then rClosed (rSet S i 0) i else rSet S i 0) op:=by
    split
    ·exact ZaT hI1 i
    ·exact hI1
   have hw:(if isSur (rSet S i 0) s=true then rClosed (rSet S i 0) i else rSet S i 0).wts=S.wts:=by
    split <;> rfl
   obtain ⟨T,hT⟩:∃ T,(if isSur (rSet S i 0) s=true then rClosed (rSet S i 0) i else rSet S i 0)=T:=⟨_,rfl⟩;rw [hT] at hI2 hw ⊢;obtain ⟨he,hI3⟩:=Z4 S.wts.length T op hI2;rw [←he];exact ⟨⟨rfl,rfl,rfl,rfl⟩,hI3,Zac S.wts.length T op hI2 (by rw [hw];exact Nat.le_refl _)⟩
end Lw
end Go.Proofs.YtcpikklofilkcaaGreat
