import Derived.Test.YtcpikklofilkcaaGreatNqU
set_option maxRecDepth 100000
set_option maxHeartbeats 16000000
namespace Go.Proofs.YtcpikklofilkcaaGreat
open Go.RowKit
namespace Lw
open Co
theorem cNot {l:List Wtr} {c:Int} (h:(l.find? (isCliW c)).isSome=false):∀ y∈l,y.client≠c:=by
 intro y hy e;have:=Zae h y hy;simp [isCliW,e] at this
theorem Inv.join {S:Sta} {op:Int} (h:Inv S op) {c:Int} {nm:ByteArray} (hn:∀ y∈S.wts,y.client≠c):Inv (joined S c nm) op:=by
 refine ⟨h.ids,h.low,h.op0,?_⟩;show (S.wts++[(⟨c,nm⟩:Wtr)]).Pairwise _;rw [List.pairwise_append];refine ⟨h.cli,by simp,fun a ha b hb=>?_⟩;rw [List.mem_singleton.1 hb];exact hn a ha
theorem Zc4 {S:Sta} {op:Int} (h:Inv S op) (p:Srv→Bool):Inv {S with srv:=S.srv.filter p} op:=⟨h.ids.sublist List.filter_sublist,fun x hx=>h.low x (List.mem_filter.1 hx).1,h.op0,h.cli⟩
theorem Zjo {S:Sta} {op:Int} (h:Inv S op) (id c:Int):Inv (cHand S id c) op:=by
 have he:∀ x:Srv,(if x.id=id then {x with client:=c} else x).id=x.id:=fun x=>by split <;> rfl
 refine ⟨?_,?_,h.op0,h.cli⟩
 ·show (S.srv.map _).Pairwise _;rw [List.pairwise_map];exact h.ids.imp (fun {a b} hab=>by rw [he,he];exact hab)
 ·intro x hx;obtain ⟨y,hy,rfl⟩:=List.mem_map.1 hx;rw [he];exact h.low y hy
theorem Ok.serve {S:Sta} {op:Int} (h:Ok S op) (f:Nat):Ok (cServe f S op).1 (cServe f S op).2:=by
 have hp:=Z9 f S op;exact ⟨(Z4 f S op h.inv).2,Int.le_trans hp.1 h.pot,by rw [hp.2.2.1];exact h.pools⟩
def AskG (r:Res) (w w':World) (gp:Nat) (X:Aux) (F:Nat→Prop) (e:Ending):Prop:=
 e=.returned (.tuple #[.int .i64 r.id,.int .i64 (r.err:Int)])∧Moved w w' gp r.S {X with op:=r.op} F
def DoneG (r:Res) (w w':World) (gp:Nat) (X:Aux) (F:Nat→Prop) (e:Ending):Prop:=
 e=.returned (.int .i64 (r.err:Int))∧Moved w w' gp r.S {X with op:=r.op} F
theorem dLeave (gp:Nat) (c:Int) (S:Sta) (X:Aux) (F:Nat→Prop) (w:World) (h:DeskAt w gp S X F) (hok:Ok S X.op) :
  Calls Tryz.prog 72 #[.pointer (some ⟨gp,0,none⟩),.int .i64 c] w fun e w'=>DoneG (cLeave S X.op c) w w' gp X F e:=by
 obtain ⟨po,pc,so,sc,wo,wc,yo,yc,ho,hc,hx⟩:=h.ex;have hL:=hok.inv.op0;have hP:=hok.pot;unfold pot at hP;simp only at hP;have hq3:S.wts.length≤1099511627776:=by omega
 obtain ⟨g0,g1,g2,g3,g4,gz⟩:=blk5d hx.box;have HIC:=hideIt (cIsClient c w);have HW:=hideIt (cWaits wo _ wc c S.wts w (Zd hx.t.own) rfl (by unfold maxLen;omega));have HQ:=hideIt (dQuit gp c S X F w h hq3);have HH:=hideIt h;clear h hx hok hL hP;obtain ⟨kb,hkb⟩:∃ b,okCli c=b:=⟨_,rfl⟩;have HKB:=hideIt hkb;unfold okCli at hkb;rw [hkb] at HIC;obtain ⟨wb,hwb⟩:∃ b,(S.wts.find? (isCliW c)).isSome=b:=⟨_,rfl⟩;have HWB:=hideIt hwb;rw [hwb] at HW;clear hkb hwb;go_enter Tryz.func72,Tryz.ntmps72
 go_wp2_with fail
 refine HIC.out.mono ?_;rintro e w1 ⟨rfl,h1⟩;obtain rfl:=h1.symm;cases kb with
 | false =>
  have HR:Hid (cLeave S X.op c=⟨S,X.op,0,10⟩):=by
   show _=_;unfold cLeave;rw [if_pos HKB.out]
  go_wp2_with fail
  go_ret
  rw [HR.out];exact ⟨rfl,Moved.refl HH.out⟩
 | true =>
  go_wp2_with fail
  refine HW.out.mono ?_;rintro e w1 ⟨rfl,h1⟩;obtain rfl:=h1.symm;cases wb with
  | false =>
   have HR:Hid (cLeave S X.op c=⟨S,X.op,0,14⟩):=by
    show _=_;unfold cLeave;rw [if_neg (by rw [HKB.out];simp),if_pos HWB.out]
   go_wp2_with fail
   go_ret
   rw [HR.out];exact ⟨rfl,Moved.refl HH.out⟩
  | true =>
   have HR:Hid (cLeave S X.op c=⟨cQuit S c,X.op,0,0⟩):=by
    show _=_;unfold cLeave;rw [if_neg (by rw [HKB.out];simp),if_neg (by rw [HWB.out];simp)]
   go_wp2_with fail
   refine HQ.out.mono ?_;rintro e w2 ⟨⟨x,rfl⟩,hm⟩;have KF:=hideIt hm;clear hm g0 g1 g2 g3 g4 gz;go_wp2_with fail
   go_ret
   rw [HR.out];exact ⟨rfl,KF.out⟩
theorem dCrash (gp:Nat) (id:Int) (S:Sta) (X:Aux) (F:Nat→Prop) (w:World) (h:DeskAt w gp S X F) (hok:Ok S X.op) :
  Calls Tryz.prog 74 #[.pointer (some ⟨gp,0,none⟩),.int .i64 id] w fun e w'=>DoneG (cCrash S X.op id) w w' gp X F e:=by
 obtain ⟨po,pc,so,sc,wo,wc,yo,yc,ho,hc,hx⟩:=h.ex;have hL:=hok.inv.op0;have hP:=hok.pot;have hLn:=hok.inv.len;unfold pot at hP;simp only at hP;have hq3:S.srv.length≤1099511627776:=by omega
 obtain ⟨g0,g1,g2,g3,g4,gz⟩:=blk5d hx.box;have HW:=hideIt (cIsServer so _ sc id S.srv w (Zd hx.s.own) rfl (by unfold maxLen;omega));have HQ:=hideIt (dShut gp id S X F w h hq3);have HH:=hideIt h;have HOK:Hid (Ok (cShut S id) X.op):=⟨Zc4 hok.inv _,hok.pot,hok.pools⟩;clear h hx hok hL hP hLn;obtain ⟨wb,hwb⟩:∃ b,(S.srv.find? (isId id)).isSome=b:=⟨_,rfl⟩;have HWB:Hid ((S.srv.find? (fun x=>x.id == id)).isSome=wb):=hwb;rw [hwb] at HW;clear hwb;go_enter Tryz.func74,Tryz.ntmps74
 go_wp2_with fail
 refine HW.out.mono ?_;rintro e w1 ⟨rfl,h1⟩;obtain rfl:=h1.symm;cases wb with
 | false =>
  have HR:Hid (cCrash S X.op id=⟨S,X.op,0,15⟩):=by
   show _=_;unfold cCrash;rw [if_pos HWB.out]
  go_wp2_with fail
  go_ret
  rw [HR.out];exact ⟨rfl,Moved.refl HH.out⟩
 | true =>
  have HR:Hid (cCrash S X.op id=⟨(cServe S.wts.length (cShut S id) X.op).1,(cServe S.wts.length (cShut S id) X.op).2,0,0⟩):=by
   show _=_;unfold cCrash;rw [if_neg (by rw [HWB.out];simp)]
  go_wp2_with fail
  refine HQ.out.mono ?_;rintro e w2 ⟨⟨x,rfl⟩,hm⟩;obtain ⟨F1,hd,hnx⟩:=hm.step;have HSV:=hideIt (dServe gp (cShut S id) X F1 w2 hd HOK.out);have HNX:=hideIt hnx;clear hm hd hnx g0 g1 g2 g3 g4 gz;go_wp2_with fail
  refine HSV.out.mono ?_;rintro e w3 ⟨⟨x,rfl⟩,hm⟩;have KF:=hideIt (HNX.out _ _ _ hm);clear hm;go_wp2_with fail
  go_ret
  rw [HR.out];exact ⟨rfl,KF.out⟩
theorem dDone (gp:Nat) (c:Int) (S:Sta) (X:Aux) (F:Nat→Prop) (w:World) (h:DeskAt w gp S X F) (hok:Ok S X.op) :
  Calls Tryz.prog 69 #[.pointer (some ⟨gp,0,none⟩),.int .i64 c] w fun e w'=>DoneG (cDone S X.op c) w w' gp X F e:=by
 obtain ⟨po,pc,so,sc,wo,wc,yo,yc,ho,hc,hx⟩:=h.ex;have hL:=hok.inv.op0;have hP:=hok.pot;have hLn:=hok.inv.len;unfold pot at hP;simp only at hP;have hq3:S.srv.length≤1099511627776:=by omega
 have hgplt:gp<w.heap.size:=h.lt gp h.gp;obtain ⟨g0,g1,g2,g3,g4,gz⟩:=blk5d hx.box;have HIC:=hideIt (cIsClient c w);have HB:=hideIt (cHeldBy so _ sc c S.srv w (Zd hx.s.own) rfl (by unfold maxLen;omega));have HZ:=hideIt (Zbc (p:=isCliV c) hok.inv.nz);have HH:=hideIt h;have HOK:=hideIt hok;obtain ⟨⟨x0,x1,x2,x3⟩,hx0⟩:∃ x,orS (S.srv.find? (isCliV c))=x:=⟨_,rfl⟩;rw [hx0] at HB HZ;simp only at HZ;have HX0:=hideIt hx0;clear h hx hok hL hP hLn hx0;obtain ⟨kb,hkb⟩:∃ b,okCli c=b:=⟨_,rfl⟩;have HKB:=hideIt hkb;unfold okCli at hkb;rw [hkb] at HIC;clear hkb;go_enter Tryz.func69,Tryz.ntmps69
 go_wp2_with fail
 refine HIC.out.mono ?_;rintro e w1 ⟨rfl,h1⟩;obtain rfl:=h1.symm;cases kb with
 | false =>
  have HR:Hid (cDone S X.op c=⟨S,X.op,0,10⟩):=by
   show _=_;unfold cDone;rw [if_pos HKB.out]
  go_wp2_with fail
  go_ret
  rw [HR.out];exact ⟨rfl,Moved.refl HH.out⟩
 | true =>
  go_wp2_with fail
  refine HB.out.mono ?_;rintro e w1 ⟨rfl,hb1⟩;obtain ⟨W1,hW1⟩:∃ W1,W1=w1.alloc (bSv x0 x1 x2 x3):=⟨_,rfl⟩;have hbW:Below w.heap.size w W1:=by rw [hW1];exact Za hb1 (Zb _ _)
  have KW:Hid (W1=w1.alloc (bSv x0 x1 x2 x3)∧W1.heap[w1.heap.size]?=some (bSv x0 x1 x2 x3)∧Below w.heap.size w W1∧¬F w1.heap.size):=⟨hW1,by rw [hW1];exact Zc _ _ rfl,hbW,fun hf=>by have:=HH.out.lt _ hf;have:=hb1.size;omega⟩;have HD1:Hid (DeskAt W1 gp S X F):=HH.out.keep (G:=fun _=>False) (Chg.of_below hbW) (fun _ _ h=>h);clear hb1 hW1 hbW g0 g1 g2 g3 g4 gz HB;go_upto_region 4 with fail
  rw [←KW.out.1];obtain ⟨y0,y1,y2,y3,yz⟩:=blk4d KW.out.2.1;cases hz:(x0 == 0) with
  | true =>
   have HR:Hid (cDone S X.op c=⟨S,X.op,0,14⟩):=by
    show _=_;unfold cDone;rw [if_neg (by rw [HKB.out];simp)];cases hf:S.srv.find? (isCliV c) with
    | none=>rfl
    | some s=>have:=HZ.out;rw [hz,hf] at this;simp at this
   go_wp2_with fail
   go_ret
   rw [HR.out];exact ⟨rfl,(Moved.refl HH.out).below KW.out.2.2.1⟩
  | false =>
   have HFS:Hid (S.srv.find? (isCliV c)=some ⟨x0,x1,x2,x3⟩):=by
    show _=_;cases hf:S.srv.find? (isCliV c) with
    | none=>have:=HZ.out;rw [hz,hf] at this;simp at this
    | some s=>have:=HX0.out;rw [hf] at this;exact congrArg some this
   have HHD:=hideIt (dHand gp x0 0 S X F W1 HD1.out hq3);go_wp2_with fail
   refine HHD.out.mono ?_;rintro e w2 ⟨⟨x,rfl⟩,hm2⟩;have hch2:=hm2;obtain ⟨_,_,_,hch2⟩:=hch2;have hs2:w2.heap[w1.heap.size]?=some (bSv x0 x1 x2 x3):=(hch2.block _ (Array.getElem?_eq_some_iff.1 KW.out.2.1).1 KW.out.2.2.2).trans KW.out.2.1;obtain ⟨F2,hd2,hnx2⟩:=hm2.step;have HOK2:Hid (Ok (cHand S x0 0) X.op):=⟨Zjo HOK.out.inv _ _,HOK.out.pot,HOK.out.pools⟩;have hl2:(cHand S x0 0).srv.length≤1099511627776:=by
    show (S.srv.map _).length≤_;rw [List.length_map];exact hq3
   have HSU:=hideIt (dSurplus gp x0 x1 x2 x3 (cHand S x0 0) X F2 w2 hd2 hl2 HOK.out.pools);have K2:Hid (DeskAt w2 gp (cHand S x0 0) X F2∧(∀ w3 S2 X2,Moved w2 w3 gp S2 X2 F2→Moved W1 w3 gp S2 X2 F)∧w2.heap[w1.heap.size]?=some (bSv x0 x1 x2 x3)∧(cHand S x0 0).srv.length≤1099511627776):=⟨hd2,hnx2,hs2,hl2⟩;clear hm2 hch2 hs2 hd2 hnx2 hl2 y0 y1 y2 y3 yz HHD;obtain ⟨y0,y1,y2,y3,yz⟩:=blk4d K2.out.2.2.1;go_wp2_with fail
   refine HSU.out.mono ?_;rintro e w3 ⟨rfl,hb3⟩;have HCD:Hid (cDone S X.op c=⟨(cServe S.wts.length (if isSur (cHand S x0 0) ⟨x0,x1,x2,x3⟩=true then cShut (cHand S x0 0) x0 else cHand S x0 0) X.op).1,(cServe S.wts.length (if isSur (cHand S x0 0) ⟨x0,x1,x2,x3⟩=true then cShut (cHand S x0 0) x0 else cHand S x0 0) X.op).2,0,0⟩):=by
    show _=_;unfold cDone;rw [if_neg (by rw [HKB.out];simp),HFS.out]
   have hs3:w3.heap[w1.heap.size]?=some (bSv x0 x1 x2 x3):=(hb3.block _ (Array.getElem?_eq_some_iff.1 K2.out.2.2.1).1).trans K2.out.2.2.1;have KD3:Hid (DeskAt w3 gp (cHand S x0 0) X F2∧Below w2.heap.size w2 w3):=⟨K2.out.1.keep (G:=fun _=>False) (Chg.of_below hb3) (fun _ _ h=>h),hb3⟩;clear y0 y1 y2 y3 yz hb3;obtain ⟨y0,y1,y2,y3,yz⟩:=blk4d hs3;clear hs3 HSU;cases hsu:isSur (cHand S x0 0) ⟨x0,x1,x2,x3⟩ with
   | true =>
    rw [hsu,if_pos rfl] at HCD;have HSH:=hideIt (dShut gp x0 (cHand S x0 0) X F2 w3 KD3.out.1 K2.out.2.2.2);clear hsu;go_wp2_with fail
    refine HSH.out.mono ?_;rintro e w4 ⟨⟨x,rfl⟩,hm4⟩;have hm4':=K2.out.2.1 _ _ _ (Moved.after KD3.out.2 hm4);obtain ⟨F4,hd4,hnx4⟩:=hm4'.step;have HSV:=hideIt (dServe gp (cShut (cHand S x0 0) x0) X F4 w4 hd4 ⟨Zc4 HOK2.out.inv _,HOK2.out.pot,HOK2.out.pools⟩);have HNX:=hideIt hnx4;clear hm4 hm4' hd4 hnx4 y0 y1 y2 y3 yz;go_wp2_with fail
    refine HSV.out.mono ?_;rintro e w5 ⟨⟨x,rfl⟩,hm⟩;have KF:=hideIt (Moved.after KW.out.2.2.1 (HNX.out _ _ _ hm));clear hm;go_wp2_with fail
    go_ret
    rw [HCD.out];exact ⟨rfl,KF.out⟩
   | false =>
    rw [hsu,if_neg (by simp)] at HCD;have hm4':=K2.out.2.1 _ _ _ (Moved.after KD3.out.2 (Moved.refl KD3.out.1));obtain ⟨F4,hd4,hnx4⟩:=hm4'.step;have HSV:=hideIt (dServe gp (cHand S x0 0) X F4 w3 hd4 HOK2.out);have HNX:=hideIt hnx4;clear hm4' hd4 hnx4 hsu;go_wp2_with fail
    refine HSV.out.mono ?_;rintro e w5 ⟨⟨x,rfl⟩,hm⟩;have KF:=hideIt (Moved.after KW.out.2.2.1 (HNX.out _ _ _ hm));clear hm y0 y1 y2 y3 yz;go_wp2_with fail
    go_ret
    rw [HCD.out];exact ⟨rfl,KF.out⟩
theorem dAsk (gp:Nat) (c:Int) (name:ByteArray) (S:Sta) (X:Aux) (F:Nat→Prop) (w:World) (h:DeskAt w gp S X F) (hok:Ok S X.op) (hp1:pot (S,X.op)+1≤549755813888) :
  Calls Tryz.prog 63 #[.pointer (some ⟨gp,0,none⟩),.int .i64 c,.string name] w fun e w'=>AskG (cAsk S X.op c name) w w' gp X F e:=by
 have hL:=hok.inv.op0;have hLn:=hok.inv.len;have HP1:=hideIt hp1;unfold pot at hp1;simp only at hp1;have hq3:S.srv.length≤1099511627776:=by omega
 have hq4:S.wts.length+1≤1099511627776:=by omega
 have hgplt:gp<w.heap.size:=h.lt gp h.gp;have HIC:=hideIt (cIsClient c w);have HBU:=hideIt (dBusy gp c S X F w h hok.inv.nz hq3 (by omega));have HH:=hideIt h;have HOK:=hideIt hok;clear h hok hL hLn hp1;obtain ⟨kb,hkb⟩:∃ b,okCli c=b:=⟨_,rfl⟩;have HKB:=hideIt hkb;unfold okCli at hkb;rw [hkb] at HIC;obtain ⟨bb,hbb⟩:∃ b,((S.srv.find? (isCliV c)).isSome||(S.wts.find? (isCliW c)).isSome)=b:=⟨_,rfl⟩;have HBB:=hideIt hbb;rw [hbb] at HBU;clear hkb hbb;go_enter Tryz.func63,Tryz.ntmps63
 go_wp2_with fail
 refine HIC.out.mono ?_;rintro e w1 ⟨rfl,h1⟩;obtain rfl:=h1.symm;cases kb with
 | false =>
  have HR:Hid (cAsk S X.op c name=⟨S,X.op,0,10⟩):=by
   show _=_;unfold cAsk;rw [if_pos HKB.out]
  go_wp2_with fail
  go_ret2
  rw [HR.out];exact ⟨rfl,Moved.refl HH.out⟩
 | true =>
  go_wp2_with fail
  refine HBU.out.mono ?_;rintro e w1 ⟨rfl,hb1⟩;have HB1:=hideIt hb1;clear hb1;cases bb with
  | true =>
   have HR:Hid (cAsk S X.op c name=⟨S,X.op,0,11⟩):=by
    show _=_;unfold cAsk;rw [if_neg (by rw [HKB.out];simp),if_pos HBB.out]
   go_wp2_with fail
   go_ret2
   rw [HR.out];exact ⟨rfl,(Moved.refl HH.out).below HB1.out⟩
  | false =>
   have HD1:Hid (DeskAt w1 gp S X F):=HH.out.keep (G:=fun _=>False) (Chg.of_below HB1.out) (fun _ _ h=>h);obtain ⟨po,pc,so,sc,wo,wc,yo,yc,ho,hc,hx⟩:=HD1.out.ex;obtain ⟨g0,g1,g2,g3,g4,gz⟩:=blk5d hx.box;have HFD:=hideIt (cFind po _ pc name S.pools w1 (Zd hx.p.own) rfl (by have:=HOK.out.pools;unfold maxLen;omega));have HX:=hideIt hx;rw [Zda] at HFD;obtain ⟨⟨⟨xn,xs,xw,xf⟩,okb⟩,hfe⟩:∃ y:Pl×Bool,((S.pools.find? (isNameP name)).getD zPl,(S.pools.find? (isNameP name)).isSome)=y:=⟨_,rfl⟩;have HFE:Hid ((S.pools.find? (isNameP name)).getD zPl=⟨xn,xs,xw,xf⟩∧(S.pools.find? (isNameP name)).isSome=okb):=⟨congrArg Prod.fst hfe,congrArg Prod.snd hfe⟩;rw [HFE.out.1,HFE.out.2] at HFD;clear hx hfe;go_wp2_with fail
   refine HFD.out.mono ?_;rintro e w2 ⟨rfl,hb2⟩;obtain ⟨W2,hW2⟩:∃ W2,W2=w2.alloc (bPl ⟨xn,xs,xw,xf⟩):=⟨_,rfl⟩;have hbW:Below w1.heap.size w1 W2:=by rw [hW2];exact Za hb2 (Zb _ _)
   have KW:Hid (W2=w2.alloc (bPl ⟨xn,xs,xw,xf⟩)∧W2.heap[w2.heap.size]?=some (bPl ⟨xn,xs,xw,xf⟩)∧Below w1.heap.size w1 W2∧¬F w2.heap.size):=⟨hW2,by rw [hW2];exact Zc _ _ rfl,hbW,fun hf=>by have:=HD1.out.lt _ hf;have:=hb2.size;omega⟩;have KB:Hid (Below w.heap.size w W2):=Za HB1.out hbW;have HD2:Hid (DeskAt W2 gp S X F):=HD1.out.keep (G:=fun _=>False) (Chg.of_below hbW) (fun _ _ h=>h);clear hb2 hW2 hbW g0 g1 g2 g3 g4 gz HFD;go_upto_region 6 with fail
   rw [←KW.out.1];obtain ⟨p0,p1,p2,p3,pz⟩:=blk4d KW.out.2.1;cases okb with
   | false =>
    have HR:Hid (cAsk S X.op c name=⟨S,X.op,0,12⟩):=by
     show _=_;unfold cAsk;rw [if_neg (by rw [HKB.out];simp),if_neg (by rw [HBB.out];simp)];cases hf:S.pools.find? (isNameP name) with
     | none=>rfl
     | some y=>have:=HFE.out.2;rw [hf] at this;simp at this
    go_wp2_with fail
    go_ret2
    rw [HR.out];exact ⟨rfl,(Moved.refl HH.out).below KB.out⟩
   | true =>
    have HPX:Hid (S.pools.find? (isNameP name)=some ⟨xn,xs,xw,xf⟩):=by
     show _=_;cases hf:S.pools.find? (isNameP name) with
     | none=>have:=HFE.out.2;rw [hf] at this;simp at this
     | some y=>have:=HFE.out.1;rw [hf] at this;rw [←this];rfl
    have HAS:Hid (cAsk S X.op c name=match (cAsked S X.op c xn).1.srv.find? (isCliV c) with
      | some s=>⟨(cAsked S X.op c xn).1,(cAsked S X.op c xn).2,s.id,0⟩
      | none=>if xw<(cntG (isPoolW xn) (cAsked S X.op c xn).1.wts:Int) then ⟨cQuit (cAsked S X.op c xn).1 c,(cAsked S X.op c xn).2,0,13⟩
       else ⟨(cAsked S X.op c xn).1,(cAsked S X.op c xn).2,0,0⟩):=by
     show _=_;unfold cAsk;rw [if_neg (by rw [HKB.out];simp),if_neg (by rw [HBB.out];simp),HPX.out];rfl
    have HNW:Hid (∀ y∈S.wts,y.client≠c):=cNot (by
     have:=HBB.out;cases hh:(S.wts.find? (isCliW c)).isSome with
     | false=>rfl
     | true=>rw [hh] at this;simp at this)
    have HOJ:Hid (Ok (joined S c xn) X.op):=by
     refine ⟨HOK.out.inv.join HNW.out,?_,HOK.out.pools⟩;have:=HP1.out;unfold pot joined at *;simp at this ⊢;omega
    have HJ:=hideIt (dJoin gp c xn S X F W2 HD2.out hq4);go_wp2_with fail
    refine HJ.out.mono ?_;rintro e w3 ⟨⟨x,rfl⟩,hm3⟩;obtain ⟨F3,hd3,hnx3⟩:=hm3.step;have hsv:=dServe gp (joined S c xn) X F3 w3 hd3 HOJ.out;have hjl:(joined S c xn).wts.length=S.wts.length+1:=by simp [joined]
    rw [hjl] at hsv;have hok4:=HOJ.out.serve (S.wts.length+1);obtain ⟨⟨T,t⟩,hT⟩:∃ y,cAsked S X.op c xn=y:=⟨_,rfl⟩;have hT':cServe (S.wts.length+1) (joined S c xn) X.op=(T,t):=hT;rw [hT'] at hsv hok4;rw [hT] at HAS;simp only at hsv hok4 HAS;have HSV:=hideIt hsv;have HNX:=hideIt hnx3;have HOT:=hideIt hok4;clear hm3 hd3 hnx3 hsv hok4 hT hT' hjl p0 p1 p2 p3 pz HJ;go_wp2_with fail
    refine HSV.out.mono ?_;rintro e w4 ⟨⟨x,rfl⟩,hm⟩;have KM:Hid (Moved W2 w4 gp T {X with op:=t} F):=HNX.out _ _ _ hm;obtain ⟨F4,hd4,hF4,hch⟩:=KM.out;have hTl:T.srv.length≤549755813888:=by have h1:=HOT.out.inv.len;have h2:=HOT.out.pot;unfold pot at h2;simp at h2;omega
    have hTw:T.wts.length≤549755813888:=by have h1:=HOT.out.inv.op0;have h2:=HOT.out.pot;unfold pot at h2;simp at h2;omega
    have HP4:Hid (w4.heap[w2.heap.size]?=some (bPl ⟨xn,xs,xw,xf⟩)∧w2.heap.size<w4.heap.size):=by
     have z:=(Array.getElem?_eq_some_iff.1 KW.out.2.1).1;exact ⟨(hch.block _ z KW.out.2.2.2).trans KW.out.2.1,Nat.lt_of_lt_of_le z hch.size⟩
    have hgp4:gp<w4.heap.size:=hd4.lt gp hd4.gp;obtain ⟨po4,pc4,so4,sc4,wo4,wc4,yo4,yc4,ho4,hc4,hx4⟩:=hd4.ex;obtain ⟨g0,g1,g2,g3,g4,gz⟩:=blk5d hx4.box;have HB4:=hideIt (cHeldBy so4 _ sc4 c T.srv w4 (Zd hx4.s.own) rfl (by unfold maxLen;omega));have HZ:=hideIt (Zbc (p:=isCliV c) HOT.out.inv.nz);obtain ⟨⟨x0,x1,x2,x3⟩,hx0⟩:∃ x,orS (T.srv.find? (isCliV c))=x:=⟨_,rfl⟩;rw [hx0] at HB4 HZ;simp only at HZ;have HX0:=hideIt hx0;have HX4:=hideIt hx4;clear hm hd4 hF4 hch hx4 hx0 HSV HNX;go_wp2_with fail
    refine HB4.out.mono ?_;rintro e w5 ⟨rfl,hb5⟩;obtain ⟨W5,hW5⟩:∃ W5,W5=w5.alloc (bSv x0 x1 x2 x3):=⟨_,rfl⟩;have hbW:Below w4.heap.size w4 W5:=by rw [hW5];exact Za hb5 (Zb _ _)
    have KV:Hid (W5=w5.alloc (bSv x0 x1 x2 x3)∧W5.heap[w5.heap.size]?=some (bSv x0 x1 x2 x3)∧Below w4.heap.size w4 W5):=⟨hW5,by rw [hW5];exact Zc _ _ rfl,hbW⟩;have KM5:Hid (Moved W2 W5 gp T {X with op:=t} F):=KM.out.below hbW;have hd5:=HX4.out.nx hgp4 hbW;have hp5:W5.heap[w2.heap.size]?=some (bPl ⟨xn,xs,xw,xf⟩):=(hbW.block _ HP4.out.2).trans HP4.out.1;clear hb5 hW5 hbW g0 g1 g2 g3 g4 gz HB4;go_upto_region 11 with fail
    rw [←KV.out.1];obtain ⟨y0,y1,y2,y3,yz⟩:=blk4d KV.out.2.1;obtain ⟨g0,g1,g2,g3,g4,gz⟩:=blk5d hd5;obtain ⟨p0,p1,p2,p3,pz⟩:=blk4d hp5;clear hd5 hp5;cases hz:(x0 != 0) with
    | true =>
     have HR:Hid (cAsk S X.op c name=⟨T,t,x0,0⟩):=by
      show _=_;have h0:(x0 == 0)=false:=by simpa [bne] using hz
      rw [HAS.out];cases hf:T.srv.find? (isCliV c) with
      | none=>have:=HZ.out;rw [h0,hf] at this;simp at this
      | some s =>
       have:=HX0.out;rw [hf] at this;simp only;rw [show s.id=x0 by rw [show s=⟨x0,x1,x2,x3⟩ from this]]
     go_wp2_with fail
     go_ret2
     rw [HR.out];exact ⟨rfl,Moved.after KB.out KM5.out⟩
    | false =>
     have HFN:Hid (T.srv.find? (isCliV c)=none):=by
      show _=_;have h0:(x0 == 0)=true:=by simpa [bne] using hz
      cases hf:T.srv.find? (isCliV c) with
      | none=>rfl
      | some s=>have:=HZ.out;rw [h0,hf] at this;simp at this
     obtain ⟨q,hqq⟩:∃ q,cntG (isPoolW xn) T.wts=q:=⟨_,rfl⟩;have HQ:Hid (cntG (isPoolW xn) T.wts=q):=hqq;have hql:q≤549755813888:=by
      rw [←hqq];have:cntG (isPoolW xn) T.wts≤T.wts.length:=List.length_filter_le _ _;omega
     have HWF:Hid (∀ u,Below W5.heap.size W5 u→Calls Tryz.prog 108 #[.slice wo4 T.wts.length wc4,.string xn] u fun e w'=>e=.returned (.int .i64 (q:Int))∧w'=u):=by
      intro u hu;have:=cWaitersFor wo4 T.wts.length wc4 xn T.wts u (((Zd HX4.out.t.own).nx KV.out.2.2).nx hu) rfl (by unfold maxLen;omega);rw [HQ.out] at this;exact this
     have HAR:Hid (cAsk S X.op c name=if xw<(q:Int) then ⟨cQuit T c,t,0,13⟩ else ⟨T,t,0,0⟩):=by
      show _=_;rw [HAS.out,HFN.out];simp only;rw [HQ.out]
     clear hqq HAS;go_upto_region 13 with fail
     cases hcn:decide (xw<(q:Int)) with
     | true =>
      have HR:Hid (cAsk S X.op c name=⟨cQuit T c,t,0,13⟩):=by
       show _=_;rw [HAR.out,if_pos (of_decide_eq_true hcn)]
      go_quiet ((go_at_call 108;exact Calls.quiet_of_same (HWF.out _ (below_drewN (Below.refl _ _) _))))
      obtain ⟨W6,hW6⟩:∃ W6,W5.drewN nq=W6:=⟨_,rfl⟩;have hb6:Below W5.heap.size W5 W6:=by rw [←hW6];exact below_drewN (Below.refl _ _) _
      rw [hW6];obtain ⟨F6,hd6,hnx6⟩:=(KM5.out.below hb6).step;have HQT:=hideIt (dQuit gp c T {X with op:=t} F6 W6 hd6 (by omega));have HNX6:=hideIt hnx6;clear hW6 hb6 hd6 hnx6 hcn g0 g1 g2 g3 g4 gz p0 p1 p2 p3 pz y0 y1 y2 y3 yz;go_wp2_with fail
      refine HQT.out.mono ?_;rintro e w7 ⟨⟨x,rfl⟩,hm⟩;have KF:=hideIt (Moved.after KB.out (HNX6.out _ _ _ hm));clear hm;go_wp2_with fail
      go_ret2
      rw [HR.out];exact ⟨rfl,KF.out⟩
     | false =>
      have HR:Hid (cAsk S X.op c name=⟨T,t,0,0⟩):=by
       show _=_;rw [HAR.out,if_neg (of_decide_eq_false hcn)]
      go_quiet ((go_at_call 108;exact Calls.quiet_of_same (HWF.out _ (below_drewN (Below.refl _ _) _))))
      go_wp2_with fail
      go_ret2
      rw [HR.out];exact ⟨rfl,Moved.after KB.out (KM5.out.below (below_drewN (Below.refl _ _) _))⟩
theorem pAsk (gp:Nat) (c:Int) (name:ByteArray) (S:Sta) (X:Aux) (F:Nat→Prop) (w:World) (h:DeskAt w gp S X F) (hok:Ok S X.op) (hp1:pot (S,X.op)+1≤549755813888) :
  Calls Tryz.prog 34 #[.pointer (some ⟨gp,0,none⟩),.int .i64 c,.string name] w fun e w'=>AskG (cAsk S X.op c name) w w' gp X F e:=by
 have HA:=hideIt (dAsk gp c name S X F w h hok hp1);clear h hok hp1;go_enter Tryz.func34,Tryz.ntmps34
 go_wp2_with fail
 refine HA.out.mono ?_;rintro e w1 ⟨rfl,hm⟩;have KF:=hideIt hm;clear hm;go_wp2_with fail
 go_ret2
 exact ⟨rfl,KF.out⟩
theorem pDone (gp:Nat) (c:Int) (S:Sta) (X:Aux) (F:Nat→Prop) (w:World) (h:DeskAt w gp S X F) (hok:Ok S X.op) :
  Calls Tryz.prog 36 #[.pointer (some ⟨gp,0,none⟩),.int .i64 c] w fun e w'=>DoneG (cDone S X.op c) w w' gp X F e:=by
 have HA:=hideIt (dDone gp c S X F w h hok);clear h hok;go_enter Tryz.func36,Tryz.ntmps36
 go_wp2_with fail
 refine HA.out.mono ?_;rintro e w1 ⟨rfl,hm⟩;have KF:=hideIt hm;clear hm;go_wp2_with fail
 go_ret
 exact ⟨rfl,KF.out⟩
theorem pLeave (gp:Nat) (c:Int) (S:Sta) (X:Aux) (F:Nat→Prop) (w:World) (h:DeskAt w gp S X F) (hok:Ok S X.op) :
  Calls Tryz.prog 38 #[.pointer (some ⟨gp,0,none⟩),.int .i64 c] w fun e w'=>DoneG (cLeave S X.op c) w w' gp X F e:=by
 have HA:=hideIt (dLeave gp c S X F w h hok);clear h hok;go_enter Tryz.func38,Tryz.ntmps38
 go_wp2_with fail
 refine HA.out.mono ?_;rintro e w1 ⟨rfl,hm⟩;have KF:=hideIt hm;clear hm;go_wp2_with fail
 go_ret
 exact ⟨rfl,KF.out⟩
theorem pCrash (gp:Nat) (id:Int) (S:Sta) (X:Aux) (F:Nat→Prop) (w:World) (h:DeskAt w gp S X F) (hok:Ok S X.op) :
  Calls Tryz.prog 40 #[.pointer (some ⟨gp,0,none⟩),.int .i64 id] w fun e w'=>DoneG (cCrash S X.op id) w w' gp X F e:=by
 have HA:=hideIt (dCrash gp id S X F w h hok);clear h hok;go_enter Tryz.func40,Tryz.ntmps40
 go_wp2_with fail
 refine HA.out.mono ?_;rintro e w1 ⟨rfl,hm⟩;have KF:=hideIt hm;clear hm;go_wp2_with fail
 go_ret
 exact ⟨rfl,KF.out⟩
end Lw
end Go.Proofs.YtcpikklofilkcaaGreat
