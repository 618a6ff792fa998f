import Derived.Test.YtcpikklofilkcaaGreatNqB
import Derived.Test.YtcpikklofilkcaaGreatNqC
set_option maxRecDepth 100000
set_option maxHeartbeats 16000000
namespace Go.Proofs.YtcpikklofilkcaaGreat
open Go.RowKit
namespace Co
def namedF (kind:Nat):List ByteArray→Option Ln
  | []=>none
  | nm :: r=>if isNm nm=true then
      (match r with
       | []=>some ⟨kind,nm,⟨#[]⟩,[],0⟩
       | fw :: r2=>if (fw.toList == [102,114,111,109])=true then
           (match r2 with
            | []=>none
            | b :: r3=>if isNm b=true then (setsF r3).map (fun ss=>⟨kind,nm,b,ss,0⟩) else none)
          else (setsF (fw :: r2)).map (fun ss=>⟨kind,nm,⟨#[]⟩,ss,0⟩))
    else none
def budF:List ByteArray→Option Ln
  | [a]=>(numF a).map (fun n=>⟨1,⟨#[]⟩,⟨#[]⟩,[(3,n)],0⟩)
  | _=>none
def parseF:List ByteArray→Option Ln
  | []=>none
  | f0 :: rest=>if (f0.toList == [98,117,100,103,101,116])=true then budF rest
      else if (f0.toList == [98,97,115,101])=true then namedF 2 rest
      else if (f0.toList == [112,111,111,108])=true then namedF 3 rest else none
theorem ZA (w:World) (cs:List Value) (t:TypeId) (n:Nat) {g:Nat} (hg:g=w.heap.size):RowAt (w.alloc (.cells cs.toArray t)) (.slice (some ⟨g,0,none⟩) n n) n cs:=by
  subst hg;refine ⟨_,_,rfl,Nat.le_refl _,.inr ⟨_,_,rfl,by simp,fun j x hx=>?_⟩⟩;rw [Nat.zero_add,World.cell?_alloc_new];simpa using hx
theorem Zc (w:World) (o:Obj) {k:Nat} (hk:k=w.heap.size):(w.alloc o).heap[k]?=some o:=by
  subst hk;show (w.heap.push o)[w.heap.size]?=some o;simp
theorem Zf (w:World) (o:Obj) {k:Nat} (hk:k<w.heap.size):(w.alloc o).heap[k]?=w.heap[k]?:=Below.heap_alloc w o k hk
abbrev lnA (x0 x1:Int) (s2 s3:ByteArray) (a4:Option Addr) (n4 c4:Nat):Value:=.agg #[.int .i64 x0,.int .i64 x1,.string s2,.string s3,.slice a4 n4 c4]
def Made (o:Option Ln) (w w':World) (e:Ending):Prop:=
  (o=none∧∃ x0 x1 s2 s3 a4 n4 c4,e=.returned (.tuple #[lnA x0 x1 s2 s3 a4 n4 c4,.bool false])∧Below w.heap.size w w') ∨
  (∃ l so sc,o=some l∧e=.returned (.tuple #[lnA 0 l.kind l.name l.frm so l.sets.length sc,.bool true])∧RowAt w' (.slice so l.sets.length sc) l.sets.length (flatS l.sets)∧Fr w.heap.size w' so∧Below w.heap.size w w')
abbrev bZero:Obj:=.cells #[.int .i64 0,.int .i64 0,.string ⟨#[]⟩,.string ⟨#[]⟩,.slice none 0 0] 147
theorem ZdP (ao:Option Addr) (cap n:Nat) (fs:List ByteArray) (w:World) (hr:RowAt w (.slice ao n cap) n (strs fs)) (hn:fs.length=n) (hn1:n≤1001) (hsm:∀ p∈fs,p.size≤1000) :
    Calls Tryz.prog 150 #[.slice ao n cap] w fun e w'=>Made (budF fs) w w' e:=by
  by_cases h1:n=1
  · subst h1;obtain ⟨a,rfl⟩:∃ a,fs=[a]:=by
      match fs,hn with
      | [a],_=>exact ⟨a,rfl⟩
    have hab:a.size≤1000:=hsm a (by simp);obtain ⟨bl,off,rfl,hbl,hc⟩:=hr.at (j:=0) (x:=.string a) rfl;rw [Nat.add_zero] at hc;clear hr hsm hn1 hn;have hca:∀ o,(w.alloc o).cell? ⟨bl,off,none⟩=some (.string a):=fun o=>((Zb w o).cell (p:=⟨bl,off,none⟩) hbl).trans hc
    cases hnu:numF a with
    | none =>
      have HN:Hid (budF [a]=none):=by show _=_;simp [budF,hnu]
      have hb0:numB a=false:=by simp [numB,hnu]
      have hb1:numN a=0:=by simp [numN,hnu]
      clear hnu;go_enter Tryz.func150,Tryz.ntmps150
      go_wp2_with fail
      refine (ZW a _ hab).mono ?_;rintro e w' ⟨rfl,rfl⟩;rw [hb0,hb1];go_wp2_with fail
      refine bodyPost_ret (v:=.tuple #[lnA 0 1 ⟨#[]⟩ ⟨#[]⟩ (some ⟨w.heap.size+1+1,0,none⟩) 1 1,.bool false]) (by simp [results,Tryz.results150,go_sem]) rfl (.inl ⟨HN.out,_,_,_,_,_,_,_,rfl,?_⟩);exact Za (Za (Zb _ _) (Zb _ _)) (Zb _ _)
    | some b =>
      have HN:Hid (budF [a]=some ⟨1,⟨#[]⟩,⟨#[]⟩,[(3,b)],0⟩):=by show _=_;simp [budF,hnu]
      have hb0:numB a=true:=by simp [numB,hnu]
      have hb1:numN a=(b:Int):=by simp [numN,hnu]
      clear hnu;go_enter Tryz.func150,Tryz.ntmps150
      go_wp2_with fail
      refine (ZW a _ hab).mono ?_;rintro e w' ⟨rfl,rfl⟩;rw [hb0,hb1];go_wp2_with fail
      refine bodyPost_ret (v:=.tuple #[lnA 0 1 ⟨#[]⟩ ⟨#[]⟩ (some ⟨w.heap.size+1+1,0,none⟩) 1 1,.bool true]) (by simp [results,Tryz.results150,go_sem]) rfl (.inr ⟨_,_,_,HN.out,rfl,?_,?_,?_⟩)
      · exact ZA _ (flatS [(3,b)]) 201 1 (by simp)
      · intro b' off' e;injection e with e
        injection e with e1 _ _
        subst e1;exact ⟨by omega,_,Zc _ _ (by simp)⟩
      · exact Za (Za (Zb _ _) (Zb _ _)) (Zb _ _)
  · have hnb:((n:Int) != 1)=true:=by rw [bne_iff_ne];omega
    have HN:Hid (budF fs=none):=by
      show _=_;match fs,hn with
      | [],_=>rfl
      | [a],hn=>simp at hn;omega
      | a :: b :: r,_=>rfl
    clear hr hsm;go_enter Tryz.func150,Tryz.ntmps150
    go_wp2_with fail
    refine bodyPost_ret (v:=.tuple #[lnA 0 0 ⟨#[]⟩ ⟨#[]⟩ none 0 0,.bool false]) (by simp [results,Tryz.results150,go_sem]) rfl (.inl ⟨HN.out,_,_,_,_,_,_,_,rfl,Zb _ _⟩)
theorem ZaV {kind:Nat} {nm:ByteArray} {r:List ByteArray} (h:isNm nm=false):namedF kind (nm :: r)=none:=by simp [namedF,h]
theorem ZdJ {kind:Nat} {nm:ByteArray} (h:isNm nm=true):namedF kind [nm]=some ⟨kind,nm,⟨#[]⟩,[],0⟩:=by simp [namedF,h]
theorem Zcu {kind:Nat} {nm fw:ByteArray} {r:List ByteArray} (h:isNm nm=true) (hf:(fw.toList == [102,114,111,109])=false):namedF kind (nm :: fw :: r)=(setsF (fw :: r)).map (fun ss=>⟨kind,nm,⟨#[]⟩,ss,0⟩):=by
  simp [namedF,h,hf]
theorem ZeT {kind:Nat} {nm fw:ByteArray} (h:isNm nm=true) (hf:(fw.toList == [102,114,111,109])=true):namedF kind [nm,fw]=none:=by
  simp [namedF,h,hf]
theorem ZeJ {kind:Nat} {nm fw b:ByteArray} {r:List ByteArray} (h:isNm nm=true) (hf:(fw.toList == [102,114,111,109])=true) (hb:isNm b=false):namedF kind (nm :: fw :: b :: r)=none:=by
  simp [namedF,h,hf,hb]
theorem Ze4 {kind:Nat} {nm fw b:ByteArray} {r:List ByteArray} (h:isNm nm=true) (hf:(fw.toList == [102,114,111,109])=true) (hb:isNm b=true):namedF kind (nm :: fw :: b :: r)=(setsF r).map (fun ss=>⟨kind,nm,b,ss,0⟩):=by
  simp [namedF,h,hf,hb]
theorem Zx {W w3:World} (hb:Below W.heap.size W w3) {g:Nat} (hg:g<W.heap.size) {c0 c1 c2 c3 c4:Value} (h:W.heap[g]?=some (.cells #[c0,c1,c2,c3,c4] 147 (0,0))) :
    w3.cell? ⟨g,0,none⟩=some c0∧w3.cell? ⟨g,1,none⟩=some c1∧w3.cell? ⟨g,2,none⟩=some c2∧w3.cell? ⟨g,3,none⟩=some c3∧w3.cell? ⟨g,4,none⟩=some c4∧∀ a,w3.frozen? ⟨g,a,none⟩=false:=by
  have h':w3.heap[g]?=some (.cells #[c0,c1,c2,c3,c4] 147 (0,0)):=(hb.block g hg).trans h;refine ⟨?_,?_,?_,?_,?_,fun a=>?_⟩ <;> simp [World.cell?,World.frozen?,h']
theorem Zd0 (kind:Nat) (ao:Option Addr) (cap n:Nat) (fs:List ByteArray) (w:World) (hr:RowAt w (.slice ao n cap) n (strs fs)) (hn:fs.length=n) (hn1:n≤1001) (hsm:∀ p∈fs,p.size≤1000) :
    Calls Tryz.prog 151 #[.int .i64 (kind:Int),.slice ao n cap] w fun e w'=>Made (namedF kind fs) w w' e:=by
  by_cases h0:n=0
  · subst h0;obtain rfl:fs=[]:=List.eq_nil_of_length_eq_zero hn;have HN:Hid (namedF kind []=none):=rfl;clear hr hsm hn;go_enter Tryz.func151,Tryz.ntmps151
    go_wp2_with fail
    exact bodyPost_ret (v:=.tuple #[lnA 0 0 ⟨#[]⟩ ⟨#[]⟩ none 0 0,.bool false]) (by simp [results,Tryz.results151,go_sem]) rfl (.inl ⟨HN.out,_,_,_,_,_,_,_,rfl,Zb _ _⟩)
  obtain ⟨nm,r,rfl⟩:∃ nm r,fs=nm :: r:=by
    match fs,hn with
    | [],hn=>simp at hn;omega
    | nm :: r,_=>exact ⟨nm,r,rfl⟩
  have h0b:((n:Int) == 0)=false:=by simp;omega
  have hnmb:nm.size≤maxLen:=by have:=hsm nm (by simp);unfold maxLen;omega
  obtain ⟨bl,off,rfl,hbl,hc⟩:=hr.at (j:=0) (x:=.string nm) rfl;rw [Nat.add_zero] at hc;have hcap:=Za8 hr;have hpos:(0:Int)<(n:Int):=by omega
  have hca:∀ o,(w.alloc o).cell? ⟨bl,off,none⟩=some (.string nm):=fun o=>((Zb w o).cell (p:=⟨bl,off,none⟩) hbl).trans hc
  cases hnm:isNm nm
  · have HN:=hideIt (ZaV (kind:=kind) (r:=r) hnm);clear hr hsm hn;go_enter Tryz.func151,Tryz.ntmps151
    go_wp2_with fail
    refine (ZV nm _ hnmb).mono ?_;rintro e w' ⟨rfl,rfl⟩;rw [hnm];go_wp2_with fail
    exact bodyPost_ret (v:=.tuple #[lnA 0 0 ⟨#[]⟩ ⟨#[]⟩ none 0 0,.bool false]) (by simp [results,Tryz.results151,go_sem]) rfl (.inl ⟨HN.out,_,_,_,_,_,_,_,rfl,Zb _ _⟩)
  obtain ⟨A,hA⟩:∃ A,(if cap=1 then some (⟨bl,off,none⟩:Addr) else some ⟨bl,off+1,none⟩)=A:=⟨_,rfl⟩;have hrow1:RowAt w (.slice A (n - 1) (cap - 1)) (n - 1) (strs r):=by
    have:=Zbe 1 hr hn (by omega);rw [hA] at this;exact this
  have hr1:r.length=n - 1:=by simp at hn;omega
  by_cases hn2:n=1
  · subst hn2;obtain rfl:r=[]:=List.eq_nil_of_length_eq_zero hr1;obtain ⟨W2,hW2⟩:∃ W2,W2=(w.alloc bZero).alloc (.cells #[.int .i64 0,.int .i64 (kind:Int),.string nm,.string ⟨#[]⟩,.slice none 0 0] 147):=⟨_,rfl⟩;have hb2:Below w.heap.size w W2:=by rw [hW2];exact Za (Zb _ _) (Zb _ _)
    have HP:=hideIt (Zao A (cap - 1) 0 [] W2 (hrow1.nx hb2) rfl (by omega) (by simp));have HZ:Hid (W2.heap[w.heap.size]?=some bZero∧W2.heap[w.heap.size+1]?=some (.cells #[.int .i64 0,.int .i64 (kind:Int),.string nm,.string ⟨#[]⟩,.slice none 0 0] 147 (0,0))∧W2.heap.size=w.heap.size+2):=by
      rw [hW2];refine ⟨(Zf _ _ (by simp)).trans (Zc _ _ rfl),Zc _ _ (by simp),by simp⟩
    have H2:Hid (W2=(w.alloc bZero).alloc (.cells #[.int .i64 0,.int .i64 (kind:Int),.string nm,.string ⟨#[]⟩,.slice none 0 0] 147)∧Below w.heap.size w W2):=⟨hW2,hb2⟩;have HNN:Hid (namedF kind [nm]=(setsF []).map (fun ss=>⟨kind,nm,⟨#[]⟩,ss,0⟩)):=(by show _=_;rw [ZdJ hnm];rfl);clear hr hsm hn hrow1 hr1 hb2 hW2;go_enter Tryz.func151,Tryz.ntmps151
    go_wp2_with fail
    refine (ZV nm _ hnmb).mono ?_;rintro e w' ⟨rfl,rfl⟩;rw [hnm];go_wp2_with fail
    rw [←H2.out.1];refine HP.out.mono ?_;rintro e w3 (⟨hno,rfl,hb3⟩ | ⟨ss,so,sc,hso,rfl,hrow,hfr,hb3⟩)
    · obtain ⟨c0,c1,c2,c3,c4,z0⟩:=Zx hb3 (by rw [HZ.out.2.2];omega) HZ.out.1;obtain ⟨d0,d1,d2,d3,d4,z1⟩:=Zx hb3 (by rw [HZ.out.2.2];omega) HZ.out.2.1;have HF:Hid (namedF kind [nm]=none∧Below w.heap.size w w3):=⟨by rw [HNN.out,hno];rfl,Za H2.out.2 hb3⟩;clear hno hb3;go_wp2_with fail
      refine bodyPost_ret (v:=.tuple #[lnA 0 (kind:Int) nm ⟨#[]⟩ none 0 0,.bool false]) (by simp [results,Tryz.results151,go_sem,c0,c1,c2,c3,c4]) rfl (.inl ⟨HF.out.1,_,_,_,_,_,_,_,rfl,?_⟩);exact (((((HF.out.2.setCell (Nat.le_succ _) _).setCell (Nat.le_refl _) _).setCell (Nat.le_refl _) _).setCell (Nat.le_refl _) _).setCell (Nat.le_refl _) _).setCell (Nat.le_refl _) _
    · obtain ⟨c0,c1,c2,c3,c4,z0⟩:=Zx hb3 (by rw [HZ.out.2.2];omega) HZ.out.1;obtain ⟨d0,d1,d2,d3,d4,z1⟩:=Zx hb3 (by rw [HZ.out.2.2];omega) HZ.out.2.1;have HF:Hid (namedF kind [nm]=some ⟨kind,nm,⟨#[]⟩,ss,0⟩∧Below w.heap.size w w3∧RowAt w3 (.slice so ss.length sc) ss.length (flatS ss)∧Fr (w.heap.size+2) w3 so):=
        ⟨by rw [HNN.out,hso];rfl,Za H2.out.2 hb3,hrow,by rw [←HZ.out.2.2];exact hfr⟩
      clear hso hb3 hrow hfr;go_wp2_with fail
      refine bodyPost_ret (v:=.tuple #[lnA 0 (kind:Int) nm ⟨#[]⟩ so ss.length sc,.bool true]) (by simp [results,Tryz.results151,go_sem,c0,c1,c2,c3,c4]) rfl (.inr ⟨_,_,_,HF.out.1,rfl,?_,?_,?_⟩)
      · have hne0:∀ b off,so=some ⟨b,off,none⟩→w.heap.size≠b:=fun b o e=>by have:=(HF.out.2.2.2 b o e).1;omega
        have hne1:∀ b off,so=some ⟨b,off,none⟩→w.heap.size+1≠b:=fun b o e=>by have:=(HF.out.2.2.2 b o e).1;omega
        exact (((((HF.out.2.2.1.set hne1 _ _).set hne0 _ _).set hne0 _ _).set hne0 _ _).set hne0 _ _).set hne0 _ _
      · exact ((((((HF.out.2.2.2.set (by omega) _ _).set (by omega) _ _).set (by omega) _ _).set (by omega) _ _).set (by omega) _ _).set (by omega) _ _).mono (by omega)
      · exact (((((HF.out.2.1.setCell (Nat.le_succ _) _).setCell (Nat.le_refl _) _).setCell (Nat.le_refl _) _).setCell (Nat.le_refl _) _).setCell (Nat.le_refl _) _).setCell (Nat.le_refl _) _
  obtain ⟨fw,r2,rfl⟩:∃ fw r2,r=fw :: r2:=by
    match r,hr1 with
    | [],hr1=>simp at hr1;omega
    | fw :: r2,_=>exact ⟨fw,r2,rfl⟩
  obtain ⟨bl1,off1,hA1,hbl1,hc1⟩:=hrow1.at (j:=0) (x:=.string fw) rfl;rw [Nat.add_zero] at hc1;subst hA1;have hpos1:(0:Int)<(n:Int) - 1:=by omega
  have hpos2:0<n - 1:=by omega
  have hcb:∀ o1 o2,((w.alloc o1).alloc o2).cell? ⟨bl1,off1,none⟩=some (.string fw):=fun o1 o2=>((Za (Zb w o1) (Zb _ o2)).cell (p:=⟨bl1,off1,none⟩) hbl1).trans hc1
  cases hfw:fw.toList == [102,114,111,109]
  · obtain ⟨W2,hW2⟩:∃ W2,W2=(w.alloc bZero).alloc (.cells #[.int .i64 0,.int .i64 (kind:Int),.string nm,.string ⟨#[]⟩,.slice none 0 0] 147):=⟨_,rfl⟩;have hb2:Below w.heap.size w W2:=by rw [hW2];exact Za (Zb _ _) (Zb _ _)
    have HP:=hideIt (Zao (some ⟨bl1,off1,none⟩) (cap - 1) (n - 1) (fw :: r2) W2 (hrow1.nx hb2) hr1 (by omega) (fun p hp=>hsm p (List.mem_cons_of_mem _ hp)));have HZ:Hid (W2.heap[w.heap.size]?=some bZero∧W2.heap[w.heap.size+1]?=some (.cells #[.int .i64 0,.int .i64 (kind:Int),.string nm,.string ⟨#[]⟩,.slice none 0 0] 147 (0,0))∧W2.heap.size=w.heap.size+2):=by
      rw [hW2];refine ⟨(Zf _ _ (by simp)).trans (Zc _ _ rfl),Zc _ _ (by simp),by simp⟩
    have H2:Hid (W2=(w.alloc bZero).alloc (.cells #[.int .i64 0,.int .i64 (kind:Int),.string nm,.string ⟨#[]⟩,.slice none 0 0] 147)∧Below w.heap.size w W2):=⟨hW2,hb2⟩;have HNN:Hid (namedF kind (nm :: fw :: r2)=(setsF (fw :: r2)).map (fun ss=>⟨kind,nm,⟨#[]⟩,ss,0⟩)):=Zcu hnm hfw;clear hr hsm hn hrow1 hr1 hc1 hb2 hW2;go_enter Tryz.func151,Tryz.ntmps151
    go_wp2_with fail
    refine (ZV nm _ hnmb).mono ?_;rintro e w' ⟨rfl,rfl⟩;rw [hnm];go_wp2_with fail
    rw [←H2.out.1];refine HP.out.mono ?_;rintro e w3 (⟨hno,rfl,hb3⟩ | ⟨ss,so,sc,hso,rfl,hrow,hfr,hb3⟩)
    · obtain ⟨c0,c1,c2,c3,c4,z0⟩:=Zx hb3 (by rw [HZ.out.2.2];omega) HZ.out.1;obtain ⟨d0,d1,d2,d3,d4,z1⟩:=Zx hb3 (by rw [HZ.out.2.2];omega) HZ.out.2.1;have HF:Hid (namedF kind (nm :: fw :: r2)=none∧Below w.heap.size w w3):=⟨by rw [HNN.out,hno];rfl,Za H2.out.2 hb3⟩;clear hno hb3;go_wp2_with fail
      refine bodyPost_ret (v:=.tuple #[lnA 0 (kind:Int) nm ⟨#[]⟩ none 0 0,.bool false]) (by simp [results,Tryz.results151,go_sem,c0,c1,c2,c3,c4]) rfl (.inl ⟨HF.out.1,_,_,_,_,_,_,_,rfl,?_⟩);exact (((((HF.out.2.setCell (Nat.le_succ _) _).setCell (Nat.le_refl _) _).setCell (Nat.le_refl _) _).setCell (Nat.le_refl _) _).setCell (Nat.le_refl _) _).setCell (Nat.le_refl _) _
    · obtain ⟨c0,c1,c2,c3,c4,z0⟩:=Zx hb3 (by rw [HZ.out.2.2];omega) HZ.out.1;obtain ⟨d0,d1,d2,d3,d4,z1⟩:=Zx hb3 (by rw [HZ.out.2.2];omega) HZ.out.2.1;have HF:Hid (namedF kind (nm :: fw :: r2)=some ⟨kind,nm,⟨#[]⟩,ss,0⟩∧Below w.heap.size w w3∧RowAt w3 (.slice so ss.length sc) ss.length (flatS ss)∧Fr (w.heap.size+2) w3 so):=
        ⟨by rw [HNN.out,hso];rfl,Za H2.out.2 hb3,hrow,by rw [←HZ.out.2.2];exact hfr⟩
      clear hso hb3 hrow hfr;go_wp2_with fail
      refine bodyPost_ret (v:=.tuple #[lnA 0 (kind:Int) nm ⟨#[]⟩ so ss.length sc,.bool true]) (by simp [results,Tryz.results151,go_sem,c0,c1,c2,c3,c4]) rfl (.inr ⟨_,_,_,HF.out.1,rfl,?_,?_,?_⟩)
      · have hne0:∀ b off,so=some ⟨b,off,none⟩→w.heap.size≠b:=fun b o e=>by have:=(HF.out.2.2.2 b o e).1;omega
        have hne1:∀ b off,so=some ⟨b,off,none⟩→w.heap.size+1≠b:=fun b o e=>by have:=(HF.out.2.2.2 b o e).1;omega
        exact (((((HF.out.2.2.1.set hne1 _ _).set hne0 _ _).set hne0 _ _).set hne0 _ _).set hne0 _ _).set hne0 _ _
      · exact ((((((HF.out.2.2.2.set (by omega) _ _).set (by omega) _ _).set (by omega) _ _).set (by omega) _ _).set (by omega) _ _).set (by omega) _ _).mono (by omega)
      · exact (((((HF.out.2.1.setCell (Nat.le_succ _) _).setCell (Nat.le_refl _) _).setCell (Nat.le_refl _) _).setCell (Nat.le_refl _) _).setCell (Nat.le_refl _) _).setCell (Nat.le_refl _) _
  obtain ⟨c1',hc1'⟩:∃ c1',cap - 1=c1':=⟨_,rfl⟩;obtain ⟨n1',hn1'⟩:∃ n1',n - 1=n1':=⟨_,rfl⟩;rw [hc1',hn1'] at hrow1;rw [hn1'] at hr1 hpos2;obtain ⟨A2,hA2⟩:∃ A2,(if c1'=2 then some (⟨bl1,off1,none⟩:Addr) else some ⟨bl1,off1+2,none⟩)=A2:=⟨_,rfl⟩;by_cases hn3:n=2
  · obtain rfl:r2=[]:=by
      match r2,hr1 with
      | [],_=>rfl
      | a :: b,h=>simp at h;omega
    have hlt2:(n:Int) - 1<2:=by omega
    have hlt3:n1'<2:=by omega
    have HN3:Hid (n=2):=hn3;clear hn3;have HN:=hideIt (ZeT (kind:=kind) hnm hfw);clear hr hsm hn hrow1 hr1 hc1;go_enter Tryz.func151,Tryz.ntmps151
    go_wp2_with fail
    refine (ZV nm _ hnmb).mono ?_;rintro e w' ⟨rfl,rfl⟩;rw [hnm];go_wp2_with fail
    exact bodyPost_ret (v:=.tuple #[lnA 0 0 ⟨#[]⟩ ⟨#[]⟩ none 0 0,.bool false]) (by simp [results,Tryz.results151,go_sem]) rfl (.inl ⟨HN.out,_,_,_,_,_,_,_,rfl,Za (Zb _ _) (Zb _ _)⟩)
  obtain ⟨b,r3,rfl⟩:∃ b r3,r2=b :: r3:=by
    match r2,hr1 with
    | [],hr1=>simp at hr1;omega
    | b :: r3,_=>exact ⟨b,r3,rfl⟩
  have hbb:b.size≤maxLen:=by have:=hsm b (by simp);unfold maxLen;omega
  obtain ⟨bl',off',e1,_,hc2⟩:=hrow1.at (j:=1) (x:=.string b) rfl;obtain ⟨rfl,rfl⟩:bl1=bl'∧off1=off':=by simpa using e1
  have hpos3:(1:Int)<(n:Int) - 1:=by omega
  have hpos4:1<n1':=by omega
  have hpos5:(2:Int)≤(n1':Int):=by omega
  have hcap2:n1'≤c1':=Za8 hrow1;have hcc:∀ o1 o2,((w.alloc o1).alloc o2).cell? ⟨bl1,off1+1,none⟩=some (.string b):=fun o1 o2=>((Za (Zb w o1) (Zb _ o2)).cell (p:=⟨bl1,off1+1,none⟩) hbl1).trans hc2
  have hrow3:RowAt w (.slice A2 (n1' - 2) (c1' - 2)) (n1' - 2) (strs r3):=by
    have:=Zbe 2 hrow1 hr1 (by omega);rw [hA2] at this;exact this
  have hr3:r3.length=n1' - 2:=by simp at hr1;omega
  clear e1;cases hbn:isNm b
  · have HN:=hideIt (ZeJ (kind:=kind) (r:=r3) hnm hfw hbn);clear hr hsm hn hrow1 hr1 hc1 hc2 hrow3 hr3;go_enter Tryz.func151,Tryz.ntmps151
    go_wp2_with fail
    refine (ZV nm _ hnmb).mono ?_;rintro e w' ⟨rfl,rfl⟩;rw [hnm];go_wp2_with fail
    refine (ZV b _ hbb).mono ?_;rintro e w' ⟨rfl,rfl⟩;rw [hbn];go_wp2_with fail
    exact bodyPost_ret (v:=.tuple #[lnA 0 0 ⟨#[]⟩ ⟨#[]⟩ none 0 0,.bool false]) (by simp [results,Tryz.results151,go_sem]) rfl (.inl ⟨HN.out,_,_,_,_,_,_,_,rfl,Za (Zb _ _) (Zb _ _)⟩)
  obtain ⟨W2,hW2⟩:∃ W2,W2=(w.alloc bZero).alloc (.cells #[.int .i64 0,.int .i64 (kind:Int),.string nm,.string b,.slice none 0 0] 147):=⟨_,rfl⟩;have hb2:Below w.heap.size w W2:=by rw [hW2];exact Za (Zb _ _) (Zb _ _)
  have HP:=hideIt (Zao A2 (c1' - 2) (n1' - 2) r3 W2 (hrow3.nx hb2) hr3 (by omega) (fun p hp=>hsm p (by simp [hp])));have HZ:Hid (W2.heap[w.heap.size]?=some bZero∧W2.heap[w.heap.size+1]?=some (.cells #[.int .i64 0,.int .i64 (kind:Int),.string nm,.string b,.slice none 0 0] 147 (0,0))∧W2.heap.size=w.heap.size+2):=by
    rw [hW2];refine ⟨(Zf _ _ (by simp)).trans (Zc _ _ rfl),Zc _ _ (by simp),by simp⟩
  have H2:Hid (W2=(w.alloc bZero).alloc (.cells #[.int .i64 0,.int .i64 (kind:Int),.string nm,.string b,.slice none 0 0] 147)∧Below w.heap.size w W2):=⟨hW2,hb2⟩;have HNN:Hid (namedF kind (nm :: fw :: b :: r3)=(setsF r3).map (fun ss=>⟨kind,nm,b,ss,0⟩)):=Ze4 hnm hfw hbn;clear hr hsm hn hrow1 hr1 hc1 hc2 hrow3 hr3 hb2 hW2;go_enter Tryz.func151,Tryz.ntmps151
  go_wp2_with fail
  refine (ZV nm _ hnmb).mono ?_;rintro e w' ⟨rfl,rfl⟩;rw [hnm];go_wp2_with fail
  refine (ZV b _ hbb).mono ?_;rintro e w' ⟨rfl,rfl⟩;rw [hbn];go_wp2_with fail
  rw [←H2.out.1];refine HP.out.mono ?_;rintro e w3 (⟨hno,rfl,hb3⟩ | ⟨ss,so,sc,hso,rfl,hrow,hfr,hb3⟩)
  · obtain ⟨c0,c1,c2,c3,c4,z0⟩:=Zx hb3 (by rw [HZ.out.2.2];omega) HZ.out.1;obtain ⟨d0,d1,d2,d3,d4,z1⟩:=Zx hb3 (by rw [HZ.out.2.2];omega) HZ.out.2.1;have HF:Hid (namedF kind (nm :: fw :: b :: r3)=none∧Below w.heap.size w w3):=⟨by rw [HNN.out,hno];rfl,Za H2.out.2 hb3⟩;clear hno hb3;go_wp2_with fail
    refine bodyPost_ret (v:=.tuple #[lnA 0 (kind:Int) nm b none 0 0,.bool false]) (by simp [results,Tryz.results151,go_sem,c0,c1,c2,c3,c4]) rfl (.inl ⟨HF.out.1,_,_,_,_,_,_,_,rfl,?_⟩);exact (((((HF.out.2.setCell (Nat.le_succ _) _).setCell (Nat.le_refl _) _).setCell (Nat.le_refl _) _).setCell (Nat.le_refl _) _).setCell (Nat.le_refl _) _).setCell (Nat.le_refl _) _
  · obtain ⟨c0,c1,c2,c3,c4,z0⟩:=Zx hb3 (by rw [HZ.out.2.2];omega) HZ.out.1;obtain ⟨d0,d1,d2,d3,d4,z1⟩:=Zx hb3 (by rw [HZ.out.2.2];omega) HZ.out.2.1;have HF:Hid (namedF kind (nm :: fw :: b :: r3)=some ⟨kind,nm,b,ss,0⟩∧Below w.heap.size w w3∧RowAt w3 (.slice so ss.length sc) ss.length (flatS ss)∧Fr (w.heap.size+2) w3 so):=
      ⟨by rw [HNN.out,hso];rfl,Za H2.out.2 hb3,hrow,by rw [←HZ.out.2.2];exact hfr⟩
    clear hso hb3 hrow hfr;go_wp2_with fail
    refine bodyPost_ret (v:=.tuple #[lnA 0 (kind:Int) nm b so ss.length sc,.bool true]) (by simp [results,Tryz.results151,go_sem,c0,c1,c2,c3,c4]) rfl (.inr ⟨_,_,_,HF.out.1,rfl,?_,?_,?_⟩)
    · have hne0:∀ b off,so=some ⟨b,off,none⟩→w.heap.size≠b:=fun b o e=>by have:=(HF.out.2.2.2 b o e).1;omega
      have hne1:∀ b off,so=some ⟨b,off,none⟩→w.heap.size+1≠b:=fun b o e=>by have:=(HF.out.2.2.2 b o e).1;omega
      exact (((((HF.out.2.2.1.set hne1 _ _).set hne0 _ _).set hne0 _ _).set hne0 _ _).set hne0 _ _).set hne0 _ _
    · exact ((((((HF.out.2.2.2.set (by omega) _ _).set (by omega) _ _).set (by omega) _ _).set (by omega) _ _).set (by omega) _ _).set (by omega) _ _).mono (by omega)
    · exact (((((HF.out.2.1.setCell (Nat.le_succ _) _).setCell (Nat.le_refl _) _).setCell (Nat.le_refl _) _).setCell (Nat.le_refl _) _).setCell (Nat.le_refl _) _).setCell (Nat.le_refl _) _
theorem ZbA {fs:List ByteArray} {l:Ln} (h:parseF fs=some l):1≤l.kind∧l.kind≤3∧l.sets.length≤fs.length:=by
 have hnamed:∀ (kind:Nat) (r:List ByteArray) (l:Ln),namedF kind r=some l→l.kind=kind∧l.sets.length≤r.length:=by
  intro kind r l h;match r,h with
  | [],h=>simp [namedF] at h
  | nm :: r,h =>
   rw [namedF.eq_def] at h;simp only at h;split at h
   ·split at h
    ·cases h;exact ⟨rfl,by simp⟩
    ·split at h
     ·split at h
      ·cases h
      ·split at h
       ·rename_i r3 _
        cases hs:setsF r3 with
        | none=>rw [hs] at h;cases h
        | some ss =>
         rw [hs] at h;cases h;have:=Zcj _ _ hs;refine ⟨rfl,?_⟩;simp;omega
       ·cases h
     ·rename_i fw r2 _
      cases hs:setsF (fw :: r2) with
      | none=>rw [hs] at h;cases h
      | some ss =>
       rw [hs] at h;cases h;have:=Zcj _ _ hs;refine ⟨rfl,?_⟩;simp at this ⊢;omega
   ·cases h
 match fs,h with
 | [],h=>simp [parseF] at h
 | f0 :: rest,h =>
  rw [parseF] at h;split at h
  ·match rest,h with
   | [],h=>simp [budF] at h
   | [a],h =>
    simp only [budF] at h;cases hs:numF a with
    | none=>rw [hs] at h;cases h
    | some b=>rw [hs] at h;cases h;simp
   | a :: b :: r,h=>simp [budF] at h
  ·split at h
   ·obtain ⟨h1,h2⟩:=hnamed 2 rest l h;simp;omega
   ·split at h
    ·obtain ⟨h1,h2⟩:=hnamed 3 rest l h;simp;omega
    ·cases h
theorem ZaS {B:Nat} {w0 w:World} {g:Nat} (h:Below B w0 w) (hg:B≤g) (v0 v1 v2 v3 v4:Value):Below B w0 (((((w.setCell ⟨g,0,none⟩ v0).setCell ⟨g,1,none⟩ v1).setCell ⟨g,2,none⟩ v2).setCell ⟨g,3,none⟩ v3).setCell ⟨g,4,none⟩ v4):=
 ((((h.setCell hg _).setCell hg _).setCell hg _).setCell hg _).setCell hg _
theorem Zih {w:World} {so:Option Addr} {g:Nat} (h:Fr (g+1) w so) (v0 v1 v2 v3 v4:Value):Fr g (((((w.setCell ⟨g,0,none⟩ v0).setCell ⟨g,1,none⟩ v1).setCell ⟨g,2,none⟩ v2).setCell ⟨g,3,none⟩ v3).setCell ⟨g,4,none⟩ v4) so:=
 (((((h.set (Nat.lt_succ_self _) _ _).set (Nat.lt_succ_self _) _ _).set (Nat.lt_succ_self _) _ _).set (Nat.lt_succ_self _) _ _).set (Nat.lt_succ_self _) _ _).mono (Nat.le_succ _)
theorem Zgs {w:World} {so:Option Addr} {m sc n:Nat} {cs:List Value} {g:Nat} (h:RowAt w (.slice so m sc) n cs) (hg:∀ b off,so=some ⟨b,off,none⟩→g≠b) (v0 v1 v2 v3 v4:Value):RowAt (((((w.setCell ⟨g,0,none⟩ v0).setCell ⟨g,1,none⟩ v1).setCell ⟨g,2,none⟩ v2).setCell ⟨g,3,none⟩ v3).setCell ⟨g,4,none⟩ v4) (.slice so m sc) n cs:=
 ((((h.set hg _ _).set hg _ _).set hg _ _).set hg _ _).set hg _ _
theorem Zhu (ao:Option Addr) (cap n:Nat) (fs:List ByteArray) (w:World) (hr:RowAt w (.slice ao n cap) n (strs fs)) (hn:fs.length=n) (hn1:n≤1001) (hn0:0<n) (hsm:∀ p∈fs,p.size≤1000) :
  Calls Tryz.prog 128 #[.slice ao n cap] w fun e w'=>Made (parseF fs) w w' e:=by
 obtain ⟨f0,r,rfl⟩:∃ f0 r,fs=f0 :: r:=by
  match fs,hn with
  | [],hn=>simp at hn;omega
  | f0 :: r,_=>exact ⟨f0,r,rfl⟩
 obtain ⟨bl,off,rfl,hbl,hc⟩:=hr.at (j:=0) (x:=.string f0) rfl;rw [Nat.add_zero] at hc;have hcap:=Za8 hr;have h0b:((n:Int) == 0)=false:=by simp;omega
 have hpos:(0:Int)<(n:Int):=by omega
 have hpos1:(1:Int)≤(n:Int):=by omega
 have hca:∀ o,(w.alloc o).cell? ⟨bl,off,none⟩=some (.string f0):=fun o=>((Zb w o).cell (p:=⟨bl,off,none⟩) hbl).trans hc
 obtain ⟨A,hA⟩:∃ A,(if cap=1 then some (⟨bl,off,none⟩:Addr) else some ⟨bl,off+1,none⟩)=A:=⟨_,rfl⟩;have hrow1:RowAt (w.alloc bZero) (.slice A (n - 1) (cap - 1)) (n - 1) (strs r):=by
  have:=Zbe 1 hr hn (by omega);rw [hA] at this;exact this.nx (Zb _ _)
 have hr1:r.length=n - 1:=by simp at hn;omega
 have hsm1:∀ p∈r,p.size≤1000:=fun p hp=>hsm p (List.mem_cons_of_mem _ hp)
 have HBud:=hideIt (ZdP A (cap - 1) (n - 1) r (w.alloc bZero) hrow1 hr1 (by omega) hsm1);have HNam:=hideIt (fun kind=>Zd0 kind A (cap - 1) (n - 1) r (w.alloc bZero) hrow1 hr1 (by omega) hsm1);have HZ:Hid ((w.alloc bZero).heap[w.heap.size]?=some bZero):=Zc _ _ rfl;clear hr hn hrow1 hr1 hsm hsm1;have fin:∀ (o:Option Ln) (e:Ending) (w1:World),Made o (w.alloc bZero) w1 e→∃ x0 x1 s2 s3 a4 n4 c4 ok,e=.returned (.tuple #[lnA x0 x1 s2 s3 a4 n4 c4,.bool ok])∧Below (w.alloc bZero).heap.size (w.alloc bZero) w1 ∧
   ∀ w',w'=(((((w1.setCell ⟨w.heap.size,0,none⟩ (.int .i64 x0)).setCell ⟨w.heap.size,1,none⟩ (.int .i64 x1)).setCell ⟨w.heap.size,2,none⟩ (.string s2)).setCell ⟨w.heap.size,3,none⟩ (.string s3)).setCell ⟨w.heap.size,4,none⟩ (.slice a4 n4 c4))→Made o w w' e:=by
  intro o e w1 h;rcases h with ⟨h1,x0,x1,s2,s3,a4,n4,c4,rfl,hb⟩ | ⟨l,so,sc,h1,rfl,hrow,hfr,hb⟩
  ·exact ⟨x0,x1,s2,s3,a4,n4,c4,false,rfl,hb,fun w' hw=>.inl ⟨h1,x0,x1,s2,s3,a4,n4,c4,rfl,by rw [hw];exact ZaS (Za (Zb _ _) hb) (Nat.le_refl _) _ _ _ _ _⟩⟩
  ·have hne:∀ b off,so=some ⟨b,off,none⟩→w.heap.size≠b:=fun b o e=>by have:=(hfr b o e).1;rw [World.size_alloc] at this;omega
   exact ⟨_,_,_,_,_,_,_,true,rfl,hb,fun w' hw=>.inr ⟨l,so,sc,h1,rfl,by rw [hw];exact Zgs hrow hne _ _ _ _ _,by rw [hw];exact Zih (hfr.mono (by rw [World.size_alloc];exact Nat.le_refl _)) _ _ _ _ _,by rw [hw];exact ZaS (Za (Zb _ _) hb) (Nat.le_refl _) _ _ _ _ _⟩⟩
 have HFin:=hideIt fin;clear fin;cases hb:f0.toList == [98,117,100,103,101,116]
 ·cases hb2:f0.toList == [98,97,115,101]
  ·cases hb3:f0.toList == [112,111,111,108]
   ·have HP:Hid (parseF (f0 :: r)=none):=by show _=_;simp [parseF,hb,hb2,hb3]
    go_enter Tryz.func128,Tryz.ntmps128
    go_wp2_with fail
    exact bodyPost_ret (v:=.tuple #[lnA 0 0 ⟨#[]⟩ ⟨#[]⟩ none 0 0,.bool false]) (by simp [results,Tryz.results128,go_sem]) rfl (.inl ⟨HP.out,_,_,_,_,_,_,_,rfl,Zb _ _⟩)
   ·have HP:Hid (parseF (f0 :: r)=namedF 3 r):=by show _=_;simp [parseF,hb,hb2,hb3]
    go_enter Tryz.func128,Tryz.ntmps128
    go_wp2_with fail
    refine (HNam.out 3).mono ?_;intro e w1 hmade;obtain ⟨x0,x1,s2,s3,a4,n4,c4,ok,rfl,hb1,hfin⟩:=HFin.out _ _ _ hmade;obtain ⟨c0,c1,c2,c3,c4',z0⟩:=Zx hb1 (by simp) HZ.out;have HF:=hideIt hfin;clear hmade hfin hb1;go_wp2_with fail
    refine bodyPost_ret (v:=.tuple #[lnA x0 x1 s2 s3 a4 n4 c4,.bool ok]) (by simp [results,Tryz.results128,go_sem,c0,c1,c2,c3,c4']) rfl ?_;rw [HP.out];exact HF.out _ rfl
  ·have HP:Hid (parseF (f0 :: r)=namedF 2 r):=by show _=_;simp [parseF,hb,hb2]
   go_enter Tryz.func128,Tryz.ntmps128
   go_wp2_with fail
   refine (HNam.out 2).mono ?_;intro e w1 hmade;obtain ⟨x0,x1,s2,s3,a4,n4,c4,ok,rfl,hb1,hfin⟩:=HFin.out _ _ _ hmade;obtain ⟨c0,c1,c2,c3,c4',z0⟩:=Zx hb1 (by simp) HZ.out;have HF:=hideIt hfin;clear hmade hfin hb1;go_wp2_with fail
   refine bodyPost_ret (v:=.tuple #[lnA x0 x1 s2 s3 a4 n4 c4,.bool ok]) (by simp [results,Tryz.results128,go_sem,c0,c1,c2,c3,c4']) rfl ?_;rw [HP.out];exact HF.out _ rfl
 ·have HP:Hid (parseF (f0 :: r)=budF r):=by show _=_;simp [parseF,hb]
  go_enter Tryz.func128,Tryz.ntmps128
  go_wp2_with fail
  refine HBud.out.mono ?_;intro e w1 hmade;obtain ⟨x0,x1,s2,s3,a4,n4,c4,ok,rfl,hb1,hfin⟩:=HFin.out _ _ _ hmade;obtain ⟨c0,c1,c2,c3,c4',z0⟩:=Zx hb1 (by simp) HZ.out;have HF:=hideIt hfin;clear hmade hfin hb1;go_wp2_with fail
  refine bodyPost_ret (v:=.tuple #[lnA x0 x1 s2 s3 a4 n4 c4,.bool ok]) (by simp [results,Tryz.results128,go_sem,c0,c1,c2,c3,c4']) rfl ?_;rw [HP.out];exact HF.out _ rfl
def readN (ls:List (Ln×Value)) (fs:List ByteArray):Nat:=match parseF fs with | none=>2 | some l=>faultN ls l
def Read (ls:List (Ln×Value)) (fs:List ByteArray) (w w':World) (e:Ending):Prop:=
 (readN ls fs≠0∧∃ x0 x1 s2 s3 a4 n4 c4,e=.returned (.tuple #[lnA x0 x1 s2 s3 a4 n4 c4,.int .i64 (readN ls fs)])∧Below w.heap.size w w') ∨
 (∃ l so sc,readN ls fs=0∧parseF fs=some l∧e=.returned (.tuple #[lnA 0 l.kind l.name l.frm so l.sets.length sc,.int .i64 0])∧RowAt w' (.slice so l.sets.length sc) l.sets.length (flatS l.sets)∧Fr w.heap.size w' so∧Below w.heap.size w w')
theorem ZfU (fo:Option Addr) (fc fn:Nat) (fs:List ByteArray) (ao:Option Addr) (cap n:Nat) (ls:List (Ln×Value)) (w:World) (hf:RowAt w (.slice fo fn fc) fn (strs fs)) (hfn:fs.length=fn) (hfn1:fn≤1001) (hfn0:0<fn) (hsm:∀ p∈fs,p.size≤1000)
  (hl:LinesAt w (.slice ao n cap) ls) (hn:ls.length=n) (hn1:n≤1001) :
  Calls Tryz.prog 90 #[.slice fo fn fc,.slice ao n cap] w fun e w'=>Read ls fs w w' e:=by
 have HP:=hideIt (Zhu fo fc fn fs (w.alloc bZero) (hf.nx (Zb _ _)) hfn hfn1 hfn0 hsm);have HL:Hid (LinesAt (w.alloc bZero) (.slice ao n cap) ls∧ls.length=n∧fs.length=fn):=⟨hl.nx (Zb _ _),hn,hfn⟩;have HZ:Hid ((w.alloc bZero).heap[w.heap.size]?=some bZero):=Zc _ _ rfl;clear hf hfn hsm hl hn;go_enter Tryz.func90,Tryz.ntmps90
 go_wp2_with fail
 refine HP.out.mono ?_;rintro e w1 (⟨h1,x0,x1,s2,s3,a4,n4,c4,rfl,hb1⟩ | ⟨l,so,sc,h1,rfl,hrow,hfr,hb1⟩)
 ·have kk:=fun o=>Zx (Za hb1 (Zb w1 o)) (by simp) HZ.out
  have c0:=fun o=>(kk o).1
  have c1:=fun o=>(kk o).2.1
  have c2:=fun o=>(kk o).2.2.1
  have c3:=fun o=>(kk o).2.2.2.1
  have c4':=fun o=>(kk o).2.2.2.2.1
  have z0:=fun o=>(kk o).2.2.2.2.2
  have HX:Hid (readN ls fs=2∧Below w.heap.size w w1):=⟨by rw [readN,h1],Za (Zb _ _) hb1⟩;clear h1 hb1 kk;go_wp2_with fail
  refine bodyPost_ret (v:=.tuple #[lnA 0 0 ⟨#[]⟩ ⟨#[]⟩ none 0 0,.int .i64 2]) (by simp [results,Tryz.results90,go_sem,c0,c1,c2,c3,c4']) rfl (.inl ⟨by rw [HX.out.1];decide,_,_,_,_,_,_,_,by rw [HX.out.1];rfl,?_⟩);exact ZaS (Za HX.out.2 (Zb _ _)) (Nat.le_refl _) _ _ _ _ _
 ·obtain ⟨hkk1,hkk3,hsl⟩:=ZbA h1;have HR0:Hid (readN ls fs=faultN ls l∧parseF fs=some l):=⟨by rw [readN,h1],h1⟩;obtain ⟨kind,name,frm,ss,pl⟩:=l;simp only at hrow hfr hkk1 hkk3 hsl ⊢;have hss:ss.length≤1001:=by rw [HL.out.2.2] at hsl;omega
  have HFA:=hideIt (Zgc ⟨kind,name,frm,ss,pl⟩ 0 so sc ao cap n ls ((w1.alloc (bLn 0 kind name frm so ss.length sc)).drew) ((HL.out.1.nx hb1).nx (Zb _ _).drew) HL.out.2.1 hn1 (hrow.nx (Zb _ _).drew) hss hkk1 hkk3);simp only at HFA;obtain ⟨m,hm⟩:∃ m,ss.length=m:=⟨_,rfl⟩;rw [hm] at hrow hss HFA ⊢;have HM:=hideIt hm;have HX:Hid (Below w.heap.size w w1∧RowAt w1 (.slice so m sc) m (flatS ss)∧Fr (w.heap.size+1) w1 so∧w.heap.size<w1.heap.size∧w1.heap[w.heap.size]?=some bZero):=
   ⟨Za (Zb _ _) hb1,hrow,hfr.mono (by rw [World.size_alloc];exact Nat.le_refl _),Zfd hb1,(hb1.block _ (by simp)).trans HZ.out⟩
  have HQ:Hid (((w1.alloc (bLn 0 kind name frm so m sc)).drew).heap[w.heap.size]?=some bZero∧((w1.alloc (bLn 0 kind name frm so m sc)).drew).heap[w1.heap.size]?=some (bLn 0 kind name frm so m sc)∧w.heap.size<((w1.alloc (bLn 0 kind name frm so m sc)).drew).heap.size∧w1.heap.size<((w1.alloc (bLn 0 kind name frm so m sc)).drew).heap.size):=by
   refine ⟨(Zf _ _ HX.out.2.2.2.1).trans HX.out.2.2.2.2,Zc _ _ rfl,?_,?_⟩
   ·show _<(w1.alloc _).heap.size;rw [World.size_alloc];have:=HX.out.2.2.2.1;omega
   ·show _<(w1.alloc _).heap.size;rw [World.size_alloc];omega
  clear h1 hrow hfr hb1 hsl hm;go_wp2_with fail
  go_region_with (go_at_call 129;refine HFA.out.mono ?_;rintro e w3 ⟨rfl,hb3⟩;obtain ⟨c0,c1,c2,c3,c4',z0⟩:=Zx hb3 HQ.out.2.2.1 HQ.out.1;obtain ⟨d0,d1,d2,d3,d4,z1⟩:=Zx hb3 HQ.out.2.2.2 HQ.out.2.1;have HB3:=hideIt hb3;clear hb3)
  all_goals go_wp2_with fail
  all_goals
   refine bodyPost_ret (v:=.tuple #[lnA 0 kind name frm so m sc,.int .i64 (faultN ls ⟨kind,name,frm,ss,pl⟩)]) (by simp [results,Tryz.results90,go_sem,c0,c1,c2,c3,c4']) rfl ?_;have hbw:Below w.heap.size w w3:=Za (Za HX.out.1 (Zb _ _).drew) HB3.out;by_cases hz:faultN ls ⟨kind,name,frm,ss,pl⟩=0
   ·refine .inr ⟨⟨kind,name,frm,ss,pl⟩,so,sc,by rw [HR0.out.1];exact hz,HR0.out.2,by rw [hz,←HM.out];rfl,?_,Zih ((HX.out.2.2.1.nx (Zb _ _).drew).nx HB3.out) _ _ _ _ _,?_⟩
    ·have hne:∀ b off,so=some ⟨b,off,none⟩→w.heap.size≠b:=fun b o e=>by have:=(HX.out.2.2.1 b o e).1;omega
     have hr3:RowAt w3 (.slice so m sc) m (flatS ss):=(HX.out.2.1.nx (Zb _ _).drew).nx HB3.out;simp only;rw [HM.out];exact Zgs hr3 hne _ _ _ _ _
    ·exact ZaS hbw (Nat.le_refl _) _ _ _ _ _
   ·refine .inl ⟨by rw [HR0.out.1];exact hz,_,_,_,_,_,_,_,by rw [HR0.out.1],?_⟩;exact ZaS hbw (Nat.le_refl _) _ _ _ _ _
end Co
end Go.Proofs.YtcpikklofilkcaaGreat
