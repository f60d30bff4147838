import Derived.Test.YtohoajjdoihekaaGreatDoorUu
import Derived.Deep.CutBlock
set_option linter.unusedVariables false
set_option linter.unusedSimpArgs false
namespace Go.Proofs.YtohoajjdoihekaaGreatDoor
namespace cin
open Go.RowKit Go.Proofs.Tryz Tryz
set_option maxRecDepth 100000
set_option maxHeartbeats 8000000
section
open Go.Maps
structure CfT (T T':TS):Prop where
 sl:∀a,a%M≠2%M->(T'.acc a).slots=(T.acc a).slots
 ch:∃l,T'.ch=T.ch++l/\∀c∈l,c.kind=1->c.at'%M=2%M
theorem CfT.refl (T:TS):CfT T T:=⟨fun _ _=>rfl,⟨[],by simp,by simp⟩⟩
theorem CfT.trans {T U V:TS} (h:CfT T U) (k:CfT U V):CfT T V:=by
 obtain⟨l,h1,h2⟩:=h.ch;obtain⟨l',k1,k2⟩:=k.ch;refine⟨fun a ha=>(k.sl a ha).trans (h.sl a ha),⟨l++l',by rw[k1,h1,List.append_assoc],fun c hc=> ?_⟩⟩;rcases List.mem_append.1 hc with e|e
 ·exact h2 c e
 ·exact k2 c e
theorem zpr {T:TS} (hT:ZP T) {k a key v:Nat} (h:k=1->a%M=2%M) (m:Nat) (hm:m%M≠2%M):((Yt T k a key v).acc m).slots=(T.acc m).slots:=by
 unfold Yt;split
 ·show(Zv T.acc a {T.acc a with bal:=v} m).slots=_;by_cases e:m%M=a%M
  ·rw[YE e,hT m a e]
  ·rw[yC e]
 ·split
  ·rename_i e1;show(Zv T.acc a {T.acc a with slots:=zau (T.acc a).slots key v} m).slots=_;rw[yC (fun e=>hm (e.trans (h e1)))]
  ·rfl
theorem zlt {T:TS} (hT:ZP T) {k a key v:Nat} (h:k=1->a%M=2%M):CfT T (Yo T k a key v):=by
 have hT':ZP {T with ch:=T.ch++[⟨k,a,key,zjq T k a key⟩]}:=hT;refine⟨fun m hm=>zpr hT' h m hm,⟨[⟨k,a,key,zjq T k a key⟩],(zbm _ k a key v).1,fun c hc=> ?_⟩⟩;obtain rfl:=List.mem_singleton.1 hc;exact h
theorem zna {T:TS} (hT:ZP T) (amt fr tt:Nat):CfT T (ZL T amt fr tt):=by
 unfold ZL moveB;have h1:CfT T (zam T amt fr):=zlt hT (fun e=>by cases e);have c1:ZP (zam T amt fr):=(zeH hT 0 fr 0 (Zx 3 ((T.acc fr).bal%M) (amt%M) 0) K9).2;exact h1.trans (zlt c1 (fun e=>by cases e))
theorem zl7 {T':TS} (hT:ZP T') (m:Nat) (hm:m%M≠2%M):∀l:List Chg,(∀c∈l,c.kind=1->c.at'%M=2%M)->((Ya l T').acc m).slots=(T'.acc m).slots
 |[],_=>rfl
 |c::r,hl=>by
  have ih:=zl7 hT m hm r (fun c hc=>hl c (List.mem_cons_of_mem _ hc));show((Yt (Ya r T') c.kind c.at' c.key c.old).acc m).slots=_;rw[zpr (zdX hT r).2 (hl c List.mem_cons_self) m hm,ih]
theorem wake_cf {T T':TS} (hT:ZP T') (h:CfT T T') (st:Nat):CfT T (YM T T' st):=by
 unfold YM;split
 ·exact h
 ·obtain⟨l,h1,h2⟩:=h.ch;have e:T'.ch.drop T.ch.length=l:=by rw[h1];simp
  have hb:zjl T' T.ch.length T.logs.length={Ya l T' with ch:=T'.ch.take T.ch.length,logs:=T'.logs.take T.logs.length}:=by
   unfold zjl;rw[e]
  rw[hb];refine⟨fun m hm=>(zl7 hT m hm l h2).trans (h.sl m hm),⟨[], ?_,by simp⟩⟩;show T'.ch.take T.ch.length=_;rw[h1];simp
def zkQ (c:ByteArray):Prop:=∀i,i<c.size->byt c i≠85/\byt c i≠244
def SafeT (T:TS):Prop:=∀m,m%M≠2%M->zkQ (T.acc m).code
def zjv (F:Fz):Prop:=F.self%M=2%M\/zkQ F.code
theorem zmZ {F:Fz} (h:zkQ F.code):opF F≠85/\opF F≠244:=by
 unfold opF;split
 ·rename_i hn;exact h _ hn
 ·exact⟨by decide,by decide⟩
theorem SafeT.ext {T T':TS} (h:SafeT T) (he:Ext T T'):SafeT T':=fun m hm=>by rw[he.code m];exact h m hm
def CfAll (wk:Wk) (dep:Nat):Prop:=∀G T v fr tt,RunF G->dep<G.depth->G.gas<=100000->GoodT T->T.ch.length+T.logs.length+2+G.gas<=1000000->zjv G->SafeT T->CfT T (wk G T v fr tt).2
theorem zn9 {F G:Fz} {T:TS} {asked tt v:Nat} {data:ByteArray} (hF:zjv F) (hT:SafeT T) (hx:Fx F G):zjv (zK (opF F) asked tt v data G T):=by
 by_cases e:opF F=244
 ·rcases hF with h|h
  ·refine Or.inl ?_;show(if opF F=244 then G.self else tt)%M=_;rw[if_pos e,hx.self];exact h
  ·exact absurd e (zmZ h).2
 ·by_cases e2:tt%M=2%M
  ·refine Or.inl ?_;show(if opF F=244 then G.self else tt)%M=_;rw[if_neg e];exact e2
  ·exact Or.inr (hT tt e2)
theorem step_cf {wk:Wk} {dep:Nat} {F F':Fz} {T T':TS} (hR:CfAll wk dep) (hd:dep<=F.depth) (hg:F.gas<=100000) (hT:GoodT T) (hb:T.ch.length+T.logs.length+F.gas<=1000000) (hF:zjv F) (hS:SafeT T) (h:Z1 wk F T=some (F',T')):CfT T T':=by
 rcases step_to h with rfl|⟨_,⟨kd,c,h1,h2,rfl⟩|⟨L,rfl,_⟩⟩|⟨asked,tt,v,data,G,h1,h2,h3,h4,h5,rfl⟩
 ·exact CfT.refl _
 ·refine zlt hT.cong fun e=> ?_
  rcases hF with h|h
  ·exact h
  ·exact absurd (h2 e) (zmZ h).1
 ·exact⟨fun _ _=>rfl,⟨[],by simp,by simp⟩⟩
 ·have hgl:=zdz G asked;exact hR (zK (opF F) asked tt v data G T) T v G.self tt (zd8 h3 h4 hT) (by show dep<G.depth+1;rw[h1.depth];omega) (by show Zg G asked<=_;omega) hT (by show T.ch.length+T.logs.length+2+Zg G asked<=_;omega) (zn9 hF hS h1) hS
theorem zmo {wk:Wk} {A dep:Nat} (hA:2<=A) (hW:zmI wk A dep) (hR:CfAll wk dep):∀(n:Nat) (F:Fz) (T:TS),RunF F->dep<=F.depth->F.gas<=100000->GoodT T->T.ch.length+T.logs.length+F.gas<=1000000->zjv F->SafeT T->CfT T (Zl wk n F T).2
 |0,F,T,_,_,_,_,_,_,_=>CfT.refl T
 |n+1,F,T,hr,hd,hg,hT,hb,hF,hS=>by
  rw[Zl];by_cases he:F.ended=true
  ·rw[if_pos he];exact CfT.refl T
  ·rw[if_neg he];obtain⟨s1,s2⟩:=zgD hA hW hr hd hg hT hb;cases hs:Z1 wk F T with
   |none=>exact CfT.refl T
   |some y=>
    obtain⟨F',T'⟩:=y;have h:=s2 F' T' hs;have h1:=step_cf hR hd hg hT hb hF hS hs;dsimp only;have hbud:=h.bud;have hfx:=h.fx;have hgn:F'.gas<=F.gas:=h.gas;by_cases e:F'.ended=true
    ·cases n with
     |zero=>exact h1
     |succ n=>rw[Zl,if_pos e];exact h1
    ·have e:F'.ended=false:=by simpa using e
     have hF':zjv F':=by
      unfold zjv;rw[hfx.self,hfx.code];exact hF
     exact h1.trans (zmo hA hW hR n F' T' ⟨by rw[hfx.code];exact hr.cs,by rw[hfx.data];exact hr.ds,h.rs,by rw[hfx.depth];exact hr.dp,h.nx e,h.pc,h.os,h.st⟩ (by rw[hfx.depth];exact hd) K9 (hT.ext h.ext h.cong) K9 hF' (hS.ext h.ext))
theorem zog:∀d,d<=16->CfAll (wkM d) (16 - d)
 |0,_=>fun G T v fr tt hr hd=>by have:=hr.dp;omega
 |d+1,h16=>fun G T v fr tt hr hd hg hT hb hF hS=>by
  have ih:=zog d K9;have iw:=zkT d K9;obtain⟨e1,e2,e3,e4⟩:=zfl hT.cong v fr tt;have hTm:=hT.ext e1 e2;have h:=zmo K9 iw ih (G.gas+2) G (ZL T v fr tt) hr K9 hg hTm (by rw[e3,e4];omega) hF (hS.ext e1);have hc:=(zkJ K9 iw (G.gas+2) G (ZL T v fr tt) (fun _=>Nat.le_refl _) K9 hr K9 hg hTm (by rw[e3,e4];omega)).2.2.2.1;exact wake_cf hc ((zna hT.cong v fr tt).trans h) _
def zef:ByteArray:=⟨#[95,95,54,95,95,55,54,95,96,1,96,2,90,241,0]⟩
theorem zpg:zkQ zef:=by
 intro i hi;have hi:i<15:=hi;rcases(show i=0\/i=1\/i=2\/i=3\/i=4\/i=5\/i=6\/i=7\/i=8\/i=9\/i=10\/i=11\/i=12\/i=13\/i=14 by omega) with rfl|rfl|rfl|rfl|rfl|rfl|rfl|rfl|rfl|rfl|rfl|rfl|rfl|rfl|rfl<;>exact⟨by decide,by decide⟩
section
variable {data:ByteArray} {T:TS} {g fr:Nat}
def CfF (fr:Nat) (data:ByteArray) (g:Nat) (mem:List UInt8):Fz:={Wfr zef fr 0 data g [] 14 13 mem with ret:=⟨#[]⟩}
theorem znM {wk:Wk} {mem:List UInt8} {pc:Nat} (hT:GoodT T) (hd:data.size<=500) (hm:mem.length=32*zA data.size) (hg:2000<=g) (hg2:g<=100000):∃F' T',Z1 wk (Wfr zef fr 0 data g [g,2,1,0,data.size,0,0] 13 pc mem) T=some (F',T')/\F'.code=zef/\F'.nx=14/\F'.ended=false/\F'.status=0/\(T'=T\/∃G,RunF G/\G.depth=2/\G.gas<=g/\G.self=2/\T'=(wk G T 1 1 2).2):=by
 have hM:=zkf;have e1:¬1%M=0:=by rw[Nat.mod_eq_of_lt K9];omega
 have key:∀r,za0 wk 241 g 2 1 (ZH (zL mem 0 data.size)) 0 0 (CfF fr data (g - 1000) mem) T=r->Z1 wk (Wfr zef fr 0 data g [g,2,1,0,data.size,0,0] 13 pc mem) T=zdE r:=by
  intro r hr;refine st_n (op:=241) (c:=100) rfl rfl (by show 100<=g;omega) ?_;show zdE (zdA wk 241 g 2 1 0 data.size 0 0 (Wfr zef fr 0 data (g - 100) [] 14 13 mem) T)=_;unfold zdA zdi;rw[if_neg e1,if_neg (by show¬false=true;exact Bool.false_ne_true)];unfold yt;rw[if_neg (by show¬g - 100<900;omega)];show zdE (zas wk 241 g 2 1 0 data.size 0 0 (Wfr zef fr 0 data (g - 100 - 900) [] 14 13 mem) T)=_;rw[show g - 100 - 900=g - 1000 by omega];unfold zas;rw[zjQ (F:=Wfr zef fr 0 data (g - 1000) [] 14 13 mem) hd hm];dsimp only;rw[zle];dsimp only;rw[<-hr];rfl
 by_cases hmay:YR (CfF fr data (g - 1000) mem) T 1=true
 ·refine⟨{zei {CfF fr data (g - 1000) mem with gas:=g - 1000 - Zg (CfF fr data (g - 1000) mem) g} (wk (zK 241 g 2 1 (ZH (zL mem 0 data.size)) (CfF fr data (g - 1000) mem) T) T 1 1 2).1.gas (wk (zK 241 g 2 1 (ZH (zL mem 0 data.size)) (CfF fr data (g - 1000) mem) T) T 1 1 2).1.out 0 0 with st:=[if (wk (zK 241 g 2 1 (ZH (zL mem 0 data.size)) (CfF fr data (g - 1000) mem) T) T 1 1 2).1.st=0 then 1 else 0]},(wk (zK 241 g 2 1 (ZH (zL mem 0 data.size)) (CfF fr data (g - 1000) mem) T) T 1 1 2).2, ?_,rfl,rfl,rfl,rfl,Or.inr ⟨zK 241 g 2 1 (ZH (zL mem 0 data.size)) (CfF fr data (g - 1000) mem) T,zd8 (Nat.le_trans (zdj _ _ _) K9) hmay hT,rfl, ?_,rfl,rfl⟩⟩
  ·refine key (some (_,_)) ?_;unfold za0;rw[if_pos hmay];rfl
  ·show Zg (CfF fr data (g - 1000) mem) g<=g;exact Nat.le_trans (zdz _ _) (by show g - 1000<=g;omega)
 ·refine⟨{CfF fr data (g - 1000) mem with st:=[0]},T, ?_,rfl,rfl,rfl,rfl,Or.inl rfl⟩;refine key (some (_,_)) ?_;unfold za0;rw[if_neg hmay];rfl
theorem zpj {wk:Wk} (hT:GoodT T) (hd:data.size<=500) (hg:3000<=g) (hg2:g<=100000):∃F2 T',F2.status=0/\(∀n,Zl wk (n+14) (zd3 zef fr 1 0 data g) T=(some F2,T'))/\(T'=T\/∃G,RunF G/\G.depth=2/\G.gas<=g/\G.self=2/\T'=(wk G T 1 1 2).2):=by
 obtain⟨g1,mem1,h1,h2,h2b,h3⟩:=own_pre (wk:=wk) (c:=zef) (fr:=fr) (val:=0) (data:=data) (g:=g) (T:=T) (fun i hi=>by
  rcases(show i=0\/i=1\/i=2\/i=3\/i=4\/i=5\/i=6\/i=7 by omega) with rfl|rfl|rfl|rfl|rfl|rfl|rfl|rfl<;>kernel_rfl) (by show 8<15;omega) hd K9
 obtain⟨F',T',k1,k2,k3,k4,k5,k6⟩:=znM (wk:=wk) (data:=data) (T:=T) (g:=g1 - 8) (fr:=fr) (mem:=mem1) (pc:=12) hT hd h3 K9 K9
 have hst:Z1 wk F' T'=some ({zQ F' 0 with ended:=true},T'):=by
  refine st_n (op:=0) (c:=0) ?_ rfl (Nat.zero_le _) rfl;unfold opF;rw[k2,k3]
  kernel_rfl
 refine⟨{zQ F' 0 with ended:=true},T',k5,fun n=> ?_, ?_⟩
 ·rw[show n+14=n+6+8 from rfl,h1 (n+6)];rw[Z3 (n:=n+5) rfl (zmF (c:=zef) (x:=1) (nx:=8) (by kernel_rfl) (by show 8<15;omega) (by kernel_rfl) K9 (by simp))];rw[Z3 (n:=n+4) rfl (zmF (c:=zef) (x:=2) (nx:=10) (by kernel_rfl) (by show 10<15;omega) (by kernel_rfl) K9 (by simp))];rw[Z3 (n:=n+3) rfl (s_gas (c:=zef) (nx:=12) (by kernel_rfl) (by show 12<15;omega) K9 (by simp))];rw[show g1 - 3 - 3 - 2=g1 - 8 by omega,Z3 (n:=n+2) rfl k1];rw[Z3 (n:=n+1) k4 hst];rw[Zl,if_pos rfl]
 ·rcases k6 with e|⟨G,q1,q2,q3,q4,q5⟩
  ·exact Or.inl e
  ·exact Or.inr ⟨G,q1,q2,by omega,q4,q5⟩
theorem zoa {A:Nat->Acc} (hT:GoodT (T0 A)) (hS:SafeT (T0 A)) (hc:(A 1).code=zef) (hd:data.size<=500) (hg:3000<=g) (hg2:g<=100000):(YT (T0 A) 1 1 0 data g).1.st=0/\CfT (T0 A) (YT (T0 A) 1 1 0 data g).2:=by
 obtain⟨e1,e2,e3,e4⟩:=zfl hT.cong 0 1 1;have hTm:=hT.ext e1 e2;obtain⟨F2,T',h5,h6,h7⟩:=zpj (wk:=wkM 15) (data:=data) (T:=ZL (T0 A) 0 1 1) (g:=g) (fr:=1) hTm hd hg hg2;have h6:=h6 (g - 12);rw[show g - 12+14=g+2 by omega] at h6
 have hs:YT (T0 A) 1 1 0 data g=(outM (some F2),YM (T0 A) T' (zcr (some F2))):=by
  unfold YT;rw[show((T0 A).acc 1).code=zef from hc];show(outM (Zl (wkM 15) (g+2) (zd3 zef 1 1 0 data g) (ZL (T0 A) 0 1 1)).1,YM (T0 A) (Zl (wkM 15) (g+2) (zd3 zef 1 1 0 data g) (ZL (T0 A) 0 1 1)).2 (zcr (Zl (wkM 15) (g+2) (zd3 zef 1 1 0 data g) (ZL (T0 A) 0 1 1)).1))=_;rw[h6]
 have hz:zcr (some F2)=0:=h5;rw[hs,hz];refine⟨h5, ?_⟩;show CfT (T0 A) T';refine(zna hT.cong 0 1 1).trans ?_;rcases h7 with rfl|⟨G,q1,q2,q3,q4,rfl⟩
 ·exact CfT.refl _
 ·exact zog 15 K9 G (ZL (T0 A) 0 1 1) 1 1 2 q1 K9 K9 hTm (by rw[e3,e4];show 0+2+0+2+G.gas<=_;omega) (Or.inl (by rw[q4])) (hS.ext e1)
end
end
section
open Go.Maps
def zaw (own what:ByteArray):List AcE:=[⟨1,100,own,[(0,8)]⟩,⟨2,7,zap what,[(0,3)]⟩,⟨3,0,⟨#[]⟩,[(0,3),(1,5)]⟩]
theorem zlk {own:ByteArray} (ho:own.size<=1000) (what:ByteArray):∀a∈zaw own what,a.code.size<=1000:=by
 intro a ha;unfold zaw at ha;rcases List.mem_cons.1 ha with rfl|ha
 ·exact ho
 rcases List.mem_cons.1 ha with rfl|ha
 ·exact zoo _
 rcases List.mem_cons.1 ha with rfl|ha
 ·exact Nat.zero_le _
 ·cases ha
theorem right08:zbe [(0,8)]=true:=by kernel_rfl
theorem right35:zbe [(0,3),(1,5)]=true:=by kernel_rfl
theorem zkO {own:ByteArray} (ho:own.size<=1000) (what:ByteArray):zaL (zaw own what)=true:=by
 unfold zaL;rw[Bool.and_eq_true];refine⟨rfl,zfE fun j hj=> ?_⟩;have hj:j<3:=hj;have e1:decide (own.size<=1000)=true:=decide_eq_true ho;have e2:decide ((zap what).size<=1000)=true:=decide_eq_true (zoo _)
 have c12:Z7 1 2= -1:=by
  unfold Z7;rw[zeE K9,zeE K9,if_pos K9]
 have c23:Z7 2 3= -1:=by
  unfold Z7;rw[zeE K9,zeE K9,if_pos K9]
 rcases(show j=0\/j=1\/j=2 by omega) with rfl|rfl|rfl
 ·show(true&&(decide (own.size<=1000)&&zbe [(0,8)]))=true;rw[e1,right08];rfl
 ·show((false|| !decide (0<=Z7 1 2))&&(decide ((zap what).size<=1000)&&zbe [(0,3)]))=true;rw[e2,right03,c12];rfl
 ·show((false|| !decide (0<=Z7 2 3))&&(true&&zbe [(0,3),(1,5)]))=true;rw[right35,c23];rfl
theorem ziO (own what:ByteArray) (m:Nat):ZY (zaw own what) m=if m%M=3%M then YL ⟨3,0,⟨#[]⟩,[(0,3),(1,5)]⟩ else if m%M=2%M then YL ⟨2,7,zap what,[(0,3)]⟩ else if m%M=1%M then YL ⟨1,100,own,[(0,8)]⟩ else noA m:=rfl
theorem ne_m {a b:Nat} (ha:a<=1000) (hb:b<=1000) (h:a≠b):a%M≠b%M:=by rw[zeE K9,zeE K9];exact h
theorem zoz (own what:ByteArray):ZY (zaw own what) 1=YL ⟨1,100,own,[(0,8)]⟩:=by
 rw[ziO,if_neg (ne_m K9 K9 K9),if_neg (ne_m K9 K9 K9),if_pos rfl]
theorem conf_3 (own what:ByteArray):ZY (zaw own what) 3=YL ⟨3,0,⟨#[]⟩,[(0,3),(1,5)]⟩:=by
 rw[ziO,if_pos rfl]
theorem zn1 (what:ByteArray):SafeT (T0 (ZY (zaw zef what))):=by
 intro m hm;show zkQ (ZY (zaw zef what) m).code;rw[ziO,if_neg hm];split
 ·exact fun i hi=>absurd hi (by show¬i<0;omega)
 ·split
  ·exact zpg
  ·exact fun i hi=>absurd hi (by show¬i<0;omega)
def zkH (k:Nat):List (Nat×Nat):=if k=1 then[(0,8)] else if k=3 then[(0,3),(1,5)] else[]
theorem zkw {s:Nat->Nat} {us ks:List Nat} (h:SortedKeys (Zs s) us) (hs:ks.Pairwise (·<·)) (hk:∀m,m∈ks↔m<M/\s m%M≠0):us=ks:=
 zcp h.1 hs fun m=>by
  rw[h.2,hk];refine and_congr_right fun _=> ?_
  unfold Zs;by_cases e:s m%M=0
  ·rw[if_pos e];simp[e]
  ·rw[if_neg e];simp[e]
theorem sls08 (m:Nat):zbt [(0,8)] m=if m%M=0%M then 8 else 0:=rfl
theorem zmj (m:Nat):zbt [(0,3),(1,5)] m=if m%M=1%M then 5 else if m%M=0%M then 3 else 0:=rfl
theorem zk9 {own what:ByteArray} {B:Nat->Acc} (hsl:∀a,a%M≠2%M->(B a).slots=(ZY (zaw own what) a).slots) {k:Nat} {us:List Nat} (hk:k<M) (h2:k≠2) (h:SortedKeys (Zs (B k).slots) us):(us.map fun m=>(m,(B k).slots m%M))=zkH k:=by
 have hM:=zkf;have ek:k%M=k:=Nat.mod_eq_of_lt hk;have e0:0%M=0:=Nat.zero_mod _;have e1:1%M=1:=zeE K9;have e2:2%M=2:=zeE K9;have e3:3%M=3:=zeE K9;have e5:5%M=5:=zeE K9;have e8:8%M=8:=zeE K9;have hB:=hsl k (by rw[ek,e2];exact h2);rw[ziO,ek,e1,e2,e3] at hB;rw[hB] at h⊢;clear hB hsl;unfold zkH;by_cases k3:k=3
 ·rw[if_pos k3] at h⊢;have hs:(YL ⟨3,0,⟨#[]⟩,[(0,3),(1,5)]⟩).slots=zbt [(0,3),(1,5)]:=rfl;rw[hs] at h⊢;rw[if_neg K9,if_pos k3]
  have hu:us=[0,1]:=zkw h (by decide) fun m=>by
   rw[zmj];constructor
   ·intro hm;rcases List.mem_cons.1 hm with rfl|hm
    ·exact⟨by omega,by rw[e0,e1,if_neg K9,if_pos rfl,e3];omega⟩
    ·obtain rfl:=List.mem_singleton.1 hm;exact⟨by omega,by rw[if_pos rfl,e5];omega⟩
   ·rintro⟨q1,q2⟩;rw[Nat.mod_eq_of_lt q1,e0,e1] at q2;by_cases m1:m=1
    ·rw[m1];decide
    ·by_cases m0:m=0
     ·rw[m0];decide
     ·rw[if_neg m1,if_neg m0,e0] at q2;exact absurd rfl q2
  rw[hu];show[(0,zbt [(0,3),(1,5)] 0%M),(1,zbt [(0,3),(1,5)] 1%M)]=_;rw[zmj,zmj,e0,e1,if_neg K9,if_pos rfl,if_pos rfl,e3,e5]
 ·rw[if_neg k3,if_neg h2] at h⊢;by_cases k1:k=1
  ·rw[if_pos k1] at h⊢;have hs:(YL ⟨1,100,own,[(0,8)]⟩).slots=zbt [(0,8)]:=rfl;rw[hs] at h⊢;rw[if_pos k1]
   have hu:us=[0]:=zkw h (by decide) fun m=>by
    rw[sls08];constructor
    ·intro hm;obtain rfl:=List.mem_singleton.1 hm;exact⟨by omega,by rw[if_pos rfl,e8];omega⟩
    ·rintro⟨q1,q2⟩;rw[Nat.mod_eq_of_lt q1,e0] at q2;by_cases m0:m=0
     ·rw[m0];decide
     ·rw[if_neg m0,e0] at q2;exact absurd rfl q2
   rw[hu];show[(0,zbt [(0,8)] 0%M)]=_;rw[sls08,if_pos rfl,e8]
  ·rw[if_neg k1] at h⊢;rw[if_neg k1,if_neg k3]
   have hu:us=[]:=zkw h List.Pairwise.nil fun m=>by
    constructor
    ·intro hm;cases hm
    ·rintro⟨_,q2⟩;exact absurd (show(noA k).slots m%M=0 from Nat.zero_mod _) q2
   rw[hu];rfl
end
section
open Go.Maps
def srcC:ByteArray:=⟨#[48,32,48,32,67,65,76,76,68,65,84,65,83,73,90,69,32,48,32,48,32,67,65,76,76,68,65,84,65,67,79,80,89,32,67,65,76,76,68,65,84,65,83,73,90,69,32,48,32,49,32,50,32,71,65,83,32,67,65,76,76,32,83,84,79,80]⟩
theorem zoV:asm srcC=(zef,0,0):=by kernel_rfl
section
variable {s:Act} {x:World} {pos:String} {af:Array Edge} {g:Option (Nat×Bool)} {K:Act->World->Prop} {Q:Exit->Act->World->Prop}
theorem zl0 {t u d m n:Nat} {r:Bool} {ty:TypeId} (he:s.tmps.getD t undef=wv m) (hu:s.tmps.getD u undef=wv n) (hr:eqw m n=r) (hK:K (s.put (some d) (.bool r)) x):
  Oper.wp prog ⟨some d,.binOp .eql 24 (.tmp t) (.tmp u) 24,ty,pos,af,g⟩ s x K Q:=by
 have he2:s.eval (.tmp t)=wv m:=he;have hu2:s.eval (.tmp u)=wv n:=hu;have hq:∀w,(Op.equalIn 10000 24 (wv m) (wv n)).run prog w=.ok r w:=fun w=>by rw[zde,hr]
 go_simp;exact hK
end
def Lying (w x:World) (vs:List (Value×List (Nat×Nat))):Prop:=Below w.heap.size w x/\∀p∈vs,SlIn x p.1 p.2
theorem Lying.step {w x y:World} {vs:List (Value×List (Nat×Nat))} (h:Lying w x vs) (hb:Below x.heap.size x y):Lying w y vs:=⟨h.1.trans (hb.mono h.1.size),fun p hp=>(h.2 p hp).below hb⟩
theorem zhl (x:World) (cs:List Value) (t:TypeId) (k:Nat) (u:Value) (h:cs[k]? =some u):(x.alloc (.cells cs.toArray t)).cell? ⟨x.heap.size,k,none⟩=some u:=by
 have h2:=zV x cs.toArray t k u h;have e:(⟨x.heap.size,0,none⟩:Addr).add k=⟨x.heap.size,k,none⟩:=by simp[Addr.add,eq_comm]
 rwa[e] at h2
theorem zlw (x:World) (l:List (Nat×Nat)) (c:Nat):SlIn (x.alloc (.cells (zh9 l).toArray 54)) (.slice (some ⟨x.heap.size,0,none⟩) l.length c) l:=by
 refine⟨_,_,rfl,Or.inr ⟨_,_,rfl,by simp,fun i p hp j hj=> ?_⟩⟩;rw[Nat.zero_add];exact zhl x _ _ _ _ (zi7 l i p hp j hj)
theorem Lying.add {w x:World} {vs:List (Value×List (Nat×Nat))} (h:Lying w x vs) {o:Obj} {v:Value} {l:List (Nat×Nat)} (hs:SlIn (x.alloc o) v l):Lying w (x.alloc o) ((v,l)::vs):=by
 have hb:Below x.heap.size x (x.alloc o):=bal (Below.refl _ x) o;refine⟨(h.step hb).1,fun p hp=> ?_⟩;rcases List.mem_cons.1 hp with rfl|hp
 ·exact hs
 ·exact(h.step hb).2 p hp
theorem ac_lay (x:World) (l:List AcE) (sls:List Value) (c:Nat) (hl:sls.length=l.length) (h:∀(i:Nat) a sl,l[i]? =some a->sls[i]? =some sl->SlIn x sl a.slots):AcIn (x.alloc (.cells (acW l sls).toArray 34)) (.slice (some ⟨x.heap.size,0,none⟩) l.length c) l:=by
 refine⟨_,_,rfl,Or.inr ⟨_,_,rfl,by simp,fun i a ha=> ?_⟩⟩;have hi:i<sls.length:=by rw[hl];exact(List.getElem?_eq_some_iff.1 ha).1
 have hs:=List.getElem?_eq_getElem hi;refine⟨sls[i],fun j hj=> ?_,(h i a _ ha hs).below (bal (Below.refl _ x) _)⟩;rw[Nat.zero_add];exact zhl x _ _ _ _ (zmG l sls hl i a _ ha hs j hj)
structure CfL (g:Nat) (v1 v3:Value) (y:World):Prop where
 lt:g<y.heap.size
 c1:y.cell? ⟨g,9,none⟩=some v1
 c3:y.cell? ⟨g,29,none⟩=some v3
 s1:SlIn y v1 [(0,8)]
 s3:SlIn y v3 [(0,3),(1,5)]
theorem conf_in {w x:World} {c what:ByteArray} {v1 v2 v3:Value} {g:Nat} (hg:g=x.heap.size) (h:Lying w x [(v3,[(0,3),(1,5)]),(v2,[(0,3)]),(v1,[(0,8)])]):AcIn (x.alloc (.cells #[.int .u64 (za 1 0),.int .u64 (za 1 1),.int .u64 (za 1 2),.int .u64 (za 1 3),.int .u64 (za 100 0),.int .u64 (za 100 1),.int .u64 (za 100 2),.int .u64 (za 100 3),.string c,v1,.int .u64 (za 2 0),.int .u64 (za 2 1),.int .u64 (za 2 2),.int .u64 (za 2 3),.int .u64 (za 7 0),.int .u64 (za 7 1),.int .u64 (za 7 2),.int .u64 (za 7 3),.string (zap what),v2,.int .u64 (za 3 0),.int .u64 (za 3 1),.int .u64 (za 3 2),.int .u64 (za 3 3),.int .u64 0,.int .u64 0,.int .u64 0,.int .u64 0,.string ⟨#[]⟩,v3] 34)) (.slice (some ⟨g,0,none⟩) 3 3) (zaw c what)/\CfL g v1 v3 (x.alloc (.cells #[.int .u64 (za 1 0),.int .u64 (za 1 1),.int .u64 (za 1 2),.int .u64 (za 1 3),.int .u64 (za 100 0),.int .u64 (za 100 1),.int .u64 (za 100 2),.int .u64 (za 100 3),.string c,v1,.int .u64 (za 2 0),.int .u64 (za 2 1),.int .u64 (za 2 2),.int .u64 (za 2 3),.int .u64 (za 7 0),.int .u64 (za 7 1),.int .u64 (za 7 2),.int .u64 (za 7 3),.string (zap what),v2,.int .u64 (za 3 0),.int .u64 (za 3 1),.int .u64 (za 3 2),.int .u64 (za 3 3),.int .u64 0,.int .u64 0,.int .u64 0,.int .u64 0,.string ⟨#[]⟩,v3] 34))/\Below w.heap.size w (x.alloc (.cells #[.int .u64 (za 1 0),.int .u64 (za 1 1),.int .u64 (za 1 2),.int .u64 (za 1 3),.int .u64 (za 100 0),.int .u64 (za 100 1),.int .u64 (za 100 2),.int .u64 (za 100 3),.string c,v1,.int .u64 (za 2 0),.int .u64 (za 2 1),.int .u64 (za 2 2),.int .u64 (za 2 3),.int .u64 (za 7 0),.int .u64 (za 7 1),.int .u64 (za 7 2),.int .u64 (za 7 3),.string (zap what),v2,.int .u64 (za 3 0),.int .u64 (za 3 1),.int .u64 (za 3 2),.int .u64 (za 3 3),.int .u64 0,.int .u64 0,.int .u64 0,.int .u64 0,.string ⟨#[]⟩,v3] 34)):=by
 subst hg
 have e:(acW (zaw c what) [v1,v2,v3]).toArray=#[.int .u64 (za 1 0),.int .u64 (za 1 1),.int .u64 (za 1 2),.int .u64 (za 1 3),.int .u64 (za 100 0),.int .u64 (za 100 1),.int .u64 (za 100 2),.int .u64 (za 100 3),.string c,v1,.int .u64 (za 2 0),.int .u64 (za 2 1),.int .u64 (za 2 2),.int .u64 (za 2 3),.int .u64 (za 7 0),.int .u64 (za 7 1),.int .u64 (za 7 2),.int .u64 (za 7 3),.string (zap what),v2,.int .u64 (za 3 0),.int .u64 (za 3 1),.int .u64 (za 3 2),.int .u64 (za 3 3),.int .u64 0,.int .u64 0,.int .u64 0,.int .u64 0,.string ⟨#[]⟩,v3]:=by
  simp only[acW,zaw,acC,zn];rfl
 have hb:Below x.heap.size x (x.alloc (.cells (acW (zaw c what) [v1,v2,v3]).toArray 34)):=bal (Below.refl _ x) _;have h2:=h.step hb
 have hA:=ac_lay x (zaw c what) [v1,v2,v3] 3 rfl (fun i a sl h1 h2=>by
  rcases(by have:=(List.getElem?_eq_some_iff.1 h1).1;simp[zaw] at this;omega:i=0\/i=1\/i=2) with rfl|rfl|rfl
  ·obtain rfl:=Option.some.inj h1;obtain rfl:=Option.some.inj h2;exact h.2 (_,_) (by simp)
  ·obtain rfl:=Option.some.inj h1;obtain rfl:=Option.some.inj h2;exact h.2 (_,_) (by simp)
  ·obtain rfl:=Option.some.inj h1;obtain rfl:=Option.some.inj h2;exact h.2 (_,_) (by simp))
 rw[<-e];exact⟨hA,⟨by simp,zhl x _ _ 9 _ rfl,zhl x _ _ 29 _ rfl,h2.2 (v1,_) (by simp),h2.2 (v3,_) (by simp)⟩,h2.1⟩
theorem CfL.below {g:Nat} {v1 v3:Value} {y x:World} (h:CfL g v1 v3 y) (hb:Below y.heap.size y x):CfL g v1 v3 x:=
 ⟨Nat.lt_of_lt_of_le h.lt hb.size,(hb.cell h.lt).trans h.c1,(hb.cell h.lt).trans h.c3,h.s1.below hb,h.s3.below hb⟩
structure CfW (y:World) (gb ab n:Nat) (A:Nat->Acc) (sb:Nat->Value) (x:World):Prop where
 host:HostAt gb ab n A sb x
 be:Below y.heap.size y x
 gbl:y.heap.size<=gb
 ft:∀k,ZZ ab A sb k->y.heap.size<=k
theorem CfW.below {y:World} {gb ab n:Nat} {A:Nat->Acc} {sb:Nat->Value} {x z:World} (h:CfW y gb ab n A sb x) (hb:Below x.heap.size x z):CfW y gb ab n A sb z:=
 ⟨h.host.bel hb,h.be.trans (hb.mono h.be.size),h.gbl,h.ft⟩
structure CfS (y:World) (gb:Nat) (A:Nat->Acc) (x:World):Prop where
 host:∃ab n sb,n<=1000000000000/\∃B,HostAt gb ab n B sb x/\∀a,a%M≠2%M->(B a).slots=(A a).slots
 be:Below y.heap.size y x
 gbl:y.heap.size<=gb
theorem CfS.below {y:World} {gb:Nat} {A:Nat->Acc} {x z:World} (h:CfS y gb A x) (hb:Below x.heap.size x z):CfS y gb A z:=by
 obtain⟨ab,n,sb,h1,B,h2,h3⟩:=h.host;exact⟨⟨ab,n,sb,h1,B,h2.bel hb,h3⟩,h.be.trans (hb.mono h.be.size),h.gbl⟩
theorem zoe {gb ab n g:Nat} {A:Nat->Acc} {sb:Nat->Value} {d:ByteArray} {y x:World} (h:CfW y gb ab n A sb x) (hn:n<=40) (hA:GoodT (T0 A)) (hS:SafeT (T0 A)) (hc:(A 1).code=zef) (hd:d.size<=500) (hg:3000<=g) (hg2:g<=100000):
  Calls prog 13 #[.pointer (some ⟨gb,0,none⟩),.agg #[.int .u64 (za 1 0),.int .u64 (za 1 1),.int .u64 (za 1 2),.int .u64 (za 1 3),.int .u64 (za 1 0),.int .u64 (za 1 1),.int .u64 (za 1 2),.int .u64 (za 1 3),.int .u64 0,.int .u64 0,.int .u64 0,.int .u64 0,.string d,.int .i64 (g:Int)]] x fun e w'=>∃(gs:Nat) (out:ByteArray) (lv:Value),e=.returned (.tuple #[zaJ 0 gs out lv,.int .i64 0])/\(∃ad n cp,lv=.slice ad n cp)/\CfS y gb A w':=by
 have hd':=zpA 1 1 0 g d x h.host hd hg2 hA K9;obtain⟨s1,s2⟩:=zoa hA hS hc hd hg hg2;rw[low_no] at hd';unfold zjX msgC at hd';simp only[zn] at hd'⊢;refine hd'.mono ?_;rintro e w' hs;unfold SendR at hs;rw[if_neg Bool.false_ne_true,s1] at hs;obtain⟨lv,b,tv,n',sb',he,hh,hn',hb,hlo,⟨S2,hk,hS2⟩,haf⟩:=hs
 have hlen:∃ad n cp,lv=.slice ad n cp:=by
  rcases hlo.2.1.2 with⟨e,_⟩|⟨q,cap,cur,e,_⟩
  ·exact⟨_,_,_,e⟩
  ·exact⟨_,_,_,e⟩
 refine⟨_,_,lv,he,hlen,⟨ab,n',sb',by omega,_,hh,fun a ha=>s2.sl a ha⟩,zgc h.be hk ?_,h.gbl⟩;intro k hk;rcases List.mem_cons.1 hk with rfl|hk
 ·exact h.gbl
 ·exact h.ft k (hS2 k hk)
def zgO:List Nat->Nat
 |[]=>0
 |k::r=>(if k=2 then 0 else 1)+zgO r
theorem zmW:∀s:List Nat,zgO s<=s.length
 |[]=>Nat.le_refl _
 |k::r=>by
  have:=zmW r;show(if k=2 then 0 else 1)+zgO r<=r.length+1;split<;>omega
theorem zkr:∀s t:List Nat,zgO (s++t)=zgO s+zgO t
 |[],t=>by simp[zgO]
 |k::r,t=>by
  show(if k=2 then 0 else 1)+zgO (r++t)=(if k=2 then 0 else 1)+zgO r+zgO t;rw[zkr r t];omega
theorem zky {k:Nat} (hk:k≠2):∀{t:List Nat},k∈t->1<=zgO t
 |a::r,h=>by
  show 1<=(if a=2 then 0 else 1)+zgO r;rcases List.mem_cons.1 h with rfl|h
  ·rw[if_neg hk];omega
  ·have:=zky hk h;omega
theorem znF {own what:ByteArray} {B:Nat->Acc} {l:List AcE} (hsl:∀a,a%M≠2%M->(B a).slots=(ZY (zaw own what) a).slots) (h:IsList B l):(∀(i:Nat) a,l[i]? =some a->a.at'<M/\(a.at'≠2->a.slots=zkH a.at'))/\2<=zgO (l.map AcE.at'):=by
 obtain⟨ts,h1,h2,h3⟩:=h.ex;have hM:=zkf
 have hmap:l.map AcE.at'=ts:=by
  refine List.ext_getElem (by simpa using h2) fun i hi hi2=> ?_
  have hil:i<l.length:=by simpa using hi
  rw[List.getElem_map];exact(h3 i _ _ (List.getElem?_eq_getElem hi2) (List.getElem?_eq_getElem hil)).1
 refine⟨fun i a ha=> ?_, ?_⟩
 ·have hil:=(List.getElem?_eq_some_iff.1 ha).1;obtain⟨e1,_,_,us,e4,e5⟩:=h3 i _ a (List.getElem?_eq_getElem K9) ha;have hk:a.at'<M:=by rw[e1];exact((h1.2 _).1 (List.getElem_mem _)).1
  refine⟨hk,fun hne=> ?_⟩;rw[e5];rw[<-e1] at e4⊢;exact zk9 hsl hk hne e4
 ·have hin:∀k v,(k=1/\v=8)\/(k=3/\v=3)->k∈ts:=fun k v hk=>by
   refine(h1.2 k).2 ⟨by omega,fun hno=> ?_⟩;have hs:=hno.2.2 0;rw[hsl k (ne_m K9 K9 K9)] at hs;rcases hk with⟨rfl,rfl⟩|⟨rfl,rfl⟩
   ·rw[zoz] at hs;exact absurd hs (by show¬8%M=0;rw[zeE K9];omega)
   ·rw[conf_3] at hs;exact absurd hs (by show¬zbt [(0,3),(1,5)] 0%M=0;rw[zmj,if_neg (ne_m K9 K9 K9),if_pos rfl,zeE K9];omega)
  have i1:=hin 1 8 (Or.inl ⟨rfl,rfl⟩);have i3:=hin 3 3 (Or.inr ⟨rfl,rfl⟩);rw[hmap];obtain⟨s,t,e⟩:=List.append_of_mem i1;have hp:=h1.1;rw[e] at hp i3⊢
  have h3t:3∈t:=by
   rcases List.mem_append.1 i3 with h|h
   ·have:=(List.pairwise_append.1 hp).2.2 3 h 1 (by simp);omega
   ·rcases List.mem_cons.1 h with h|h
    ·omega
    ·exact h
  rw[zkr];have:=zky K9 h3t;show 2<=zgO s+((if (1:Nat)=2 then 0 else 1)+zgO t);rw[if_neg K9];omega
end
section
open Go.Maps
theorem zpc (what data:ByteArray) (kk:Int) (hk1: -9223372036854775808<=kk) (hk2:kk<=9223372036854775807) (w:World) (hz:Zr w):Calls prog 8 #[.string what,.string data,.int .i64 kk] w fun e w'=>e=.returned (.bool true)/\Below w.heap.size w w':=by
 have HC:Hid (∀w,Calls prog 10 #[.string srcC] w fun e w'=>e=.returned (.string zef)/\Below w.heap.size w w'):=fun w=>znm srcC zef zoV w
 have HZ:=zb hz;clear hz;go_enter func8,ntmps8;go_wp2_with fail
 refine(HC.out _).mono ?_;rintro e x ⟨rfl,hb1⟩;obtain⟨c,HCC⟩:∃c,Hid (c=zef):=⟨_,rfl⟩;rw[<-HCC.out];have he1:c.toList.isEmpty=false:=emp_f (by rw[HCC.out];decide)
 have he2:¬c.toList=[]:=by
  intro h;rw[h] at he1;cases he1
 have hcs:c.size<=1000:=by rw[HCC.out];decide
 have HX:Hid (Lying w x []):=⟨hb1,by simp⟩;clear hb1 HC;go_wp2_with fail
 refine(zb5 1 (by decide) _).mono ?_;rintro e x ⟨rfl,hb⟩;replace HX:=zb (HX.out.step hb);clear hb;clear he1 he2;go_wp2_with fail
 refine(zb5 100 (by decide) _).mono ?_;rintro e x ⟨rfl,hb⟩;replace HX:=zb (HX.out.step hb);clear hb;go_wp2_with fail
 refine(zb5 0 (by decide) _).mono ?_;rintro e x ⟨rfl,hb⟩;replace HX:=zb (HX.out.step hb);clear hb;go_wp2_with fail
 refine(zb5 8 (by decide) _).mono ?_;rintro e x ⟨rfl,hb⟩;replace HX:=zb (HX.out.step hb);clear hb;replace HX:=zb (HX.out.add (zlw x [(0,8)] 1));go_wp2_with fail
 refine(zb5 2 (by decide) _).mono ?_;rintro e x ⟨rfl,hb⟩;replace HX:=zb (HX.out.step hb);clear hb;go_wp2_with fail
 refine(zb5 7 (by decide) _).mono ?_;rintro e x ⟨rfl,hb⟩;replace HX:=zb (HX.out.step hb);clear hb;go_wp2_with fail
 refine(clip_b what _).mono ?_;rintro e x ⟨rfl,hb⟩;replace HX:=zb (HX.out.step hb);clear hb;go_wp2_with fail
 refine(zb5 0 (by decide) _).mono ?_;rintro e x ⟨rfl,hb⟩;replace HX:=zb (HX.out.step hb);clear hb;go_wp2_with fail
 refine(zb5 3 (by decide) _).mono ?_;rintro e x ⟨rfl,hb⟩;replace HX:=zb (HX.out.step hb);clear hb;replace HX:=zb (HX.out.add (zlw x [(0,3)] 1));go_wp2_with fail
 refine(zb5 3 (by decide) _).mono ?_;rintro e x ⟨rfl,hb⟩;replace HX:=zb (HX.out.step hb);clear hb;go_wp2_with fail
 refine(zb5 0 (by decide) _).mono ?_;rintro e x ⟨rfl,hb⟩;replace HX:=zb (HX.out.step hb);clear hb;go_wp2_with fail
 refine(zb5 3 (by decide) _).mono ?_;rintro e x ⟨rfl,hb⟩;replace HX:=zb (HX.out.step hb);clear hb;go_wp2_with fail
 refine(zb5 1 (by decide) _).mono ?_;rintro e x ⟨rfl,hb⟩;replace HX:=zb (HX.out.step hb);clear hb;go_wp2_with fail
 refine(zb5 5 (by decide) _).mono ?_;rintro e x ⟨rfl,hb⟩;replace HX:=zb (HX.out.step hb);clear hb;replace HX:=zb (HX.out.add (zlw x [(0,3),(1,5)] 2));go_wp2_with fail
 obtain⟨hA,hL0,hB⟩:=conf_in (c:=c) (what:=what) (g:=x.heap.size+1) (by simp) HX.out;refine(zqq (zaw c what) _ hA (HZ.out.below hB) (zkO hcs what)).mono ?_;have HL:=zb hL0;have HBW:=zb hB;clear hA hL0 hB HX HZ;rintro e w3 ⟨gb,rfl,ab,n,sb,hn,hh,hb3,hgb,hft⟩;obtain⟨y,g1,g3,HP⟩:∃y g1 g3,Hid (CfL (x.heap.size+1) (.slice (some ⟨g1,0,none⟩) 1 1) (.slice (some ⟨g3,0,none⟩) 2 2) y/\Below w.heap.size w y/\CfW y gb ab n (ZY (zaw c what)) sb w3):=⟨_,_,_,HL.out,HBW.out,hh,hb3,hgb,hft⟩;clear HL HBW hh hb3 hgb hft;generalize x.heap.size+1=lg at*;obtain⟨HL,HBW,HW⟩:Hid (CfL lg (.slice (some ⟨g1,0,none⟩) 1 1) (.slice (some ⟨g3,0,none⟩) 2 2) y)/\Hid (Below w.heap.size w y)/\Hid (CfW y gb ab n (ZY (zaw c what)) sb w3):=HP.out;clear HP;go_upto_if 53 with fail
 go_cut [1] from 51 to 55 (fun t1 wx=>∃d:ByteArray,d.size<=500/\t1=.string d/\Hid (CfW y gb ab n (ZY (zaw c what)) sb wx))
 case first=>
  by_cases hd5:500<data.size
  ·have hd:decide ((500:Int)<(data.size:Int))=true:=decide_eq_true K9;go_wp2
   go_meet
   case rel=>exact⟨data.extract 0 500,by rw[ByteArray.size_extract];omega,rfl,HW.out⟩
  ·have hd:decide ((500:Int)<(data.size:Int))=false:=decide_eq_false K9;go_wp2
   go_meet
   case rel=>exact⟨data,by omega,rfl,HW.out⟩
 case rest=>
  clear HW;obtain⟨d,hd5,rfl,HW⟩:=hcut;go_upto_if 57 with fail
  go_cut [2] from 56 to 60 (fun t2 wx=>∃m:Nat,m<=9223372036854775807/\t2=.int .i64 (m:Int)/\Hid (CfW y gb ab n (ZY (zaw c what)) sb wx))
  case first=>
   by_cases hlt:kk<0
   ·have hd:decide (kk<0)=true:=decide_eq_true hlt
    have he:IntKind.i64.wrap (-(IntKind.i64.wrap (kk+1)))=(((-(kk+1)).toNat:Nat):Int):=by
     rw[show IntKind.i64.wrap (kk+1)=kk+1 from by unfold IntKind.wrap;simp[IntKind.bits,IntKind.signed];omega];unfold IntKind.wrap;simp[IntKind.bits,IntKind.signed];omega
    go_wp2
    go_meet
    case rel=>exact⟨(-(kk+1)).toNat,by omega,by rw[Int.toNat_of_nonneg K9],HW.out⟩
   ·have hd:decide (kk<0)=false:=decide_eq_false hlt;go_wp2
    go_meet
    case rel=>exact⟨kk.toNat,by omega,by rw[Int.toNat_of_nonneg K9],HW.out⟩
  case rest=>
   clear HW hk1 hk2;obtain⟨m,hm,rfl,HW⟩:=hcut;go_wp2_with fail
   refine(zb5 1 (by decide) _).mono ?_;rintro e w5 ⟨rfl,hb5⟩;have HW5:=zb (HW.out.below hb5);clear HW hb5;go_wp2_with fail
   refine(zb5 1 (by decide) _).mono ?_;rintro e w6 ⟨rfl,hb6⟩;have HW6:=zb (HW5.out.below hb6);clear HW5 hb6;go_wp2_with fail
   obtain⟨g9,hg9,hg91,hg92⟩:∃g9:Nat,(3000+(m:Int)%90000)=(g9:Int)/\3000<=g9/\g9<=100000:=⟨3000+m%90000,by omega,by omega,by omega⟩;rw[hg9];refine(zoe HW6.out hn (good_of _ (zlk hcs what)) (by rw[HCC.out];exact zn1 what) (by rw[zoz];exact HCC.out) hd5 hg91 hg92).mono ?_;rintro e w7 ⟨gs,out,lv,rfl,⟨ad7,n7,cp7,rfl⟩,hs7⟩;have hB8:Below w7.heap.size w7 (w7.alloc (.cells #[.int .u8 0,.int .i64 (gs:Int),.string out,.slice ad7 n7 cp7] 38)):=bal (Below.refl _ _) _;have HS8:=zb (hs7.below hB8)
   have HGL7:Hid (gb<w7.heap.size):=by
    obtain⟨_,_,_,_,_,hh7,_⟩:=hs7.host;exact hh7.row.lt
   have hrow:=World.rowIs_alloc w7 #[.int .u8 0,.int .i64 (gs:Int),.string out,.slice ad7 n7 cp7] 38 (fun i=>(#[.int .u8 0,.int .i64 (gs:Int),.string out,.slice ad7 n7 cp7]:Array Value).getD i undef) (fun i hi=>by rw[Array.getD_eq_getD_getElem?,Array.getElem?_eq_getElem hi];rfl);have HROW:=zb hrow;clear hs7 hB8 hrow HW6 hg9 hg91 hg92;go_wp2_with fail
   obtain⟨ab',n',sb',hn',B,hh8,heq⟩:=HS8.out.host;refine(zhb _ hh8 hn').mono ?_;rintro e w9 ⟨v2,ts2,sls2,rfl,_,hkk2,htold2,hh9,hkb9⟩;obtain⟨l,hl2,hao2⟩:=htold2.list hkk2;have HB9:=zb (zgc HS8.out.be hkb9 (fun k hk=>by rw[List.mem_singleton.1 hk];exact HS8.out.gbl));obtain⟨HLA,HCN⟩:Hid (∀(i:Nat) a,l[i]? =some a->a.at'<M/\(a.at'≠2->a.slots=zkH a.at'))/\Hid (2<=zgO (l.map AcE.at')):=znF heq hl2
   have hr9:=hkb9.row HROW.out (fun hm=>by
    have e1:=List.mem_singleton.1 hm;have e3:=HGL7.out;omega)
   have q0:=hr9.cell (i:=0) (by show 0<4;omega);rw[show(#[.int .u8 0,.int .i64 (gs:Int),.string out,.slice ad7 n7 cp7]:Array Value).getD 0 undef=.int .u8 0 from rfl] at q0;have HLL:=zb hao2.len;obtain⟨ad,cp,rfl,hin⟩:=hao2.is;obtain⟨L,HLN⟩:∃L,Hid (L=l.length):=⟨_,rfl⟩;rw[<-HLN.out];have HIN:=zb hin;have hL:L<=9223372036854775807:=by rw[HLN.out];exact HLL.out.1
   have HLC:=zb (HL.out.below HB9.out);have HB0:=zb (HBW.out.trans (HB9.out.mono HBW.out.size));clear hkk2 htold2 hh9 hkb9 hl2 hao2 hh8 heq hn' HS8 HROW HGL7 hr9 hin HL HB9 HBW;go_wp2
   go_loopw [13,14] (fun t13 t14 wr=>∃i f:Nat,i<=L/\t13=.int .i64 (f:Int)/\t14=.int .i64 (i:Int)/\Hid (f=zgO ((l.map AcE.at').take i))/\Hid (Below w9.heap.size w9 wr)) (fun t13 t14 _=>L - (RowKit.intOf t14).toNat)
   case atStart=>exact⟨0,0,Nat.zero_le _,rfl,rfl,rfl,Below.refl _ _⟩
   case round=>
    obtain⟨i,f,hi,rfl,rfl,HF,HB⟩:=hrel
    have hfi:f<=i:=by
     rw[HF.out];exact Nat.le_trans (zmW _) (by rw[List.length_take];omega)
    by_cases hlt:i<L
    ·have hd2:decide ((i:Int)<(L:Int))=true:=decide_eq_true K9;have hil:i<l.length:=by rw[<-HLN.out];exact hlt
     obtain⟨g,o,rfl,hgl,hcell⟩:=HIN.out.resolve_left (fun e=>by rw[e] at hil;exact absurd hil (by simp));obtain⟨a,HAE⟩:∃a,Hid (a=l[i]):=⟨l[i],zb rfl⟩;obtain⟨sl,hc,hsl⟩:=hcell i l[i] (List.getElem?_eq_getElem hil);obtain⟨hkM,hsw⟩:=HLA.out i l[i] (List.getElem?_eq_getElem hil);have hn2:=HLL.out.2 l[i] (List.getElem_mem hil)
     have hcnt:zgO ((l.map AcE.at').take (i+1))=f+if (l[i]).at'=2 then 0 else 1:=by
      rw[List.take_add_one,zkr,<-HF.out,List.getElem?_map,List.getElem?_eq_getElem hil];rfl
     rw[<-HAE.out] at hc hsl hkM hsw hn2 hcnt;obtain⟨k9,bl9,cd9,ss⟩:=a;dsimp only at hc hsl hkM hsw hn2 hcnt
     have HKC:Hid (∀j,j<4->w9.cell? ⟨g,o+i*10+j,none⟩=some (.int .u64 (za k9 j))):=fun j hj=>by
      rcases(show j=0\/j=1\/j=2\/j=3 by omega) with rfl|rfl|rfl|rfl<;>exact hc _ K9
     have HC9:Hid (w9.cell? ⟨g,o+i*10+9,none⟩=some sl):=hc 9 K9;have HGL:=zb hgl;have HSL:=zb hsl;have HSW:=zb hsw;have HCT:=zb hcnt;clear hc hsl hcell hgl hsw hcnt;have hM:=zkf;have HD:=zb HB.out.drew
     have HEQ:Hid (∀n,n<=3->∀b,eqw k9 n=b->(b=true↔k9=n)):=fun n hn b hb=>by
      rw[<-hb];refine⟨fun h=> ?_,fun h=>zbN h⟩;by_cases e:k9=n
      ·exact e
      ·rw[zn8 hkM K9 e] at h;cases h
     clear hkM hM;obtain⟨b1,hb1⟩:∃b,eqw k9 1=b:=⟨_,rfl⟩;obtain⟨b2,hb2⟩:∃b,eqw k9 2=b:=⟨_,rfl⟩;obtain⟨b3,hb3⟩:∃b,eqw k9 3=b:=⟨_,rfl⟩
     go_upto_block 2 with fail
     go_cut [15] from 88 to 119 (fun t15 wx=>∃(adw:Option Addr) (cpw:Nat),t15=.slice adw ss.length cpw/\Hid (SlIn w9 (.slice adw ss.length cpw) ss)/\Hid (k9≠2)/\Hid (Below w9.heap.size w9 wx))
     case first=>
      go_wp2
      refine zt (fun _ x=>Below w9.heap.size w9 x) (fun _ _ _=>True) [(12,(.slice (some ⟨g,o,none⟩) L cp)),(14,(.int .i64 (i:Int)))] [(some 89,.v (.slice (some ⟨g,o,none⟩) L cp)),(some 90,.v (.int .i64 (i:Int))),(some 91,.v (.pointer (some ⟨g,o+i*10,none⟩))),(some 92,.v (.pointer (some ⟨g,o+i*10,none⟩))),(some 93,.v (wv k9)),(some 94,.v (wv 1)),(some 95,.v (.bool b1)),(some 88,.v (.bool b1))] [] [2,4,5,6] (by kernel_rfl) (by rfl) (by rfl) (by kernel_rfl) (HD.out) (fun k x x' h hb=>h.trans (hb.mono h.size))
        True.intro
        (zf _ _ _ rfl rfl
        (fun k s9 x hk hlo hhi hph hdf hv hl K hK=>by
         exact zof (hv 89 _ rfl) (hv 90 _ rfl) hlt (hK _ x (Below.refl _ _) nn1 rfl))
        (zf _ _ _ rfl rfl
        (fun k s9 x hk hlo hhi hph hdf hv hl K hK=>by
         have hx:Below w9.heap.size w9 x:=hph;exact zD (n:=k9) (hv 92 _ rfl) ((hx.cell HGL.out).trans (HKC.out 0 K9)) ((hx.cell HGL.out).trans (HKC.out 1 K9)) ((hx.cell HGL.out).trans (HKC.out 2 K9)) ((hx.cell HGL.out).trans (HKC.out 3 K9)) (hK _ x (Below.refl _ _) nn1 rfl))
        (zf _ _ _ rfl rfl
        (fun k s9 x hk hlo hhi hph hdf hv hl K hK=>by
         refine zZ hv (zb5 1 K9 x) (by kernel_rfl) (fun v y h=> ?_) (fun l y h=>absurd h.1 (by simp)) (fun y h=>absurd h.1 (by simp));obtain⟨e,hb⟩:=h;injection e with e
         subst e;exact hK _ y hb nn1 rfl)
        (zf _ _ _ rfl rfl
        (fun k s9 x hk hlo hhi hph hdf hv hl K hK=>by
         exact zl0 (hv 93 _ rfl) (hv 94 _ rfl) hb1 (hK _ x (Below.refl _ _) nn1 rfl))
        True.intro))))
        (fun _ _ _ h=>(zu rfl h).elim) (fun _ _ _ h=>(zu rfl h).elim) ?_
      intro gg x21 hph _;have Hx21:Hid (Below w9.heap.size w9 x21):=hph;clear hph;simp only[yx,yB,yA,Zj,zF,List.foldl_cons,List.foldl_nil,Act.put];simp only[sx9];have HD21:=zb Hx21.out.drew;cases b1 with
      |true=>
       have k1:=(HEQ.out 1 K9 _ hb1).1 rfl;have c1:x21.cell? ⟨lg,9,none⟩=some (.slice (some ⟨g1,0,none⟩) 1 1):=(Hx21.out.cell HLC.out.lt).trans HLC.out.c1;go_wp2
       go_meet
       case rel=>
        have h2:k9≠2:=by omega
        have hs:ss=[(0,8)]:=by
         rw[HSW.out h2,k1];rfl
        subst hs;exact⟨some ⟨g1,0,none⟩,1,rfl,HLC.out.s1,h2,Hx21.out⟩
      |false=>
       have k1:¬k9=1:=fun h=>by cases(HEQ.out 1 K9 _ hb1).2 h
       go_wp2
       refine zt (fun _ x=>Below w9.heap.size w9 x) (fun _ _ _=>True) [(12,(.slice (some ⟨g,o,none⟩) L cp)),(14,(.int .i64 (i:Int)))] [(some 101,.v (.slice (some ⟨g,o,none⟩) L cp)),(some 102,.v (.int .i64 (i:Int))),(some 103,.v (.pointer (some ⟨g,o+i*10,none⟩))),(some 104,.v (.pointer (some ⟨g,o+i*10,none⟩))),(some 105,.v (wv k9)),(some 106,.v (wv 2)),(some 107,.v (.bool b2)),(some 100,.v (.bool b2))] [] [2,4,5,6] (by kernel_rfl) (by rfl) (by rfl) (by kernel_rfl) (HD21.out) (fun k x x' h hb=>h.trans (hb.mono h.size))
         True.intro
         (zf _ _ _ rfl rfl
         (fun k s9 x hk hlo hhi hph hdf hv hl K hK=>by
          exact zof (hv 101 _ rfl) (hv 102 _ rfl) hlt (hK _ x (Below.refl _ _) nn1 rfl))
         (zf _ _ _ rfl rfl
         (fun k s9 x hk hlo hhi hph hdf hv hl K hK=>by
          have hx:Below w9.heap.size w9 x:=hph;exact zD (n:=k9) (hv 104 _ rfl) ((hx.cell HGL.out).trans (HKC.out 0 K9)) ((hx.cell HGL.out).trans (HKC.out 1 K9)) ((hx.cell HGL.out).trans (HKC.out 2 K9)) ((hx.cell HGL.out).trans (HKC.out 3 K9)) (hK _ x (Below.refl _ _) nn1 rfl))
         (zf _ _ _ rfl rfl
         (fun k s9 x hk hlo hhi hph hdf hv hl K hK=>by
          refine zZ hv (zb5 2 K9 x) (by kernel_rfl) (fun v y h=> ?_) (fun l y h=>absurd h.1 (by simp)) (fun y h=>absurd h.1 (by simp));obtain⟨e,hb⟩:=h;injection e with e
          subst e;exact hK _ y hb nn1 rfl)
         (zf _ _ _ rfl rfl
         (fun k s9 x hk hlo hhi hph hdf hv hl K hK=>by
          exact zl0 (hv 105 _ rfl) (hv 106 _ rfl) hb2 (hK _ x (Below.refl _ _) nn1 rfl))
         True.intro))))
         (fun _ _ _ h=>(zu rfl h).elim) (fun _ _ _ h=>(zu rfl h).elim) ?_
       intro gg x23 hph _;have Hx23:Hid (Below w9.heap.size w9 x23):=hph;clear hph;simp only[yx,yB,yA,Zj,zF,List.foldl_cons,List.foldl_nil,Act.put];simp only[sx9];have HD23:=zb Hx23.out.drew;cases b2 with
       |true=>
        have h2:=(HEQ.out 2 K9 _ hb2).1 rfl;go_wp2;refine⟨⟨i+1,f,by omega,rfl,by go_num, ?_,Hx23.out⟩,by simp[RowKit.intOf];omega⟩;have h9:=HCT.out;rw[if_pos h2] at h9;exact h9.symm
       |false=>
        have h2:¬k9=2:=fun h=>by cases(HEQ.out 2 K9 _ hb2).2 h
        go_wp2
        refine zt (fun _ x=>Below w9.heap.size w9 x) (fun _ _ _=>True) [(12,(.slice (some ⟨g,o,none⟩) L cp)),(14,(.int .i64 (i:Int)))] [(some 109,.v (.slice (some ⟨g,o,none⟩) L cp)),(some 110,.v (.int .i64 (i:Int))),(some 111,.v (.pointer (some ⟨g,o+i*10,none⟩))),(some 112,.v (.pointer (some ⟨g,o+i*10,none⟩))),(some 113,.v (wv k9)),(some 114,.v (wv 3)),(some 115,.v (.bool b3)),(some 108,.v (.bool b3))] [] [2,4,5,6] (by kernel_rfl) (by rfl) (by rfl) (by kernel_rfl) (HD23.out) (fun k x x' h hb=>h.trans (hb.mono h.size))
          True.intro
          (zf _ _ _ rfl rfl
          (fun k s9 x hk hlo hhi hph hdf hv hl K hK=>by
           exact zof (hv 109 _ rfl) (hv 110 _ rfl) hlt (hK _ x (Below.refl _ _) nn1 rfl))
          (zf _ _ _ rfl rfl
          (fun k s9 x hk hlo hhi hph hdf hv hl K hK=>by
           have hx:Below w9.heap.size w9 x:=hph;exact zD (n:=k9) (hv 112 _ rfl) ((hx.cell HGL.out).trans (HKC.out 0 K9)) ((hx.cell HGL.out).trans (HKC.out 1 K9)) ((hx.cell HGL.out).trans (HKC.out 2 K9)) ((hx.cell HGL.out).trans (HKC.out 3 K9)) (hK _ x (Below.refl _ _) nn1 rfl))
          (zf _ _ _ rfl rfl
          (fun k s9 x hk hlo hhi hph hdf hv hl K hK=>by
           refine zZ hv (zb5 3 K9 x) (by kernel_rfl) (fun v y h=> ?_) (fun l y h=>absurd h.1 (by simp)) (fun y h=>absurd h.1 (by simp));obtain⟨e,hb⟩:=h;injection e with e
           subst e;exact hK _ y hb nn1 rfl)
          (zf _ _ _ rfl rfl
          (fun k s9 x hk hlo hhi hph hdf hv hl K hK=>by
           exact zl0 (hv 113 _ rfl) (hv 114 _ rfl) hb3 (hK _ x (Below.refl _ _) nn1 rfl))
          True.intro))))
          (fun _ _ _ h=>(zu rfl h).elim) (fun _ _ _ h=>(zu rfl h).elim) ?_
        intro gg x24 hph _;have Hx24:Hid (Below w9.heap.size w9 x24):=hph;clear hph;simp only[yx,yB,yA,Zj,zF,List.foldl_cons,List.foldl_nil,Act.put];simp only[sx9];cases b3 with
        |true=>
         have k3:=(HEQ.out 3 K9 _ hb3).1 rfl;have c1:x24.cell? ⟨lg,29,none⟩=some (.slice (some ⟨g3,0,none⟩) 2 2):=(Hx24.out.cell HLC.out.lt).trans HLC.out.c3;go_wp2
         go_meet
         case rel=>
          have hs:ss=[(0,3),(1,5)]:=by
           rw[HSW.out h2,k3];rfl
          subst hs;exact⟨some ⟨g3,0,none⟩,2,rfl,HLC.out.s3,h2,Hx24.out⟩
        |false=>
         have k3:¬k9=3:=fun h=>by cases(HEQ.out 3 K9 _ hb3).2 h
         go_wp2
         go_meet
         case rel=>
          have hs:ss=[]:=by
           rw[HSW.out h2];unfold zkH;rw[if_neg k1,if_neg k3]
          subst hs;exact⟨none,0,rfl,⟨none,0,rfl,Or.inl rfl⟩,h2,Hx24.out⟩
     case rest=>
      obtain⟨adw,cpw,rfl,HSS',HNE,HB1⟩:=hcut;obtain⟨ad2,cq2,rfl,hs2⟩:=HSL.out;obtain⟨n2,HN2⟩:∃n2,Hid (n2=ss.length):=⟨_,rfl⟩;have hc9:=HC9.out;have hss':=HSS'.out;obtain⟨_,_,e9,hs2'⟩:=hss';injection e9 with e9a e9b e9c
      subst e9a e9c;rw[<-HN2.out] at hc9 hn2⊢;have HSS:=zb hs2;have HSW':=zb hs2';have HC9':=zb hc9;have c9:=(HB1.out.cell HGL.out).trans hc9;clear hc9 hs2 hs2' HSS' HSL HC9 HSW e9b HD HB;go_wp2;clear c9
      go_loopw [16] (fun t16 wr=>∃j:Nat,j<=n2/\t16=.int .i64 (j:Int)/\Hid (Below w9.heap.size w9 wr)) (fun t16 _=>n2 - (RowKit.intOf t16).toNat)
      case atStart=>exact⟨0,Nat.zero_le _,rfl,HB1.out⟩
      case round=>
       clear HB1;obtain⟨j,hj,rfl,HB2⟩:=hrel;have c9:wr.cell? ⟨g,o+i*10+9,none⟩=some (.slice ad2 n2 cq2):=(HB2.out.cell (by exact HGL.out)).trans HC9'.out;by_cases hjt:j<n2
       ·have hd3:decide ((j:Int)<(n2:Int))=true:=decide_eq_true K9;have hjl:j<ss.length:=by rw[<-HN2.out];exact hjt
        obtain⟨g2,o2,rfl,hgl2,hcell2⟩:=HSS.out.resolve_left (fun e=>by rw[e] at hjl;exact absurd hjl (by simp));obtain⟨g2',o2',rfl,hgl2',hcell2'⟩:=HSW'.out.resolve_left (fun e=>by rw[e] at hjl;exact absurd hjl (by simp));obtain⟨k8,HK8⟩:∃k8:Nat,Hid (k8=ss[j].1):=⟨ss[j].1,zb rfl⟩;obtain⟨v8,HV8⟩:∃v8:Nat,Hid (v8=ss[j].2):=⟨ss[j].2,zb rfl⟩;have hdc:=hcell2 j ss[j] (List.getElem?_eq_getElem hjl);have hdc':=hcell2' j ss[j] (List.getElem?_eq_getElem hjl);rw[<-HK8.out,<-HV8.out] at hdc hdc';have he:∀q,q<8->wr.cell? ⟨g2,o2+j*8+q,none⟩=some ((ZF k8++ZF v8)[q]!):=fun q hq=>(HB2.out.cell (by exact hgl2)).trans (hdc q hq)
        have e0:wr.cell? ⟨g2,o2+j*8,none⟩=some (.int .u64 (za k8 0)):=he 0 K9;have e1:wr.cell? ⟨g2,o2+j*8+1,none⟩=some (.int .u64 (za k8 1)):=he 1 K9;have e2:wr.cell? ⟨g2,o2+j*8+2,none⟩=some (.int .u64 (za k8 2)):=he 2 K9;have e3:wr.cell? ⟨g2,o2+j*8+3,none⟩=some (.int .u64 (za k8 3)):=he 3 K9;have e4:wr.cell? ⟨g2,o2+j*8+4,none⟩=some (.int .u64 (za v8 0)):=he 4 K9;have e5:wr.cell? ⟨g2,o2+j*8+5,none⟩=some (.int .u64 (za v8 1)):=he 5 K9;have e6:wr.cell? ⟨g2,o2+j*8+6,none⟩=some (.int .u64 (za v8 2)):=he 6 K9;have e7:wr.cell? ⟨g2,o2+j*8+7,none⟩=some (.int .u64 (za v8 3)):=he 7 K9;have hf:∀q,q<8->wr.cell? ⟨g2',o2'+j*8+q,none⟩=some ((ZF k8++ZF v8)[q]!):=fun q hq=>(HB2.out.cell (by exact hgl2')).trans (hdc' q hq)
        have f0:wr.cell? ⟨g2',o2'+j*8,none⟩=some (.int .u64 (za k8 0)):=hf 0 K9;have f1:wr.cell? ⟨g2',o2'+j*8+1,none⟩=some (.int .u64 (za k8 1)):=hf 1 K9;have f2:wr.cell? ⟨g2',o2'+j*8+2,none⟩=some (.int .u64 (za k8 2)):=hf 2 K9;have f3:wr.cell? ⟨g2',o2'+j*8+3,none⟩=some (.int .u64 (za k8 3)):=hf 3 K9;have f4:wr.cell? ⟨g2',o2'+j*8+4,none⟩=some (.int .u64 (za v8 0)):=hf 4 K9;have f5:wr.cell? ⟨g2',o2'+j*8+5,none⟩=some (.int .u64 (za v8 1)):=hf 5 K9;have f6:wr.cell? ⟨g2',o2'+j*8+6,none⟩=some (.int .u64 (za v8 2)):=hf 6 K9;have f7:wr.cell? ⟨g2',o2'+j*8+7,none⟩=some (.int .u64 (za v8 3)):=hf 7 K9;have he3:∀w,(Op.equalIn 10000 54 (zmb k8 v8) (zmb k8 v8)).run prog w=.ok true w:=fun w=>by rw[zpf,zbN rfl,zbN rfl];rfl
        clear he hf hdc hdc' hcell2 hcell2' hgl2 hgl2'
        as_aux_lemma=>
         go_wp2
         go_quiet (fail)
         as_aux_lemma=>
          go_wp2;exact⟨⟨j+1,by omega,by go_num,yG HB2.out _⟩,by simp[RowKit.intOf];omega⟩
       ·have hd3:decide ((j:Int)<(n2:Int))=false:=decide_eq_false K9;go_wp2;refine⟨⟨i+1,f+1,by omega,by go_num,by go_num, ?_,HB2.out⟩,by simp[RowKit.intOf];omega⟩;have h9:=HCT.out;rw[if_neg HNE.out] at h9;exact h9.symm
    ·have hd2:decide ((i:Int)<(L:Int))=false:=decide_eq_false K9
     have hf2:decide ((f:Int)≥2)=true:=by
      refine decide_eq_true ?_;have h1:=HF.out;rw[List.take_of_length_le (by rw[List.length_map];have:=HLN.out;omega)] at h1;have h3:=HCN.out;omega
     go_wp2;go_ret;exact⟨rfl,HB0.out.trans (HB.out.mono HB0.out.size)⟩
end
end cin
end Go.Proofs.YtohoajjdoihekaaGreatDoor
