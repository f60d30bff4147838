import Derived.Test.YtohoajjdoihekaaGreatDoorQh
set_option linter.unusedVariables false
set_option linter.unusedSimpArgs false
set_option linter.defProp false
namespace Go.Proofs.YtohoajjdoihekaaGreatDoor
namespace cin
open Go.RowKit Go.Maps Go.Proofs.Tryz Tryz
set_option maxRecDepth 100000
set_option maxHeartbeats 8000000
variable {ad:Gj}{b1 n t d b t1 t2 c ab O p i k e size g gb a U o sz by' ib iv ia is' d1 hb H Y z q2 J cp u D q j r p1 N m:Nat}{v1 v v2 v' pv lv X v0 v3:VL}{ys xs sls:Tn}{ob:Yt}{y wr x x' w w1:WD}{A:Nat->Acc}{sb:Vp}{cd:BA}{pos:String}{af:U9}{gd:U6}{K:K6}{Q:Y6}{ts:Tl}{s:Act}{Jq9 Fin:X4}{I:Vm}{es:Es}{ty:Vr}{pu:List Pur}{sl:List Slt}{rs:List Rs}{R R0:RS}{l L:hZ}{strict:Bool}{vs:Ys}
section
variable {bl b2:Nat}
section
open Go.RowKit Go.Maps Go.Sort Go.Shelf
def jL(k bl:Nat)(cd:BA)(sl:VL):Tn:=[.int .u64<|cX k 0,.int .u64<|cX k 1,.int .u64<|cX k 2,.int .u64<|cX k 3,.int .u64<|cX bl 0,.int .u64<|cX bl 1,.int .u64<|cX bl 2,.int .u64<|cX bl 3,.string cd,sl]
def Jl(A:Nat->Acc):Tl->Tn->Tn
 |k::r,sl::t=>jL k (A k).ai (A k).ae sl++Jl A r t
 |_,_=>[]
theorem D7(A:Nat->Acc):∀(D:Tl)(C:Tn),C.length=D.length->∀k E,Jl A (D++[k]) (C++[E])=Jl A D C++jL k (A k).ai (A k).ae E
 |[],[],_,k,E=>R5
 |[],_::_,h,_,_=>by cases h
 |_::_,[],h,_,_=>by cases h
 |a::r,b::t,h,k,E=>by show jL a (A a).ai (A a).ae b++Jl A (r++[k]) (t++[E])=jL a (A a).ai (A a).ae b++Jl A r t++_;rw[D7 A r t K9,XL]
def Rp(k:Nat){bl:Nat}{cd:BA}(n c:Nat):∀u∈jL k bl cd (.slice ad n c),u.oneCell'=true:=by intro u C;simp[jL]at C;rcases C with rfl|rfl|rfl|rfl|rfl|rfl|rfl|rfl|rfl|rfl<;>rfl
def Ts:(prog.info? 34).map (λi=>(i.zero,i.size,i.bytes))=some (some<|.agg #[iU 0,iU 0,iU 0,iU 0,iU 0,iU 0,iU 0,iU 0,.string ⟨#[]⟩,.slice none 0 0],10,104):=N0
def SlV(O:Nat)(s:Vq):Kp:=λp v x=>p≠0/\∃us:Tl,us.length<=1000000000000/\SortedKeys (gh s) us/\x.ownsRow O 54 8 v us.length (CH s us)
def SlV.below{O p:Nat}{s:Vq}{v:VL}{x x':WD}(h:SlV O s p v x)(I:bW x x'):SlV O s p v x':=by let⟨G,C,D,H,E⟩:=h;exact⟨G,C,D,H,dh E I⟩
def C7{x x':WD}{b2 C G:Nat}{v2:VL}{xs:Tn}(h:x.ownsRow b1 54 8 v1 C xs)(k:x.ownsRow b2 34 10 v2 G ys)(D:x.grownBy x' v2.ownBlock):x'.ownsRow b1 54 8 v1 C xs:=by
 refine⟨h.1,h.2.imp id ?_⟩;rintro⟨g,E,H,I,J,H,L⟩;refine⟨g,_,_,I,J,(D.block g (WY.1 H).1<|λe=>?_).trans H,L⟩;rcases k.2 with⟨H,_⟩|⟨g2,I,I,H,_,I,_⟩
 .rw[H]at e;cases e
 rw[H]at e;have e:some g=some g2:=e;grind
def SlV.step{O p:Nat}{s:Vq}{v v2:VL}{x x':WD}{b2 G:Nat}(h:SlV O s p v x)(k:x.ownsRow b2 34 10 v2 G ys)(I:x.grownBy x' v2.ownBlock):SlV O s (p+1) v x':=by let⟨J,C,D,H,E⟩:=h;exact⟨wq,C,D,H,C7 E k I⟩
def AcV(k bl:Nat)(cd:BA)(S:Kp):Kp:=λp v x=>∃ad n c,v=.agg #[.int .u64<|cX k 0,.int .u64<|cX k 1,.int .u64<|cX k 2,.int .u64<|cX k 3,.int .u64<|cX bl 0,.int .u64<|cX bl 1,.int .u64<|cX bl 2,.int .u64<|cX bl 3,.string cd,.slice ad n c]/\S p (.slice ad n c) x
def AcV.below{k bl O p:Nat}{cd:BA}{s:Vq}{v:VL}{x x':WD}(h:AcV k bl cd (SlV O s) p v x)(C:bW x x'):AcV k bl cd (SlV O s) p v x':=by let⟨ad,n,c,e,h⟩:=h;exact⟨ad,n,c,e,h.below C⟩
def OneA(k bl:Nat)(cd:BA)(S:Kp):Kp:=λp v x=>∃ad n c q,v=.slice (some ⟨q,0,none⟩) 1 1/\S p (.slice ad n c) x/\(p<=1->q<x.heap.size/\∀(j:Nat) u,(jL k bl cd<|.slice ad n c)[j]?=some u->x.cell? ((⟨q,0,none⟩:Addr).add j)=some u)
def OneA.below{k bl O p:Nat}{cd:BA}{s:Vq}{v:VL}{x x':WD}(h:OneA k bl cd (SlV O s) p v x)(E:bW x x'):OneA k bl cd (SlV O s) p v x':=by let⟨ad,n,c,q,e,h,C⟩:=h;exact⟨ad,n,c,q,e,h.below E,λG=>⟨Xg (C G).1 E.size,λj u D=>(E.cell<|by grind[nD]).trans<|(C G).2 j u D⟩⟩
def NewA(O n:Nat)(xs:Tn)(k bl:Nat)(cd:BA)(S:Kp):Kp:=λp v x=>2<=p/\∃sl,S p sl x/\x.ownsRow O 34 10 v n (xs++jL k bl cd sl)
def NewA.below{k bl O C p:Nat}{xs:Tn}{cd:BA}{s:Vq}{v:VL}{x x':WD}(h:NewA O n xs k bl cd (SlV C s) p v x)(H:bW x x'):NewA O n xs k bl cd (SlV C s) p v x':=by let⟨E,I,D,G⟩:=h;exact⟨E,I,D.below H,dh G H⟩
def Wm(wr:WD)(ob:Yt):Nat->X4
 |0,x=>bW wr x
 |1,x=>bW wr x
 |_,x=>∃y,bW wr y/\y.grownBy x ob
def Vl{wr x:WD}{k:Nat}(h:Wm wr ob k x)(C:k<=0):bW wr x:=by
 cases(wq:k=0)
 exact h
def xE{wr x:WD}{k:Nat}(h:Wm wr ob k x)(C:k<=1):bW wr x:=by
 match k,C,h with
 |0,_,h=>exact h
 |1,_,h=>exact h
def zn{x z:WD}(h:x.grownBy y ob)(D:bW y z):x.grownBy z ob:=⟨D.os.trans h.os,D.tape.trans h.tape,D.output.trans h.output,By h.size D.size,λk E C=>(D.block k<|Xg E h.size).trans<|h.block k E C⟩
def Sw{wr:WD}(k:Nat)(x x':WD)(h:Wm wr ob k x)(C:bW x x'):Wm wr ob k x':=by
 match k,h with
 |0,h=>exact(h).trans<|C.mono (h).size
 |1,h=>exact(h).trans<|C.mono (h).size
 |_+2,⟨y,h1,h2⟩=>exact⟨y,h1,zn h2 C⟩
section
variable {s:Vq}
def yL(G:p<2)(C:wr.ownsRow b2 34 10 v2 i xs)(D:Wm wr v2.ownBlock p x)(hrel:p=1->x.grownBy x' v2.ownBlock)(h:SlV O s p v x):SlV O s (p+1) v x':=by
 have E:=h.1;cases(wq:p=1)
 exact h.step (dh C D)<|hrel W
def Ng(E:p<2)(C:wr.ownsRow b2 34 10 v2 i xs)(D:Wm wr v2.ownBlock p x)(hrel:p=1->x.grownBy x' v2.ownBlock)(h:AcV k bl cd (SlV O s) p v x):AcV k bl cd (SlV O s) (p+1) v x':=by let⟨ad,n,c,e,h⟩:=h;exact⟨ad,n,c,e,yL E C D hrel h⟩
def Nf(I:p<2)(C:wr.ownsRow b2 34 10 v2 i xs)(D:Wm wr v2.ownBlock p x)(hrel:p=1->x.grownBy x' v2.ownBlock)(h:OneA k bl cd (SlV O s) p v x):OneA k bl cd (SlV O s) (p+1) v x':=by let⟨ad,n,c,q,e,h,E⟩:=h;have G:=h.1;exact⟨ad,n,c,q,e,yL I C D hrel h,λH=>wq⟩
end
section
variable {s:Act}
def Lp{bl:Nat}{cd:BA}{o:Yt}{L:Vr}(h:tG s t<|pt b)(E:cL x b 0<|lu bl 0)(I:cL x b (0+1)<|lu bl 1)(J:cL x b (0+2)<|lu bl 2)(C:cL x b (0+3)<|lu bl 3)(G:cL x b 4<|.string cd)(H:cL x b 5<|.map o)(D:K (Wb s d<|iu bl cd<|.map o) x):Oper.wp prog ⟨some d,.load 95<|.tmp t,L,pos,af,gd⟩ s x K Q:=by simp only[XF]at I J C;go_simp;exact D
def Bf{t3 t4 k bl:Nat}{cd:BA}{V:Vr}(E:tG s t1<|wv k)(C:tG s t2<|wv bl)(H:tG s t3<|.string cd)(D:tG s t4<|.slice ad n c)(G:K (Wb s d<|.agg #[lu k 0,lu k 1,lu k 2,lu k 3,lu bl 0,lu bl 1,lu bl 2,lu bl 3,.string cd,.slice ad n c]) x):Oper.wp prog ⟨some d,.build 34 #[(0,.tmp t1),(1,.tmp t2),(2,.tmp t3),(3,.tmp t4)],V,pos,af,gd⟩ s x K Q:=by
 have L:s.eval (.tmp t1)=.agg _:=E;have I:s.eval (.tmp t2)=.agg _:=C;have P:s.eval (.tmp t3)=.string cd:=H;have R:s.eval (.tmp t4)=.slice ad n c:=D;have J:s.tmps[t1]?.getD undef=.agg #[lu k 0,lu k 1,lu k 2,lu k 3]:=Q1
 have g2:s.tmps[t2]?.getD undef=.agg #[lu bl 0,lu bl 1,lu bl 2,lu bl 3]:=Q1
 have U:s.tmps[t3]?.getD undef=.string cd:=Q1
 have V:s.tmps[t4]?.getD undef=.slice ad n c:=Q1
 go_simp;exact G
def Gm{k bl:Nat}{cd:BA}{E:Vr}(he:tG s t<|.agg #[lu k 0,lu k 1,lu k 2,lu k 3,lu bl 0,lu bl 1,lu bl 2,lu bl 3,.string cd,.slice ad n c])(D:K (Wb s d<|sL x.heap.size 1 1)<|x.alloc<|.cells #[lu k 0,lu k 1,lu k 2,lu k 3,lu bl 0,lu bl 1,lu bl 2,lu bl 3,.string cd,.slice ad n c] 34):Oper.wp prog ⟨some d,.buildSlice 35 1 #[(0,.tmp t)],E,pos,af,gd⟩ s x K Q:=by
 have C:s.tmps[t]?.getD undef=.agg #[lu k 0,lu k 1,lu k 2,lu k 3,lu bl 0,lu bl 1,lu bl 2,lu bl 3,.string cd,.slice ad n c]:=Q1
 go_simp;exact D
end
def SlAll(O:Nat)(A:Nat->Acc)(ts:Tl)(sls:Tn)(w:WD):=∀(i:Nat) k sl,ts[i]?=some k->sls[i]?=some sl->∃us:Tl,us.length<=1000000000000/\SortedKeys (gh (A k).ar) us/\w.ownsRow O 54 8 sl us.length (CH (A k).ar us)
structure Told(O:Nat)(A:Nat->Acc)(ts:Tl)(v:VL)(sls:Tn)(w:WD):Prop where
 len:sls.length=ts.length
 aD:w.ownsRow O 34 10 v ts.length (Jl A ts sls)
 sl:SlAll O A ts sls w
 dj:sls.Pairwise λt t'=>∀k,t.ownBlock=some k->t'.ownBlock≠some k
def qn(A:Nat->Acc)(ts:Tl):=ts.Pairwise (·<·)/\∀m,m∈ts↔m<M/\¬(A m).no
def MJ(w:WD)(h:Accs ab n A sb w)(hn:n<=1000000000000):cP 48 #[.map<|some ab] w λe w'=>∃(v:VL)(P:Tl)(Y:Tn),e=.returned v/\P.length<=n/\qn A P/\Told w.heap.size A P v Y w'/\bW w w':=by
 have eg:∀args w,(callFunc 136 args).run prog w=.ok (.enter 136 args) w:=enters_of func136 N0 W;let⟨f,hf,f0⟩:=h.map;have c8:bW w (w.alloc<|.cells #[.map<|some ab] 89):=ai (dO _ w) _;have HK:=cV<|keys_a (some ab) w;have d4:SeqGives FA 3 prog _ #[.pointer<|some ⟨w.heap.size,0,_⟩] wv (rf f) n _:=Q9 3 wq ab n K2 (by simp[go_sem])<|hf.kb (Kb.h (S:=[]) c8) K2;have HS:=cV<|tQ 5 wq eg f n hn d4;have HH:=cV h;have HF:=cV<|aIn hf f0;clear d4 h hf f0;go_enter func48,ntmps48;go_wp2_with fail
 refine HK.mono ?_;rintro e w2⟨rfl,rfl⟩;generalize w.alloc (.cells #[.map<|some ab] 89)=w2 at*;clear HK;go_wp2_with fail
 refine HS.mono ?_;rintro e w3⟨v,P,rfl,d0,a0,I,a3⟩;obtain⟨adv,cpv,rfl⟩:=dt I;have HX:=cV<|aIn a0<|aIn I a3;have a6:bW w w3:=c8.trans<|a3.mono c8.size;clear HS I a0 c8 a3;let⟨L,b6⟩:=dP P.length;rw[<-b6.aa]at d0⊢;go_wp2;go_loopw[3,11] (λt3 d7 wr=>∃(i:Nat)(ad:Gj)(cp:Nat)(Y:Tn),i<=L/\d7=iI (i:Int)/\t3=.slice ad i cp/\Hd (Told w3.heap.size A (P.take i) (.slice ad i cp) Y wr/\bW w3 wr)) (λ_ d7 _=>L-nI d7);case atStart=>refine⟨0,_,0,[],In _,W,W,⟨⟨K2,?_,λi k sl a=>by simp at a,List.Pairwise.nil⟩,dO _ _⟩⟩;simp only[Y3];exact Xy _ _ _ _
 obtain⟨i,ad,cp,Y,hi,rfl,rfl,HR⟩:=hrel;by_cases hlt:i<L
 .obtain⟨a0,I,a3⟩:=HX.aa;have g5:i<P.length:=by rw[<-b6.aa];exact hlt
  let⟨kb,E,he,hkb⟩:=xK I wq;obtain⟨rfl,rfl⟩:adv=some ⟨kb,0,none⟩/\cpv=E:=K9
  have a4:kb<w3.heap.size:=(I.lt kb W).2;let⟨c0,c1,c2,c3⟩:=Ep I i g5;obtain⟨D,f7⟩:∃D:Nat,Hd (D=P[i]):=⟨P[i],cV W⟩
  rw[<-f7.aa]at c0 c1 c2 c3;have c0:=(HR.2.cell a4).trans c0;have c1:=(HR.2.cell a4).trans c1;have c2:=(HR.2.cell a4).trans c2;have c3:=(HR.2.cell a4).trans c3;have d3:bW w wr:=a6.trans<|HR.2.mono a6.size;have g0:=HH.aa.kb (Kb.h (S:=[]) d3) K2;let⟨X,e1,e3,e4,e5⟩:=g0.bL D HF.2;obtain⟨o9,rfl⟩:=e3.is;have hBk:bW wr (wr.alloc<|.cells #[iU<|cX D 0,iU<|cX D 1,iU<|cX D 2,iU<|cX D 3] 24):=ai (dO _ wr) _;let⟨C,f4⟩:=dP<|(A D).ai;let⟨U,f6⟩:=dP<|(A D).ae;have hlk:(Instr.lookup 89 (.map<|some ab) (.agg #[iU<|cX D 0,iU<|cX D 1,iU<|cX D 2,iU<|cX D 3]) false).run prog (wr.alloc<|.cells #[iU<|cX D 0,iU<|cX D 1,iU<|cX D 2,iU<|cX D 3] 24)=.ok (.agg #[iU<|cX C 0,iU<|cX C 1,iU<|cX C 2,iU<|cX C 3,.string U,.map o9]) (wr.alloc<|.cells #[iU<|cX D 0,iU<|cX D 1,iU<|cX D 2,iU<|cX D 3] 24):=by have:=((HF.1.kb (Kb.h (S:=[]) d3) K2).kb (Kb.h (S:=[]) hBk) K2).aQ kT kE D;rw[e1,<-f4.aa,<-f6.aa]at this;exact this
  have HSO:=cV e3;clear I a0 a3 he e1 e3 e4 e5 g0;go_wp2;let⟨wr9,T⟩:=dP<|(wr.alloc<|.cells #[iU<|cX D 0,iU<|cX D 1,iU<|cX D 2,iU<|cX D 3] 24).alloc<|.cells #[iU<|cX C 0,iU<|cX C 1,iU<|cX C 2,iU<|cX C 3,.string U,.map o9] 95;rw[<-T.aa];have a2:bW wr wr9:=by rw[T.aa];grind[ai,dO]
  let⟨a7,e0⟩:=dP wr.heap.size;let⟨Z,a8⟩:=dP<|wr.heap.size+1;have f3:cL wr9 a7 0 (iU<|cX D 0)/\cL wr9 a7 (0+1) (iU<|cX D 1)/\cL wr9 a7 (0+2) (iU<|cX D 2)/\cL wr9 a7 (0+3) (iU<|cX D 3):=by rw[T.aa,e0.aa];refine⟨?_,?_,?_,?_⟩<;>simp[go_sem]
  have d5:cL wr9 Z 0 (iU<|cX C 0)/\cL wr9 Z (0+1) (iU<|cX C 1)/\cL wr9 Z (0+2) (iU<|cX C 2)/\cL wr9 Z (0+3) (iU<|cX C 3):=by rw[T.aa,a8.aa];refine⟨?_,?_,?_,?_⟩<;>simp[go_sem]
  have e7:cL wr9 Z 4 (.string U):=by rw[T.aa,a8.aa];simp[go_sem]
  have f1:cL wr9 Z 5 (.map o9):=by rw[T.aa,a8.aa];simp[go_sem]
  have b0:a7<wr9.heap.size:=by rw[T.aa,e0.aa];simp;omega
  have R:Z<wr9.heap.size:=by rw[T.aa,a8.aa];simp
  rw[<-a8.aa,<-e0.aa];have u:=HR.aa.2.trans<|a2.mono HR.2.size;have o:=dh HR.1.aD a2;have a1:(P.take i).length=i:=K9
  rw[a1]at o;let⟨xs9,f2⟩:=dP<|Jl A (P.take i) Y;have H:wr9.ownsRow w3.heap.size 34 10 (.slice ad i cp) i xs9:=by rwa[f2.aa]
  let⟨N,g4⟩:=dP<|(A D).ar;have d1:Hd (∀x,Below wr9.heap.size _ x->cP 76 #[iu C U<|.map o9] x λe w'=>∃(v:VL)(P:List _),e=.returned v/\P.length<=1000000000000/\SortedKeys (gh N) P/\w'.ownsRow x.heap.size 54 8 v P.length (CH N P)/\bW x w'):=λx J=>by have hBx:=a2.trans<|J.mono a2.size;have hs:=HSO.aa.kb (Kb.h (S:=[]) hBx) K2<|DO _;rw[<-g4.aa]at hs;refine(Cu x hs hn).mono ?_;grind
  clear c0 c1 c2 c3 hlk o;refine dy (Wm wr9 (Value.slice ad i cp).ownBlock) (λp x x'=>p=1->x.grownBy x' (Value.slice ad i cp).ownBlock) [(3,(.slice ad i cp)),(5,(pt a7)),(6,(pt Z))] (nV 18 [.slice ad i cp,wv D,pt Z,wv C,pq Z 4,.string U,iu C U<|.map o9]++[(some 25,.l<|SlV wr9.heap.size N),(some 26,.l<|AcV D C U<|SlV wr9.heap.size N),(some 27,.l<|OneA D C U<|SlV wr9.heap.size N),(some 28,.l<|NewA w3.heap.size (i+1) xs9 D C U<|SlV wr9.heap.size N),(some 3,.l<|NewA w3.heap.size (i+1) xs9 D C U<|SlV wr9.heap.size N)]) [7,10] [1,3,5,6,8,9,11] ((dO _ _).drew) (Sw)
    ⟨(@λs9 x F hl K G hv r=>by
     have J:Below wr9.heap.size _ x:=G;refine o6 @hv (d1 x J) (λv x' h=>?_) (λl x' h=>by let⟨_,_,h,_⟩:=h;cases h) (λx' h=>by let⟨_,_,h,_⟩:=h;cases h);let⟨v',us,a,h2,h3,h4,h5⟩:=h;obtain rfl:=ZH a;exact r _ x' (J.trans<|h5.mono J.size) (λh=>absurd h wq) nn1 ⟨wq,us,h2,h3,nH h4 J.size⟩),(@λs9 x F hl K G hv r=>by
     have J:Below wr9.heap.size _ x:=G;let⟨e6,n5,c5,q,e1,e2,e3⟩:=hl 27 _ W;let⟨hq,b8⟩:=e3 wq;let⟨i0,hi0,d8,hz1,hz2⟩:=YI Ts;refine mq w3.heap.size 34 i0 _ 10 _ N0 hi0 d8 hz1 hz2 W K3 (.slice ad i cp) i _ (hv W) (dh H J) ⟨q,0,none⟩ 1 1 _ e1 W b8 (Rp D n5 c5) (by unfold maxLen;omega) wq (by have:=u.size;have:=J.size;omega) ?_;intro v' y ho e8 hfr;exact r v' y ⟨x,J,e8⟩ (λ_=>e8) nn1 ⟨wq,.slice e6 n5 c5,e2.step (dh H J) e8,ho⟩),AF⟩
    ⟨(@λk s9 x hk a5 F hl K V G hv r=>by
     have J:=xE G (by have:=V 1 10;omega);let⟨q0,q1,q2,q3⟩:=f3;exact dD (n:=D) (hv W) ((J.cell b0).trans q0) ((J.cell b0).trans q1) ((J.cell b0).trans q2) ((J.cell b0).trans q3)<|kx r),(@λk s9 x hk a5 F hl K V G hv r=>by
     have J:=xE G (by have:=V 1 10;omega);let⟨q0,q1,q2,q3⟩:=d5;exact dD (n:=C) (hv W) ((J.cell R).trans q0) ((J.cell R).trans q1) ((J.cell R).trans q2) ((J.cell R).trans q3)<|kx r),(@λk s9 x hk a5 F hl K V G hv r=>by
     have J:bW wr9 x:=xE G (by have:=V 1 10;omega);exact dm (v:=.string U) (hv W) ((J.cell R).trans e7)<|kx r),(@λk s9 x hk a5 F hl K V G hv r=>by
     have J:bW wr9 x:=Vl G<|V 0 7;let⟨q0,q1,q2,q3⟩:=d5;exact Lp (hv W) ((J.cell R).trans q0) ((J.cell R).trans q1) ((J.cell R).trans q2) ((J.cell R).trans q3) ((J.cell R).trans e7) ((J.cell R).trans f1)<|kx r),(@λk s9 x hk a5 F hl K V G hv r=>by
     let⟨hp,us,a,h2,h3⟩:=hl 25 _ W;let⟨e6,cp5,e5⟩:=dt h3;exact Bf (hv W) (hv W) (hv W) e5<|r _ x (dO _ _) nn1 ⟨_,_,_,W,hp,us,a,h2,e5▸h3⟩),(@λk s9 x hk a5 F hl K V G hv r=>by
     let⟨e6,n5,c5,e1,e2⟩:=hl 26 _ W;refine Gm e1<|r _ _ (ai (dO _ x) _) nn1 ⟨_,n5,c5,x.heap.size,W,e2.below<|ai (dO _ x) _,λ_=>⟨K2,fJ x _ 34⟩⟩),(@λk s9 x hk a5 F hl K V G hv r=>nY 28 3 W<|r _ x (dO _ _) nn1<|hl 28 _ W),AF⟩
    (λi9 d T' he p v x x' hne hp G hrel hT=>by
     rcases zZ ((Do.1 he).1)with rfl|rfl|rfl|rfl|rfl|rfl|rfl|rfl|rfl|rfl|rfl|rfl;all_goals first
      |(cases he;done)
      |(obtain rfl:=Zk (Xi<|hV he).2;exact yL (show p<2 from hp) H G hrel hT)
      |(obtain rfl:=Zk (Xi<|hV he).2;exact Ng (show p<2 from hp) H G hrel hT)
      |(obtain rfl:=Zk (Xi<|hV he).2;exact Nf (show p<2 from hp) H G hrel hT)
      |(obtain rfl:=Zk (Xi<|hV he).2;exact absurd (show p<2 from hp) (by have:=hT.1;omega))) (λi9 d T' he p v x x' G hb hT=>by
     rcases zZ ((Do.1 he).1)with rfl|rfl|rfl|rfl|rfl|rfl|rfl|rfl|rfl|rfl|rfl|rfl;all_goals first
      |(cases he;done)
      |(obtain rfl:=Zk (Xi<|hV he).2;first|exact SlV.below hT hb|exact AcV.below hT hb|exact OneA.below hT hb|exact NewA.below hT hb)) ?_
  intro gg z hz f8;obtain⟨-,sl,⟨-,us,f9,d6,c9⟩,g⟩:NewA w3.heap.size (i+1) _ D _ _ (SlV wr9.heap.size N) 2 (gg 11) z:=f8 11 _ _ W;obtain⟨y,b7,d9⟩:∃y,Below wr9.heap.size _ y/\y.grownBy z _:=hz;let⟨ad2,cp2,e9⟩:=dt g;have HSL:Hd (Told w3.heap.size A (P.take<|i+1) (.slice ad2 (i+1) cp2) (Y++[sl]) z/\bW w3 z):=by
   have a9:Y.length=i:=by rw[HR.aa.1.len,a1]
   have e1:P.take (i+1)=P.take i++[D]:=by rw[Yy,iN g5,<-f7.aa];rfl
   have f5:bW w3 y:=u.trans<|b7.mono u.size;refine⟨⟨?_,?_,λj k sl' a h2=>?_,XW.2 ⟨HR.1.dj,XO _ _,λt ht t' ht' k hk hk'=>?_⟩⟩,f5.grown d9 f5.size<|λk hk=>(H.lt k hk).1⟩;rotate_left 3
   .obtain rfl:=BY.1 ht';let⟨j,hj⟩:=XM ht;have hjl:j<(P.take i).length:=by rw[<-HR.aa.1.len];exact(Do.1 hj).1
    let⟨us',g1,g2,g3⟩:=HR.aa.1.sl j _ t (iN hjl) hj;have a:=(g3.lt k hk).2;have h2:=(c9.lt k hk').1;have h3:=a2.size;omega
   .rw[e1,Xm,Xm,a9,a1];rfl
   .rw[e9]at g;rwa[e1,D7 A _ _<|by rw[a9,a1],Xm,a1,<-f4.aa,<-f6.aa,<-f2.aa]
   rw[e1]at a;by_cases hj:j<i
   .rw[Xv (by rw[a1];exact hj)]at a;rw[Xv (by rw[a9];exact hj)]at h2;let⟨us',g1,g2,g3⟩:=HR.aa.1.sl j k _ a h2;exact⟨_,g1,g2,C7 (dh (dh g3 a2) b7) (dh H b7) d9⟩
   rw[Xx (by rw[a1];omega),a1]at a;rw[Xx (by rw[a9];omega),a9]at h2;have d8:j-i=0:=by have:=(Do.1 a).1;simp at this;omega
   rw[d8]at a h2;obtain rfl:D=k:=by simpa using a
   obtain rfl:sl=sl':=by simpa using h2
   rw[g4.aa]at d6 c9;exact⟨us,f9,d6,nH c9 u.size⟩
  clear g b7 d9 f8 R H u b0 f3 a2 d5 e7 f1 f9 d6 c9 d1;simp only[n8,sx9];rw[e9];go_wp2;go_roundw;case rel=>exact⟨i+1,_,_,Y++[sl],wq,N1,W,HSL⟩
  simp[nI];omega
 obtain rfl:i=L:=wq
 let⟨a0,I,a3⟩:=HX.aa;have HE:Hd (∃(v:VL)(P:List _)(Y:Tn),Ending.returned (.slice ad i cp)=.returned v/\P.length<=n/\qn A P/\Told w.heap.size A P v Y wr/\bW w wr):=by
  let⟨ht,hbr⟩:=HR.aa;rw[b6.aa,ZK]at ht;refine⟨_,P,_,W,by rw[<-b6.aa];exact d0,⟨a0.1,λm=>?_⟩,⟨ht.len,?_,λj k sl a h2=>?_,ht.dj⟩,a6.trans<|hbr.mono a6.size⟩
  .rw[a0.2 m];refine and_congr_right λ_=>?_;let⟨g1,g2⟩:=HF.aa.2 m;by_cases b9:(A m).no
   .rw[g1 b9];simp[b9]
   rw[g2 b9];simp[b9]
  .rw[b6.aa];exact nH ht.aD a6.size
  let⟨us,q1,q2,q3⟩:=ht.sl j k sl a h2;exact⟨us,q1,q2,nH q3 a6.size⟩
 clear a0 I a3 HR HX;go_wp2;go_ret;exact HE
end
section
open Go.RowKit Go.Maps Go.MuLone
def yD(h:w.ownsRow O e size v n xs)(C:g<O)(u:VL):(w.setCell ⟨g,i,none⟩ u).ownsRow O e size v n xs:=fC h (λk D e=>by have:=(h.lt k D).1;omega) _ _
def Told.cU(h:Told O A ts v sls w)(C:g<O)(u:VL):Told O A ts v sls (w.setCell ⟨g,i,none⟩ u):=⟨h.len,yD h.aD C u,λj k sl G E=>by let⟨D,I,J,H⟩:=h.sl j k sl G E;exact⟨D,I,J,yD H C u⟩,h.dj⟩
def Ke(w:WD)(h:HostAt gb ab n A sb w)(hn:n<=1000000000000):cP 23 #[pt gb] w λe w'=>∃(v:VL)(ts:Tl)(sls:Tn),e=.returned v/\ts.length<=n/\qn A ts/\Told w.heap.size A ts v sls w'/\HostAt gb ab n A sb w'/\Kb [gb] w w':=by
 have Q:=rc h.row 0;have j:=h.row.frozen 0;rw[show yk ab 0=.int .i32 0 from W]at Q;have X:=cV<|lock_free Em ⟨gb,0,none⟩ w Q j;have V:gb<w.heap.size:=h.row.lt;have E:Kb [gb] w (w.setCell ⟨gb,0,none⟩<|.int .i32 1):=(Kb.refl [gb] w).setCell AI _;have G:(w.setCell ⟨gb,0,none⟩<|.int .i32 1).rowIs gb 91 3 (λi=>if i=0 then .int .i32 1 else yk ab i):=h.row.set 0 _;have C:=h.aw.kb E<|λk b l=>gx h.row (h.aw.isMap l) (BY.1 b).symm;have P:Zr (w.setCell ⟨gb,0,none⟩<|.int .i32 1):=h.zr.kb E (λZ=>by
  have e:(0:Nat)=gb:=by simpa using Z
  rw[<-e,h.zr.1.1]at Q;cases Q)
 have Y:(w.setCell ⟨gb,0,none⟩<|.int .i32 1).heap.size=w.heap.size:=K2
 have K:=cV h;clear h Q j
 go_enter_defers func23,ntmps23
 go_wp2_with fail
 refine X.mono ?_;rintro e F⟨rfl,rfl⟩;generalize w.setCell ⟨gb,0,none⟩ (.int .i32 1)=c at*;have J:=cV<|MJ c C hn;have c2:=rc G 2;simp only[yk,show(2:Nat)≠0 by omega,show(2:Nat)≠1 by omega,Zw]at c2;go_wp2_with fail
 refine J.mono ?_;rintro e z⟨v,ts,sls,rfl,q,b,R,c⟩;have D:=cY G c;have U:=rc D 0;have o:=D.frozen 0;simp only[qad]at U;have H:=C.kb (Kb.h (S:=[]) c) K2;have I:=P.below c;have HE:Hd (∃(d:VL)(ts:Tl)(sls:Tn),Ending.returned v=.returned d/\ts.length<=n/\qn A ts/\Told w.heap.size A ts d sls (z.setCell ⟨gb,0,none⟩<|.int .i32 0)/\HostAt gb ab n A sb (z.setCell ⟨gb,0,none⟩<|.int .i32 0)/\Kb [gb] w (z.setCell ⟨gb,0,none⟩<|.int .i32 0)):=by
  have L:Kb [gb] z (z.setCell ⟨gb,0,none⟩<|.int .i32 0):=(Kb.refl [gb] z).setCell AI _;rw[Y]at R;refine⟨v,ts,sls,W,q,b,R.cU V _,⟨?_,H.kb L<|λk b l=>gx D (H.isMap l) (BY.1 b).symm,I.kb L<|λZ=>?_⟩,(E.below c).setCell AI _⟩
  .refine(D.set 0<|.int .i32 0).congr λi l=>?_;by_cases e:i=0
   .subst e;rfl
   simp only[iF e]
  have e:(0:Nat)=gb:=by simpa using Z
  rw[<-e,I.1.1]at U;cases U
 obtain⟨m,y,rfl⟩:=dt R.aD;clear R c D H I b G C P J;go_wp2;refine leaves_cons (f:=32) (args:=#[pt gb]) K2 (by simp[go_sem]) ?_;refine(unlock_deferred Em ⟨gb,0,none⟩ .returning z U o).mono ?_;rintro e T p⟨rfl,rfl,rfl⟩;exact⟨.slice m ts.length y,by simp[results,results23,go_sem],HE⟩
end
end
def UH(wr:WD):Nat->X4:=λ_ x=>bW wr x
def DN(k:Nat)(x x':WD)(h:UH wr k x)(C:bW x x'):UH wr k x':=(h:bW wr x).trans<|C.mono (h:bW wr x).size
def Cl{D:Vr}(h:tG s t<|iI (i:Int))(hi:0<i)(C:K (Wb s d<|.bool true) x):Oper.wp prog ⟨some d,.binOp .gtr 3 (.tmp t) (.const<|iI 0) 3,D,pos,af,gd⟩ s x K Q:=by go_simp;exact C
def N8{i:Int}{q:Bool}{E:Vr}(h:tG s t<|iI i)(D:q=decide ((0:Int)<=i))(C:K (Wb s d<|.bool q) x):Oper.wp prog ⟨some d,.binOp .geq 3 (.tmp t) (.const<|iI 0) 3,E,pos,af,gd⟩ s x K Q:=by rw[D]at C;go_simp;exact C
def sq{D:Vr}(h:tG s t<|iI (i:Int))(hi:0<i)(E:i<=1000000)(C:K (Wb s d<|iI ((i-1:Nat):Int)) x):Oper.wp prog ⟨some d,.binOp .sub 3 (.tmp t) (.const<|iI 1) 3,D,pos,af,gd⟩ s x K Q:=by
 rw[(show((i-1:Nat):Int)=(i:Int)-1 by omega)]at C;go_simp
 go_bits
 exact C
def SlIn(x:WD)(v:VL)(l:List<|Nat×Nat):=∃ad c,v=.slice ad l.length c/\(l=[]\/∃g o,ad=some ⟨g,o,none⟩/\g<x.heap.size/\∀(i:Nat) p,l[i]?=some p->∀j,j<8->x.cell? ⟨g,o+i*8+j,none⟩=some ((eU p.1++eU p.2)[j]!))
def SlIn.below{x:WD}{l:List<|Nat×Nat}(h:SlIn x v l)(I:bW x y):SlIn y v l:=by let⟨G,c,E,D⟩:=h;refine⟨G,c,E,D.imp id ?_⟩;rintro⟨g,o,J,H,L⟩;exact⟨g,o,J,Xg H I.size,λi p J j C=>(I.cell H).trans<|L i p J j C⟩
def rS(l:List<|Nat×Nat)(i:Nat):Bool:=(i==0|| !decide (0<=gP (l.getD (i-1) (0,0)).1 (l.getD i (0,0)).1))&& !decide ((l.getD i (0,0)).2%M=0)
def kA(l:List<|Nat×Nat):Bool:=decide (l.length<=20)&&(List.range l.length).all (rS l)
def ii{f:Nat->Bool}(hi:i<n)(h:f i=false):(List.range n).all f=false:=K9
def kS{f:Nat->Bool}(h:∀j,j<n->f j=true):(List.range n).all f=true:=Xp.2 λj C=>h j<|XS.1 C
def gE{α:Type}(l:List α)(d:α)(h:i<l.length):l.getD i d=l[i]:=K9
def B7(l:List<|Nat×Nat)(w:WD)(h:SlIn w v l)(hz:Zr w):cP 80 #[v] w (rT (.bool<|kA l) w):=by
 obtain⟨ad,cp,rfl,h2⟩:=h;let⟨L,c⟩:=dP l.length;let⟨R,HR⟩:=dP<|kA l;rw[<-HR.aa,<-c.aa];by_cases hgt:20<L
 .have hd:=dT<|(20:Int)<(L:Int);rw[(by rw[HR.aa];unfold kA;rw[W8 (by rw[<-c.aa];omega)];rfl:R=false)];go_enter func80,ntmps80;go_wp2;go_ret;exact⟨W,dO _ _⟩
 have hd:=dF<|(20:Int)<L;have z:Hd (R=(List.range L).all (rS l)):=by show R=_;rw[HR.aa,c.aa];unfold kA;rw[OsQ (by rw[<-c.aa];omega)];rfl
 have HS:=cV h2;have HZ:=cV hz;go_enter func80,ntmps80;go_wp2;go_loopw[10] (λF wr=>∃i:Nat,i<=L/\F=iI (i:Int)/\Hd (bW w wr)/\Hd (∀j,j<i->rS l j=true)) (λF _=>L-nI F);case atStart=>exact⟨0,In _,W,dO _ _,λj S=>absurd S wq⟩
 obtain⟨i,hi,rfl,A,HA⟩:=hrel;by_cases Z:i<L
 .have hd2:=dN i L;obtain⟨g,o,rfl,T,P⟩:=HS.aa.resolve_left (λe=>by rw[c.aa,e]at Z;grind);have a6:i<l.length:=by rwa[<-c.aa]
  obtain⟨H,a3⟩:∃H:Nat,Hd (H=l[i].1):=⟨l[i].1,cV W⟩
  obtain⟨v9,b⟩:∃v9:Nat,Hd (v9=l[i].2):=⟨l[i].2,cV W⟩
  have hc:=P i l[i]<|iN a6;rw[<-a3.aa,<-b.aa]at hc;have cc:∀j,j<8->cL wr g (o+i*8+j) _:=λj S=>(A.cell T).trans<|hc j S;have ca:=Ce cc;simp only[A3,A0,eU,XN,XG,Nat.reduceAdd]at ca;obtain⟨c0,c1,c2,c3,c4,c5,c6,c7, -⟩:=ca;have a1:=cV T;have HCL:=cV P;have a0:=cV a6;clear cc hc P T;by_cases N:i=0
  .subst N;simp at c0 c1 c2 c3 c4 c5 c6 c7;let⟨a,Y⟩:=hJ false;have X:Hd (rS l 0=((0==0|| !a)&& !decide (v9%M=0))):=by show rS l 0=_;unfold rS;rw[b.aa,gE l _ a0.aa];simp
   have N:0=0:=rfl;go_wp2;go_quiet (fail);have k:Below _ w ((wr.alloc<|.cells #[iU<|cX H 0,iU<|cX H 1,iU<|cX H 2,iU<|cX H 3,iU<|cX v9 0,iU<|cX v9 1,iU<|cX v9 2,iU<|cX v9 3] 54).drewN nq):=A2 (ai A _) nq;have O:=cV k;subst Y;let⟨⟨z0,z1,z2,z3⟩,_⟩:=HZ.aa.below O;have f:=pJ v9;by_cases U:v9%M=0
   .rw[xd U]at f;go_wp2;go_ret;refine⟨?_,O⟩;rw[z.aa,ii Z (by rw[X.aa];grind)];rfl
   rw[CS U]at f;go_wp2;refine⟨⟨0+1,wq,K2,O,?_⟩,?_⟩
   .simp_all
   grind[nI]
  have a5:0<i:=wq
  obtain⟨a9,a2⟩:∃a9:Nat,Hd (a9=(l[i-1]' wq).1):=⟨(l[i-1]' wq).1,cV W⟩
  let⟨a,Y⟩:=hJ<|decide ((0:Int)<=gP a9 H);have X:Hd (rS l i=((i==0|| !a)&& !decide (v9%M=0))):=by show rS l i=_;unfold rS;rw[Y,b.aa,a3.aa,a2.aa,gE l _ _,gE l _ _]
  go_wp2;let⟨wr9,C⟩:=hJ<|wr.alloc<|.cells #[iU<|cX H 0,iU<|cX H 1,iU<|cX H 2,iU<|cX H 3,iU<|cX v9 0,iU<|cX v9 1,iU<|cX v9 2,iU<|cX v9 3] 54;let⟨m,D⟩:=hJ wr.heap.size;have p:bW wr wr9:=by rw[C];exact ai (dO _ _) _
  have a4:=HCL.aa (i-1) (l[i-1]'(by have:=a0.aa;omega)) (iN (by have:=a0.aa;omega));have J:g<wr9.heap.size:=Xg a1<|By A.size p.size;have r:∀j,j<8->wr9.cell? ⟨g,o+(i-1)*8+j,none⟩=_:=λj S=>((A.trans<|p.mono A.size).cell<|by exact a1).trans<|a4 j S;rw[<-a2.aa]at r;have p0:wr9.cell? ⟨g,o+(i-1)*8,_⟩=some (.int _ _):=r 0 wq;have p1:wr9.cell? _=some (.int _ _):=r 1 wq;have p2:wr9.cell? _=some (.int _ _):=r 2 wq;have p3:wr9.cell? _=some (.int _ _):=r 3 wq;have G:m<wr9.heap.size:=by rw[D,C];simp
  have I:=λj u hu=>fJ wr #[iU<|cX H 0,iU<|cX H 1,iU<|cX H 2,iU<|cX H 3,iU<|cX v9 0,iU<|cX v9 1,iU<|cX v9 2,iU<|cX v9 3] 54 j u hu;have b0:cL wr9 m 0 (iU<|cX H 0):=by rw[D,C];exact I 0 _ W
  have b2:cL wr9 m (0+2) (iU<|cX H 2):=by rw[D,C];exact I 2 _ W
  have b3:cL wr9 m (0+3) (iU<|cX H 3):=by rw[D,C];exact I 3 _ W
  rw[<-C,<-D];refine dy _ (λ_ _ _=>True) [(0,(.slice _ L cp)),(3,(.int _ _)),(4,(.pointer _))] (nV 15 [.int _ i,.bool _,.bool true,.slice (some ⟨g,o,_⟩) L cp,.int _ _,.int _ _,.pointer _,.pointer _,wv a9,.pointer _,wv H,.int _ _,.bool a,.bool a]) [] [1,5,6,8,10,11,12] ((dO _ _).drew) (DN)
    True.intro
    ⟨(λ_ _ hv V=>Cl (hv W) a5<|kx V),(λ_ E hv V=>by
     have q:Below _ _ _:=E;exact sq (hv W) a5 (wq:i<=1000000)<|kx V),(λ_ _ hv V=>gK 8 (hv W) (hv W) wq<|kx V),(λ_ E hv V=>by
     have q:Below _ _ _:=E;exact dD (hv W) ((q.cell J).trans p0) ((q.cell J).trans p1) ((q.cell J).trans p2) ((q.cell J).trans p3)<|kx V),(λ_ E hv V=>dD (hv W) ((E.cell G).trans b0) ((E.cell G).trans (by rw[D,C];exact I 1 _ W:wr9.cell? ⟨m,0+1,none⟩=some (iU<|cX H 1))) ((E.cell G).trans b2) ((E.cell G).trans b3)<|kx V),(λ_ E hv V=>by
     have q:Below _ _ _:=E;refine o6 @hv (ke a9 H _) (λv y h=>?_) (λl y h=>absurd h.1 K2)<|λy h=>absurd h.1 K2;let⟨e,hb⟩:=h;injection e with e;subst e;exact V _ y hb nn1 W),(λ_ _ hv V=>N8 (hv W) Y<|kx V),AF⟩
    (nl W) (nl W) ?_
  intro gg x E _;have e4:x.cell? ⟨_,4,_⟩=some _:=((E).cell G).trans (by rw[D,C];exact I 4 _ W);have e5:x.cell? ⟨_,5,_⟩=some _:=((E).cell G).trans (by rw[D,C];exact I 5 _ W);have e6:x.cell? ⟨_,6,_⟩=some _:=((E).cell G).trans (by rw[D,C];exact I 6 _ W);have e7:x.cell? ⟨_,7,_⟩=some _:=((E).cell G).trans (by rw[D,C];exact I 7 _ W);have k:=(A.trans<|p.mono A.size).trans<|(E).mono<|By A.size p.size;clear Y E p0 p1 p2 p3 b0 b2 b3 r a4 I J G C D p;simp only[n8];simp;have O:=cV k;cases a7:a with
  |true=>subst a7;go_wp2;go_ret;refine⟨?_,O⟩;rw[z.aa,ii Z (by rw[X.aa];simp[N])];rfl
  |false=>
   subst a7;let⟨⟨z0,z1,z2,z3⟩,_⟩:=HZ.aa.below O;have f:=pJ v9;by_cases U:v9%M=0
   .rw[xd U]at f;go_wp2;go_ret;refine⟨?_,O⟩;rw[z.aa,ii Z (by rw[X.aa];simp[U])];rfl
   rw[CS U]at f;go_wp2;refine⟨⟨i+1,wq,K2,O,?_⟩,?_⟩
   .intro j S;by_cases e:j=i
    .subst e;rw[X.aa];simp[U]
    exact HA j wq
   simp[nI];omega
 have hd2:=dG i L;have HA2:Hd (∀j,j<L->rS l j=true):=λj S=>HA j wq;go_wp2;go_ret;refine⟨?_,A⟩;rw[z.aa,kS HA2.aa];rfl
structure AcE where
 aj:Nat
 ai:Nat
 ae:BA
 ar:List (Nat×Nat)
def MU:AcE:=⟨0,0,⟨#[]⟩,[]⟩
def AcIn(x:WD)(v:VL)(l:List AcE):=∃ad c,v=.slice ad l.length c/\(l=[]\/∃g o,ad=some ⟨g,o,none⟩/\g<x.heap.size/\∀(i:Nat) a,l[i]?=some a->∃sl,(∀j,j<10->x.cell? ⟨g,o+i*10+j,none⟩=some ((jL a.aj a.ai a.ae sl)[j]!))/\SlIn x sl a.ar)
def AcIn.below{l:List AcE}(h:AcIn x v l)(J:bW x y):AcIn y v l:=by let⟨I,c,G,E⟩:=h;refine⟨I,c,G,E.imp id ?_⟩;rintro⟨g,o,O,L,P⟩;refine⟨g,o,O,Xg L J.size,λi p O=>?_⟩;let⟨Q,C,H⟩:=P i p O;exact⟨Q,λj D=>(J.cell L).trans<|C j D,H.below J⟩
def rA(l:List AcE)(i:Nat):Bool:=(i==0|| !decide (0<=gP (l.getD (i-1) MU).aj (l.getD i MU).aj))&&(decide ((l.getD i MU).ae.size<=1000)&&kA (l.getD i MU).ar)
def jt(l:List AcE):Bool:=decide (l.length<=8)&&(List.range l.length).all (rA l)
def Fh(l:List AcE)(w:WD)(h:AcIn w v l)(hz:Zr w):cP 55 #[v] w (rT (.bool<|jt l) w):=by
 obtain⟨b,cp,rfl,q⟩:=h;let⟨L,b⟩:=dP l.length;let⟨R,c⟩:=dP<|jt l;rw[<-c.aa,<-b.aa];by_cases r:8<L
 .have r:=dT<|(8:Int)<(L:Int);have e:R=false:=by rw[c.aa];unfold jt;rw[W8 (by rw[<-b.aa];omega)];rfl
  rw[e];clear q;go_enter func55,ntmps55;go_wp2;go_ret;exact⟨W,dO _ _⟩
 have r:=dF<|(8:Int)<(L:Int);have f:Hd (R=(List.range L).all (rA l)):=by show R=_;rw[c.aa,b.aa];unfold jt;rw[OsQ (by rw[<-b.aa];omega)];rfl
 have r:=cV q;have HZ:=cV hz;clear q hz c;go_enter func55,ntmps55;go_wp2;go_loopw[10] (λc wr=>∃i:Nat,i<=L/\c=iI (i:Int)/\Hd (bW w wr)/\Hd (∀j,j<i->rA l j=true)) (λc _=>L-nI c);case atStart=>exact⟨0,In _,W,dO _ _,λj t=>absurd t wq⟩
 obtain⟨i,c,rfl,k,HA⟩:=hrel;by_cases U:i<L
 .have hd2:=dN i L;obtain⟨g,o,rfl,q,Y⟩:=r.aa.resolve_left (λe=>by rw[b.aa,e]at U;exact absurd U K2);have b7:i<l.length:=by rwa[<-b.aa]
  obtain⟨a,a0⟩:∃a,Hd (a=l[i]):=⟨l[i],cV W⟩
  let⟨r,c,b⟩:=Y i l[i]<|iN b7;rw[<-a0.aa]at c b;let⟨O,I,C,ss⟩:=a;dsimp only at c b;let⟨r8,a4⟩:=dP<|kA ss;have K:Hd (∀x,bW w x->cP 80 #[r] x (rT (.bool r8) x)):=λx N=>by rw[a4.aa];exact B7 ss x (b.below N)<|HZ.below N
  obtain⟨A,S,rfl,_⟩:=b;let⟨r,b⟩:=dP ss.length;rw[<-b.aa]at c K;have cc:∀j,j<10->cL wr g (o+i*10+j) ((jL O I C<|.slice A r S)[j]!):=λj t=>(k.cell<|by exact q).trans<|c j t;have b:=Ce cc;simp only[A3,A0,jL,eU,XN,XG,Nat.reduceAdd]at b;obtain⟨c0,c1,c2,c3,c4,c5,c6,c7,c8,c9, -⟩:=b;have a6:=cV q;have HCL:=cV Y;have d:=cV b7;clear cc c Y q;by_cases a3:i=0
  .subst a3;simp only[YB,Ye]at c0 c1 c2 c3 c4 c5 c6 c7 c8 c9;let⟨q,p⟩:=hJ false;have Q:Hd (rA l 0=((0==0|| !q)&&(decide (C.size<=1000)&&r8))):=by show rA l 0=_;unfold rA;rw[gE l MU d.aa,<-a0.aa,a4.aa];simp
   have a3:(0:Nat)=0:=rfl;go_wp2;go_quiet (fail);have T:bW w ((wr.alloc<|.cells #[lu O 0,lu O 1,lu O 2,lu O 3,lu I 0,lu I 1,lu I 2,lu I 3,.string C,.slice A r S] 34).drewN nq):=A2 (ai k _) nq;have H:=cV T;clear T;subst p;by_cases hcd:1000<C.size
   .have s:=dT<|(1000:Int)<(C.size:Int);go_wp2;go_ret;refine⟨?_,H⟩;rw[f.aa,ii U (by rw[Q.aa,W8<|show¬C.size<=1000 by omega];simp)];rfl
   have s:=dF<|(1000:Int)<(C.size:Int);have z:=cV<|K _ H;clear K;cases b:r8 with
   |false=>subst b;go_wp2_with(first|(go_at_call 80;refine z.mono ?_;rintro e w9⟨rfl,X⟩)|fail);go_ret;refine⟨?_,H.trans<|X.mono H.size⟩;rw[f.aa,ii U (by rw[Q.aa];simp)];rfl
   |true=>
    subst b;go_wp2_with(first|(go_at_call 80;refine z.mono ?_;rintro e w9⟨rfl,X⟩)|fail);refine⟨⟨0+1,wq,K2,H.trans<|X.mono H.size,?_⟩,?_⟩
    .intro j t;by_cases e:j=0
     .subst e;rw[Q.aa,OsQ (wq:C.size<=1000)];simp
     exact HA j wq
    simp[nI];omega
  have b6:0<i:=wq
  have a5:i<=1000000:=wq
  obtain⟨a9,a7⟩:∃a9:Nat,Hd (a9=(l[i-1]'(by have:=d.aa;omega)).aj):=⟨(l[i-1]'(by have:=d.aa;omega)).aj,cV W⟩
  let⟨q,p⟩:=hJ<|decide ((0:Int)<=gP a9 O);have Q:Hd (rA l i=((i==0|| !q)&&(decide (C.size<=1000)&&r8))):=by show rA l i=_;unfold rA;rw[gE l MU d.aa,gE l MU (by have:=d.aa;omega:i-1<l.length),<-a0.aa,<-a7.aa,a4.aa,p]
  go_wp2;let⟨wr9,D⟩:=hJ<|wr.alloc<|.cells #[lu O 0,lu O 1,lu O 2,lu O 3,lu I 0,lu I 1,lu I 2,lu I 3,.string C,.slice A r S] 34;let⟨P,G⟩:=hJ wr.heap.size;have F:bW wr wr9:=by rw[D];exact ai (dO _ _) _
  let⟨c,a8,_⟩:=HCL.aa (i-1) (l[i-1]'(by have:=d.aa;omega)) (iN (by have:=d.aa;omega));have V:g<wr9.heap.size:=Xg a6<|By k.size F.size;have c:∀j,j<10->wr9.cell? ⟨g,o+(i-1)*10+j,none⟩=_:=λj t=>((k.trans<|F.mono k.size).cell<|by exact a6).trans<|a8 j t;rw[<-a7.aa]at c;have p0:wr9.cell? ⟨g,o+(i-1)*10,none⟩=some (lu a9 0):=c 0 wq;have p1:wr9.cell? ⟨g,o+(i-1)*10+1,none⟩=some (lu a9 1):=c 1 wq;have p2:wr9.cell? ⟨g,o+(i-1)*10+2,none⟩=some (lu a9 2):=c 2 wq;have p3:wr9.cell? ⟨g,o+(i-1)*10+3,none⟩=some (lu a9 3):=c 3 wq;have J:P<wr9.heap.size:=by rw[G,D];simp
  have Z:=λj u hu=>fJ wr #[lu O 0,lu O 1,lu O 2,lu O 3,lu I 0,lu I 1,lu I 2,lu I 3,.string C,.slice A r S] 34 j u hu;have b0:cL wr9 P 0 (lu O 0):=by rw[G,D];exact Z 0 _ W
  have b1:cL wr9 P (0+1) (lu O 1):=by rw[G,D];exact Z 1 _ W
  have b2:cL wr9 P (0+2) (lu O 2):=by rw[G,D];exact Z 2 _ W
  have b3:cL wr9 P (0+3) (lu O 3):=by rw[G,D];exact Z 3 _ W
  rw[<-D,<-G];refine dy (UH wr9) (λ_ _ _=>True) [(0,(.slice (some ⟨g,o,none⟩) L cp)),(3,(iI (i:Int))),(4,(pt P))] (nV 15 [iI (i:Int),.bool true,.bool true,.slice (some ⟨g,o,none⟩) L cp,iI (i:Int),iI ((i-1:Nat):Int),pq g<|o+(i-1)*10,pq g<|o+(i-1)*10,wv a9,pt P,wv O,iI<|gP a9 O,.bool q,.bool q]) [] [1,5,6,8,10,11,12] ((dO _ _).drew) (DN)
    True.intro
    ⟨(λ_ _ hv m=>Cl (hv W) b6<|kx m),(λ_ E hv m=>by
     have N:bW wr9 _:=E;exact sq (hv W) b6 a5<|kx m),(λ_ _ hv m=>gK 10 (hv W) (hv W) wq<|kx m),(λ_ E hv m=>by
     have N:bW wr9 _:=E;exact dD (n:=a9) (hv W) ((N.cell V).trans p0) ((N.cell V).trans p1) ((N.cell V).trans p2) ((N.cell V).trans p3)<|kx m),(λ_ E hv m=>dD (n:=O) (hv W) ((E.cell J).trans b0) ((E.cell J).trans b1) ((E.cell J).trans b2) ((E.cell J).trans b3)<|kx m),(λ_ E hv m=>by
     have N:bW wr9 _:=E;refine o6 @hv (ke a9 O _) (λv y h=>?_) (λl y h=>absurd h.1 K2)<|λy h=>absurd h.1 K2;let⟨e,hb⟩:=h;injection e with e;subst e;exact m _ y hb nn1 W),(λ_ _ hv m=>N8 (hv W) p<|kx m),AF⟩
    (nl W) (nl W) ?_
  intro gg x E _;have e8:cL x P 8 (.string C):=((E:bW wr9 x).cell J).trans (by rw[G,D];exact Z 8 _ W);have e9:cL x P 9 (.slice A r S):=((E:bW wr9 x).cell J).trans (by rw[G,D];exact Z 9 _ W);have T:bW w x:=(k.trans<|F.mono k.size).trans<|(E:bW wr9 x).mono<|By k.size F.size;clear p E p0 p1 p2 p3 b0 b1 b2 b3 c a8 Z V J D G F;simp only[n8,sx9];have H:=cV T;clear T;cases c:q with
  |true=>subst c;go_wp2;go_ret;refine⟨?_,H⟩;rw[f.aa,ii U (by rw[Q.aa];simp[a3])];rfl
  |false=>
   subst c;by_cases hcd:1000<C.size
   .have s:=dT<|(1000:Int)<(C.size:Int);go_wp2;go_ret;refine⟨?_,H⟩;rw[f.aa,ii U (by rw[Q.aa,W8<|show¬C.size<=1000 by omega];simp)];rfl
   have s:=dF<|(1000:Int)<(C.size:Int);have z:=cV<|K _ H;clear K;cases b:r8 with
   |false=>subst b;go_wp2_with(first|(go_at_call 80;refine z.mono ?_;rintro e w9⟨rfl,X⟩)|fail);go_ret;refine⟨?_,H.trans<|X.mono H.size⟩;rw[f.aa,ii U (by rw[Q.aa];simp)];rfl
   |true=>
    subst b;go_wp2_with(first|(go_at_call 80;refine z.mono ?_;rintro e w9⟨rfl,X⟩)|fail);refine⟨⟨i+1,wq,K2,H.trans<|X.mono H.size,?_⟩,?_⟩
    .intro j t;by_cases e:j=i
     .subst e;rw[Q.aa,OsQ (wq:C.size<=1000)];simp
     exact HA j wq
    simp[nI];omega
 have hd2:=dG i L;have b:Hd (∀j,j<L->rA l j=true):=λj t=>HA j wq;clear HA;go_wp2;go_ret;refine⟨?_,k⟩;rw[f.aa,kS b.aa];rfl
def PY:Bc λx=>bW w x:=λx y h C=>h.trans<|C.mono h.size
def Wd.bel{x:WD}{o:Nat}(h:Wd x b o n)(G:bW x y):Wd y b o n:=by have E:∀{i v},x.cell? _=some v->cL y b i v:=λC=>(G.cell<|Yb _ _ C).trans C;exact⟨E h.1,E h.2.1,E h.2.2.1,E h.2.2.2⟩
def Ti{o:Nat}:Bc λx=>bW w x/\Wd x b o n:=λx y h C=>⟨h.1.trans<|C.mono h.1.size,h.2.bel C⟩
section
variable {D:Td}{o:Oper}
def js(h:∀s x,(∀t c,pg I D es o t=some c->s.tmps.getD t undef=c)->∀K:K6,K (Wb s d v) x->Oper.wp prog o s x K Q):WL Jq9 I D es Q o (some d) (.v v):=λs x _ E K C=>h s x E K<|kx C
def Mx{c:Int}{b:Bool}(h:tG s t<|iI (a:Int))(E:decide (c<(a:Int))=b)(C:K (Wb s d<|.bool b) x):Oper.wp prog ⟨some d,.binOp .gtr 3 (.tmp t) (.const<|iI c) 3,ty,pos,af,gd⟩ s x K Q:=by go_simp;exact C
end
def and3{a b c d:Bool}(h:(a&&(b&&c))=false):(a&&(b&&(c&&d)))=false:=K9
theorem xm(a b:Nat):(!decide (0<=gP a b))=iX a b:=by unfold gP iX;grind
def Ee{v:VL}(l:List AcE)(w:WD)(h:AcIn w v l):cP 39 #[v] w (rT (.bool<|jt l) w):=by
 obtain⟨c,cp,rfl,h2⟩:=h;let⟨L,c⟩:=dP l.length;let⟨R,r⟩:=dP<|jt l;rw[<-r.aa,<-c.aa];by_cases hgt:8<L
 .have hd:=dT<|(8:Int)<(L:Int);have e:R=false:=by rw[r.aa];unfold jt;rw[W8 (by rw[<-c.aa];omega)];rfl
  rw[e];clear h2;go_enter func39,ntmps39;go_wp2;go_ret;exact⟨W,dO _ _⟩
 have hd:=dF<|(8:Int)<(L:Int);have m:Hd (R=(List.range L).all (rA l)):=by show R=_;rw[r.aa,c.aa];unfold jt;rw[OsQ (by rw[<-c.aa];omega)];rfl
 have HS:=cV h2;clear h2 r;go_enter func39,ntmps39;go_wp2;go_loopw[3] (λt3 wr=>∃i:Nat,i<=L/\t3=iI (i:Int)/\Hd (bW w wr)/\Hd (∀j,j<i->rA l j=true)) (λt3 _=>L-nI t3);case atStart=>exact⟨0,In _,W,dO _ _,λj T=>absurd T wq⟩
 obtain⟨i,r,rfl,HB,HA⟩:=hrel;by_cases O:i<L;case neg=>have r:=dG i L;have a7:Hd (∀j,j<L->rA l j=true):=λj T=>HA j wq;clear HA;go_wp2;go_ret;refine⟨?_,HB⟩;rw[m.aa,kS a7.aa];rfl
 have r:=dN i L;obtain⟨g,o,rfl,a3,X⟩:=HS.aa.resolve_left (λe=>by rw[c.aa,e]at O;exact absurd O K2);have a0:i<l.length:=by rwa[<-c.aa]
 obtain⟨a,a2⟩:∃a,Hd (a=l[i]):=⟨l[i],cV W⟩
 let⟨c,r,a5⟩:=X i l[i]<|iN a0;rw[<-a2.aa]at r a5;let⟨k9,bl9,C,ss⟩:=a;dsimp only at r a5;obtain⟨a9,c,rfl,d1⟩:=a5;let⟨U,F⟩:=dP ss.length;rw[<-F.aa]at r;have b6:=cV d1;have AT:Hd (∀x,Below _ w x->Wd x g (o+i*10) k9/\x.cell? _=some (.string C)/\x.cell? _=some (.slice a9 U c)):=λx H=>by have P:∀j,j<10->cL x g (o+i*10+j) ((jL k9 bl9 C<|.slice a9 U c)[j]!):=λj T=>(H.cell a3).trans<|r j T;exact⟨⟨P 0 wq,P 1 wq,P 2 wq,P 3 wq⟩,P 8 wq,P 9 wq⟩
 let⟨pv,b1⟩:=dP<|(l.getD (i-1) MU).aj;have PT:Hd (∀x,Below _ w x->Wd x g (o+(i-1)*10) pv):=λx H=>by
  have c0:i-1<l.length:=wq
  let⟨slp,A,_⟩:=X (i-1) l[i-1]<|iN c0;have e:l[i-1].aj=pv:=by rw[b1.aa,gE l MU c0]
  rw[e]at A;have P:∀j,j<10->x.cell? ⟨g,o+(i-1)*10+j,none⟩=_:=λj T=>(H.cell a3).trans<|A j T;exact⟨P 0 wq,P 1 wq,P 2 wq,P 3 wq⟩
 have S:Hd (rA l i=((i==0||iX pv k9)&&(decide (C.size<=1000)&&kA ss))):=by show rA l i=_;unfold rA;rw[gE l MU a0,<-a2.aa,xm,b1.aa]
 let⟨q,HQ⟩:=dP<|((i==0||iX pv k9)&&(decide (C.size<=1000)&&decide (U<=20)));have hi9:i<=1000000:=wq
 have HIL:=cV a0;obtain⟨-,c8,c9⟩:=AT.aa wr HB;clear r X a0 d1 b1 a2 a3;go_upto_region 6 with fail
 go_cut[50] (λr wx=>r=.bool (!q)/\Hd (bW w wx));case first=>
  clear HA S b6 m HS;by_cases r:1000<C.size
  .have d4:=dT<|(1000:Int)<(C.size:Int);have e:q=false:=by rw[HQ.aa,W8<|show¬C.size<=1000 by omega];simp
   go_quiet (fail);go_wp2;go_meet;case rel=>exact⟨by rw[e];rfl,A2 HB _⟩
  have d4:=dF<|(1000:Int)<C.size;by_cases h2:20<U
  .have d7:=dT<|(20:Int)<(U:Int);have e:q=false:=by rw[HQ.aa,W8<|show¬U<=20 by omega];simp
   go_quiet (fail);go_wp2;go_meet;case rel=>exact⟨by rw[e];rfl,A2 HB _⟩
  have d7:=dF<|(20:Int)<(U:Int);by_cases h3:i=0
  .subst h3;have e:q=true:=by rw[HQ.aa,OsQ (wq:U<=20),OsQ (wq:C.size<=1000)];rfl
   simp only[YB,Ye]at c8 c9;go_quiet (fail);go_wp2;go_meet;case rel=>exact⟨by rw[e];rfl,A2 HB _⟩
  have d5:0<i:=wq
  have e:q=iX pv k9:=by rw[HQ.aa,OsQ (wq:U<=20),OsQ (wq:C.size<=1000),show(i==0)=false from Xb.2 h3];simp
  clear c8 c9;refine Gs [(0,(.slice _ L cp)),(3,(iI (i:Int)))] (nV 16 [.slice (some ⟨g,o,none⟩) L cp,_,pq g<|o+i*10,pq g<|o+i*10+8,.string C,iI (C.size:Int),.bool false,.bool false,.slice (some ⟨g,o,none⟩) L cp,iI (i:Int),pq g<|o+i*10,pq g<|o+i*10+9,.slice a9 U c,iI (U:Int),.bool false,.bool false,.bool false,iI (i:Int),.bool true,.bool true,.slice (some ⟨g,o,none⟩) L cp,iI (i:Int),iI ((i-1:Nat):Int),pq g<|o+(i-1)*10,pq g<|o+(i-1)*10,wv pv,.slice (some ⟨g,o,none⟩) L cp,iI (i:Int),pq g<|o+i*10,pq g<|o+i*10,wv k9,.bool<|iX pv k9,.bool<|!iX pv k9,.bool<|!iX pv k9,.bool<|!iX pv k9]) [2,4,6,10,12,14,18,22,23,25,28,30,31] W PY HB ⟨(js λs x r K G=>gK 10 (r 16 _ W) (r 17 _ W) O G),(jc W λx H=>(AT x H).2.1),(js λs x r K G=>Mx (r 21 _ W) d4 G),(js λs x r K G=>gK 10 (r 24 _ W) (r 25 _ W) O G),(jc W λx H=>(AT x H).2.2),(js λs x r K G=>Mx (r 29 _ W) d7 G),(js λs x r K G=>Cl (r 33 _ W) d5 G),(js λs x r K G=>sq (r 37 _ W) d5 hi9 G),(js λs x r K G=>gK 10 (r 36 _ W) (r 38 _ W) wq G),(jw W PT),(js λs x r K G=>gK 10 (r 42 _ W) (r 43 _ W) O G),(jw W λx H=>(AT x H).1),(jl W λx _=>jz pv k9 x),AF⟩ λx H=>?_;simp only[n8,sx9];have HX:=cV H;go_wp2;go_meet;case rel=>exact⟨by rw[e],HX⟩
 obtain⟨rfl,E⟩:=hcut;clear HB c8 c9;cases hq:q with
 |false=>
  have HF:Hd (rA l i=false):=by show rA l i=false;rw[S.aa];have h9:=HQ.aa;rw[hq]at h9;unfold kA;rw[<-F.aa];exact and3 h9.symm
  clear HQ S HA;go_wp2;go_ret;refine⟨?_,E⟩;rw[m.aa,ii O HF.aa];rfl
 |true=>
  have HT:Hd (U<=20/\rA l i=(List.range U).all (rS ss)):=by have h9:=HQ.aa;rw[hq]at h9;have h8:=S.aa;unfold kA at h8;rw[<-F.aa]at h8;let⟨h5,h6⟩:=(Xo _ _).mp h9.symm;let⟨h6,h7⟩:=(Xo _ _).mp h6;rw[h5,h6,h7]at h8;exact⟨Xd h7,by rw[h8];rfl⟩
  clear HQ S hq;simp only[Bool.not_true];go_wp2;go_loopw[4] (λt4 wr=>∃j:Nat,j<=U/\t4=iI (j:Int)/\Hd (bW w wr)/\Hd (∀k,k<j->rS ss k=true)) (λt4 _=>U-nI t4);case atStart=>exact⟨0,In _,W,E,λj T=>absurd T wq⟩
  clear E;obtain⟨j,T,rfl,E,HC⟩:=hrel;obtain⟨-,c8,c9⟩:=AT.aa wr E;by_cases d6:j<U;case neg=>
   have hd3:=dG j U;have a7:Hd (∀k,k<i+1->rA l k=true):=λk hk=>by
    by_cases e:k=i
    .rw[e,HT.aa.2,kS λk hk=>HC.aa k wq]
    exact HA k wq
   clear HA HC;go_wp2;exact⟨⟨i+1,wq,N1,E,a7⟩,by simp[nI];omega⟩
  have hd3:=dN j U;have Y:j<ss.length:=by rw[<-F.aa];exact d6
  obtain⟨g2,o2,rfl,f,V⟩:=b6.aa.resolve_left (λe=>by rw[e]at Y;exact absurd Y K2);obtain⟨k8,a8⟩:∃k8:Nat,Hd (k8=ss[j].1):=⟨ss[j].1,cV W⟩
  obtain⟨J,a4⟩:∃J:Nat,Hd (J=ss[j].2):=⟨ss[j].2,cV W⟩
  have ul:=V j ss[j]<|iN Y;rw[<-a8.aa,<-a4.aa]at ul;have P:∀k,k<8->cL wr g2 (o2+j*8+k) ((eU k8++eU J)[k]!):=λk hk=>(E.cell<|by exact f).trans<|ul k hk;have ea:=Ce P;simp only[A3,A0,jL,eU,XN,XG,Nat.reduceAdd]at ea;obtain⟨e0,e1,e2,e3,e4,e5,e6,e7, -⟩:=ea;let⟨pk,a6⟩:=dP<|(ss.getD (j-1) (0,0)).1;have QT:Hd (∀x,bW w x->Wd x g2 (o2+(j-1)*8) pk):=λx H=>by
   have d0:j-1<ss.length:=wq
   have A:=V (j-1) ss[j-1]<|iN d0;have e:ss[j-1].1=pk:=by rw[a6.aa,gE ss (0,0) d0]
   rw[e]at A;have P:∀k,k<8->x.cell? ⟨g2,o2+(j-1)*8+k,none⟩=_:=λk hk=>(H.cell<|by exact f).trans<|A k hk;exact⟨P 0 wq,P 1 wq,P 2 wq,P 3 wq⟩
  have Z:Hd (rS ss j=((j==0||iX pk k8)&& !decide (J%M=0))):=by show rS ss j=_;unfold rS;rw[gE ss (0,0) Y,<-a8.aa,<-a4.aa,xm,a6.aa]
  have hj9:j<=1000000:=by have:=HT.aa.1;omega
  clear ul V f a6 a8 a4 Y P c8;have b0:Hd (∀x,cP 67 #[wv J] x λe y=>e=.returned (.bool<|decide (J%M=0))/\bW x y):=je J;let⟨z8,HZ8⟩:=dP<|decide (J%M=0);rw[<-HZ8.aa]at b0 Z;go_upto_region 13 with(first|(go_at_call 67;refine(b0.aa _).mono ?_;rintro e z⟨rfl,a1⟩)|fail);have p:Hd (bW w z/\Wd z wr.heap.size 0 k8):=by
   have b9:=ai (dO _ wr)<|.cells #[lu k8 0,lu k8 1,lu k8 2,lu k8 3,lu J 0,lu J 1,lu J 2,lu J 3] 54;have hwd:Wd (wr.alloc<|.cells #[lu k8 0,lu k8 1,lu k8 2,lu k8 3,lu J 0,lu J 1,lu J 2,lu J 3] 54) wr.heap.size 0 k8:=by have N:=λj u hu=>fJ wr #[lu k8 0,lu k8 1,lu k8 2,lu k8 3,lu J 0,lu J 1,lu J 2,lu J 3] 54 j u hu;exact⟨N 0 _ W,N 1 _ W,N 2 _ W,N 3 _ W⟩
   exact⟨(E.trans<|b9.mono E.size).trans<|a1.mono<|By E.size b9.size,hwd.bel a1⟩
  clear a1 e0 e1 e2 e3 e4 e5 e6 e7 c9 E b0;let⟨sb,d3⟩:=hJ wr.heap.size;rw[<-d3]at p⊢;clear d3;go_cut[92] (λt92 wx=>t92=.bool (!rS ss j)/\Hd (bW w wx));case first=>
   clear HA HT HC m HS b6;cases hz:z8 with
   |true=>subst hz;go_quiet (fail);go_wp2;go_meet;case rel=>exact⟨by rw[Z.aa];simp,A2 p.1 _⟩
   |false=>
    subst hz;by_cases h3:j=0
    .subst h3;go_quiet (fail);go_wp2;go_meet;case rel=>exact⟨by rw[Z.aa];simp,A2 p.1 _⟩
    have b8:0<j:=wq
    refine Gs [(0,(.slice (some ⟨g,o,none⟩) L cp)),(3,(iI (i:Int))),(4,(iI (j:Int))),(5,(pt sb)),(6,(.bool false))] (nV 72 [.bool false,.bool false,iI (j:Int),.bool true,.bool true,.slice (some ⟨g,o,none⟩) L cp,iI (i:Int),pq g<|o+i*10,pq g<|o+i*10+9,.slice (some ⟨g2,o2,none⟩) U c,iI (j:Int),iI ((j-1:Nat):Int),pq g2<|o2+(j-1)*8,pq g2<|o2+(j-1)*8,wv pk,pt sb,wv k8,.bool<|iX pk k8,.bool<|!iX pk k8,.bool<|!iX pk k8,.bool<|!iX pk k8]) [3,7,9,11,12,14,16,17] W Ti p ⟨(js λs x r K G=>Cl (r 74 _ W) b8 G),(js λs x r K G=>gK 10 (r 77 _ W) (r 78 _ W) O G),(jc W λx H=>(AT x H.1).2.2),(js λs x r K G=>sq (r 82 _ W) b8 hj9 G),(js λs x r K G=>gK 8 (r 81 _ W) (r 83 _ W) wq G),(jw W λx H=>QT x H.1),(jw W λx H=>H.2),(jl W λx _=>jz pk k8 x),AF⟩ λx H=>?_;simp only[n8,sx9];have HX:=cV H;go_wp2;go_meet;case rel=>exact⟨by rw[Z.aa,show(j==0)=false from Xb.2 h3];simp,HX.1⟩
  obtain⟨rfl,r⟩:=hcut;clear p Z;cases hq:rS ss j with
  |false=>
   have HF:Hd (rA l i=false):=by show rA l i=false;rw[HT.aa.2,ii d6 hq]
   clear HA HT HC hq;go_wp2;go_ret;refine⟨?_,r⟩;rw[m.aa,ii O HF.aa];rfl
  |true=>
   have c:Hd (∀k,k<j+1->rS ss k=true):=λk hk=>by
    by_cases e:k=j
    .rw[e];exact hq
    exact HC k wq
   clear HC hq;go_wp2;go_roundw;case rel=>exact⟨j+1,wq,N1,r,c⟩
   simp[nI];omega
section
variable {d2:Nat}
def JH(news:Tn):Kp:=λk B x=>∃q,B=.slice (some ⟨q,0,none⟩) 1 1/\(k=0->q<x.heap.size/\∀j u,news[j]?=some u->x.cell? ⟨q,j,none⟩=some u)
def JG(w:WD)(e sz:Nat)(v:VL)(n:Nat)(ys:Tn):Kp:=λk B x=>k=1->x.ownsRow 0 e sz B n ys/\Fresh w v B
def PhAp(w:WD)(v:VL)(Fin:X4):Nat->X4
 |0,x=>bW w x
 |1,x=>Kb v.ownBlock.toList w x
 |_,x=>Fin x
section
variable {id:Nat}{a:Act}{news:Tn}{D:Td}
def VX(E1 c:Es)(loads:Tl)(hes:es=E1++(some d1,.l<|JH news)::(some d2,.l<|JG w e sz v (n+1)<|xs++news)::c)(hx:((E1.all λp=>p.2.bF)&&(c.all λp=>p.2.bF)&&qU I 3 ia iv&&qU I 3 ia ib&&(E1.length+1==ia)&&(loads.all λi=>(es.getD i (none,.v undef)).2.bF))=true)(hb:O<=w.heap.size/\O<=b/\∀k,v.ownBlock=some k->O<=k/\k≠b)(ho:w.ownsRow 0 e sz v n xs)(hrw:∃T cs,rowL w b T cs/\cs[o]?=some v)(ti:CF t e sz by')(hl:news.length=sz)(h1:∀u∈news,u.oneCell'=true)(hn:n<=1000000000)(hby:by'<=1000)(hS:∀x,(sizeOf t).run prog x=.ok 1 x)(hA:∀w,(isAgg t).run prog w=.ok false w)(b6:∀z X,Kb v.ownBlock.toList w z->z.ownsRow 0 e sz X (n+1) (xs++news)->Fresh w v X->Fin (z.setCell ⟨b,o,none⟩ X))(bg:∀x Z,Fin x->bW x Z->Fin Z)(hfl:∀x,Fin x->Below O w x){tp ta tk dv b8 a4 a2 c:Nat}{A:Array<|Nat×Operand}{b1 r a3 f:String}{b9 a5 F m:U9}(o1:I[iv]?=some ⟨some dv,.load t<|.tmp tp,b8,b1,b9,none⟩/\es[iv]?=some (some dv,.v v)/\pg I D es ⟨some dv,.load t<|.tmp tp,b8,b1,b9,none⟩ tp=some (pq b o))(o2:I[ib]?=some ⟨some d1,.buildSlice t 1 A,a4,r,a5,none⟩/\es[ib]?=some (some d1,.l<|JH news)/\∀s x,(execOp (pG (pg I D es ⟨some d1,.buildSlice t 1 A,a4,r,a5,none⟩) s) ⟨some d1,.buildSlice t 1 A,a4,r,a5,none⟩).run prog x=.ok (.value<|sL x.heap.size 1 1) (x.alloc<|.cells news.toArray e))(o3:I[ia]?=some ⟨some d2,.call ⟨.builtin .append,#[.tmp ta,.tmp U],#[t,t]⟩,a2,a3,F,none⟩/\es[ia]?=some (some d2,.l<|JG w e sz v (n+1)<|xs++news)/\pg I D es ⟨some d2,.call ⟨.builtin .append,#[.tmp ta,.tmp U],#[t,t]⟩,a2,a3,F,none⟩ ta=some v/\zz I es ⟨some d2,.call ⟨.builtin .append,#[.tmp ta,.tmp U],#[t,t]⟩,a2,a3,F,none⟩ U=some (JH news))(o4:I[is']?=some ⟨none,.store t (.tmp tk)<|.tmp d2,c,f,m,none⟩/\es[is']?=some (none,.v undef)/\pg I D es ⟨none,.store t (.tmp tk)<|.tmp d2,c,f,m,none⟩ tk=some (pq b o)/\zz I es ⟨none,.store t (.tmp tk)<|.tmp d2,c,f,m,none⟩ d2=some (JG w e sz v (n+1)<|xs++news))(L:AllOb I es (λ_ _=>WL (λx=>Below O w x) I D es Q) 2 loads)(a0:∀(g:Vp) x,Fin x->Q .normal (dQ a<|se g es 0) x)(ha:Gr I a D es [ia,is'] (iv::ib::loads) [] []:=by exact⟨N0,R5,R5,N0⟩):(Code.region id I true).wp prog Q a w:=by
 simp only[Xo]at hx;let⟨⟨⟨⟨⟨x1,x2⟩,x3⟩,x4⟩,c⟩,x6⟩:=hx;have c:E1.length+1=ia:=by simpa using c
 let⟨T,cs,hr,a9⟩:=hrw;have a8:∀k∈v.ownBlock.toList,O<=k/\k≠b:=λk c=>hb.2.2 k (by simpa using c);have hpb:∀(k:Nat)(x:WD),PhAp w v Fin k x->Below O w x:=λk x h=>match k,h with
  |0,h=>Below.mono h hb.1
  |1,h=>Kb.bel h (λk c=>(a8 k c).1) hb.1
  |_+2,h=>hfl x h
 have hL:∀{i:Nat}{d:Yt}{r:Kp},es[i]?=some (d,En.l r)->r=JH news\/(i=ia/\r=JG w e sz v (n+1) (xs++news)):=λ{i d r} C=>by
  have hv:∀{E:Es}{j:Nat},(E.all λp=>p.2.bF)=true->E[j]?=some (d,En.l r)->False:=λh1 h2=>by have:=Xp.1 h1 _<|Xe h2;cases this
  rw[hes]at C;by_cases h9:i<E1.length
  .rw[Xv h9]at C;exact(hv x1 C).elim
  rw[Xx wq]at C;cases h8:i-E1.length with
  |zero=>rw[h8]at C;injection C with C;injection C with _ C;injection C with C;exact LZ C.symm
  |succ j=>
   rw[h8]at C;cases j with
   |zero=>injection C with C;injection C with _ C;injection C with C;exact A4 ⟨wq,C.symm⟩
   |succ j=>exact(hv x2 C).elim
 refine dy (PhAp w v Fin) (λp x Z=>p=0->True) D es [ia,is'] (iv::ib::loads) (ha:=ha) ((dO _ _).drew) (λk x Z h H=>?_) ?_ ?_ (λi d r C p X x Z hne hp G hrel hT=>?_) (λi d r C p X x Z G H hT=>?_) λg x G _=>a0 g x G
 .match k,h with
  |0,h=>exact Below.trans h<|H.mono<|Below.size h
  |1,h=>exact Kb.below h H
  |_+2,h=>exact bg x Z h H
 .refine fX _ _ _ o3.1 o3.2.1 (@λs x R J K G hv Y=>?_) (fX _ _ _ o4.1 o4.2.1 (@λs x R J K G hv Y=>?_) True.intro)
  .have N:bW w x:=G;let⟨q,r,e2⟩:=J U _ o3.2.2.2;let⟨_,e3⟩:=e2 W;let⟨ht,hz0,i,z,hi,hz,b0,hb2,hzs⟩:=ti;refine mq (P:=prog) 0 e i z sz by' ht hi hz b0 hb2 hzs hz0 v n xs (@hv ta _ o3.2.2.1) (dh ho N) ⟨q,0,none⟩ 1 1 news r (by rw[hl,Nat.one_mul]) (λj u hu=>by rw[show(⟨q,0,none⟩:Addr).add j=⟨q,j,none⟩ by simp[Addr.add,qag]];exact e3 j u hu) h1 (by unfold maxLen;omega) (By (Yx (DO _) hby) wq) (In _) λX y ho2 hgr hfr=>?_
   refine Y X y ((Kb.h (S:=v.ownBlock.toList) N).grown hgr λk c=>LZ (by rw[c];simp)) (λ_=>trivial) nn1 λ_=>⟨ho2,?_⟩
   rcases hfr with e|e
   .exact LZ e
   exact A4 λk c=>By N.size<|e k c
  have b7:Kb v.ownBlock.toList w x:=G;let⟨k1,k2⟩:=J d2 _ o4.2.2.2 W;have a7:rowL x b T cs:=b7.row hr λhm=>(a8 b hm).2 W;let⟨ad,cp,e9⟩:=dt k1;exact kY hS ⟨_,_,_,e9⟩ (@hv tk _ o4.2.2.1) W (a7.cell a9) (World.rowIs.frozen a7 o)<|Y _ _ (b6 x _ b7 k1 k2) (λh=>absurd h wq) (λ_=>W) W
 .refine fX _ _ _ o1.1 o1.2.1 (@λk s x c a6 R J K V G hv Y=>?_) (fX _ _ _ o2.1 o2.2.1 (@λk s x c a6 R J K V G hv Y=>?_) ?_)
  .obtain rfl:k=0:=Yn.1<|V 0 ia W x3;exact dm (hA:=hA) (@hv tp _ o1.2.2) ((hr.below G).cell a9)<|kx Y
  .obtain rfl:k=0:=Yn.1<|V 0 ia W x4;refine rR @hv (o2.2.2 s x)<|Y _ _ (ai (dO _ x) _) nn1 ⟨x.heap.size,W,λ_=>⟨K2,λj u hu=>(rowL.al x news e).cell hu⟩⟩
  refine AllOb.mono (λp i o d E C hB k s x c a6 R J K V G hvv Y=>hB.2 s x (hpb k x G) @hvv K λX Z k1 k2 c=>Y X Z k1 k2<|VK ?_ c)<|AllOb.all (Cq9:=λi=>(es.getD i (none,.v undef)).2.bF=true) (λi hi=>Xp.1 x6 i hi) L;have:=hB.1;rw[If,C]at this;exact this
 .rcases hL C with rfl|⟨rfl,rfl⟩
  .obtain⟨q,r,_⟩:=hT;exact⟨q,r,λh=>wq⟩
  intro h9;cases(wq:p=0)
  exact absurd W hne
 rcases hL C with rfl|⟨rfl,rfl⟩
 .obtain⟨q,r,e2⟩:=hT;exact⟨q,r,λh=>by let⟨c,r⟩:=e2 h;exact⟨Xg c H.size,λj u hu=>(H.cell<|by exact c).trans<|r j u hu⟩⟩
 exact λh9=>⟨dh (hT h9).1 H,(hT h9).2⟩
end
def VT(p:Pur):∀u∈qX p,u.oneCell'=true:=λu C=>PN [p] u K9
def IQ(p:Slt):∀u∈oj p,u.oneCell'=true:=λu C=>Mp [p] u K9
def uD(a:AcE):Pur:=⟨a.aj,a.ai,a.ae⟩
def ic(a:AcE):List Slt:=a.ar.map λq=>⟨a.aj,q.1,q.2,false⟩
structure DHI(hb:Nat)(pu:List Pur)(sl:List Slt)(pv lv:VL)(x:WD):Prop where
 row:rowL x hb 148 [pv,lv,dL]
 pu:x.ownsRow 0 150 9 pv pu.length (pu.flatMap qX)
 sl:x.ownsRow 0 152 13 lv sl.length (sl.flatMap oj)
def iK(hb:Nat)(pu:List Pur)(sl:List Slt)(pv lv:VL):Rs:=⟨λk=>k=hb\/pv.ownBlock=some k\/lv.ownBlock=some k,DHI hb pu sl pv lv,λ{x k} h hk=>by
 rcases hk with rfl|hk|hk
 .exact h.row.lt
 .exact(h.pu.lt _ hk).2
 .exact(h.sl.lt _ hk).2,λ{x y} h hs he=>by
 have ho:∀{e size n:Nat}{v:VL}{xs:Tn},(∀k,v.ownBlock=some k->k=hb\/pv.ownBlock=some k\/lv.ownBlock=some k)->x.ownsRow 0 e size v n xs->y.ownsRow 0 e size v n xs:=λhd ho=>⟨ho.1,ho.2.imp id λ⟨g,E,cur,h1,h2,h3,h4⟩=>⟨g,E,cur,h1,h2,(he g<|hd g (by rw[h1];rfl)).trans h3,h4⟩⟩
 exact⟨World.rowIs.of_block h.row<|he hb<|LZ rfl,ho (λg hg=>A4<|LZ hg) h.pu,ho (λg hg=>A4<|A4 hg) h.sl⟩⟩
def ti_pu:CF 143 150 9 80:=Nw N0 B9 W
def We:CF 144 152 13 104:=Nw N0 wS W
section
variable {z:WD}
def Sep.dpu(h:Sep O (iK hb pu sl pv lv::rs) x)(p:Pur)(V:Kb pv.ownBlock.toList x z)(P:z.ownsRow 0 150 9 v' (pu.length+1)<|pu.flatMap qX++qX p)(X:Fresh x pv v'):Sep O (iK hb (pu++[p]) sl v' lv::rs) (z.setCell ⟨hb,0,none⟩ v')/\Below O x (z.setCell ⟨hb,0,none⟩ v'):=by
 have D:=h.hd;have J:∀{k T},Ty x k T->T≠150->z.heap[k]?=x.heap[k]? :=λ{k T} L I=>V.block k L.lt λH=>I<|L.aF<|Ty.az D.pu K9;have C:rowL z hb _ _:=World.rowIs.of_block D.row<|J (Ty.aB D.row) K3;have G:=V.aD D.sl λk hb H=>absurd ((Ty.az D.sl hb).aF<|Ty.az D.pu K9) K3;have E:Kb (hb::pv.ownBlock.toList) x (z.setCell _ v'):=(V.mono λi Y=>IN _ Y).setCell (p:=⟨hb,0,none⟩) (LZ Xz) _;have Q:∀k∈hb::pv.ownBlock.toList,(iK hb pu sl pv lv).F k:=λk H=>by
  rcases IF.1 H with rfl|H
  .exact LZ W
  exact A4<|LZ K9
 have R:=fC G (dS C G) 0 v';have U:=fC P (dS C P) 0 v';refine⟨h.kb ⟨(rowL.set C v':),?_,R⟩ E Q λk V=>?_,E.bel (λk V=>h.ge<|Q k V) h.s⟩
 .grind
 rcases V with V|V|V
 .grind
 .rcases X with e|e
  .grind
  grind
 exact LZ<|A4<|A4 V
def Sep.dsl(h:Sep O (iK hb pu sl pv lv::rs) x)(p:Slt)(V:Kb lv.ownBlock.toList x z)(P:z.ownsRow 0 152 13 v' (sl.length+1)<|sl.flatMap oj++oj p)(X:Fresh x lv v'):Sep O (iK hb pu (sl++[p]) pv v'::rs) (z.setCell ⟨hb,1,none⟩ v')/\Below O x (z.setCell ⟨hb,1,none⟩ v'):=by
 have D:=h.hd;have J:∀{k T},Ty x k T->T≠152->z.heap[k]?=x.heap[k]? :=λ{k T} L I=>V.block k L.lt λH=>I<|L.aF<|Ty.az D.sl K9;have C:rowL z hb _ _:=World.rowIs.of_block D.row<|J (Ty.aB D.row) K3;have G:=V.aD D.pu λk hb H=>absurd ((Ty.az D.pu hb).aF<|Ty.az D.sl K9) K3;have E:Kb (hb::lv.ownBlock.toList) x (z.setCell _ v'):=(V.mono λi Y=>IN _ Y).setCell (p:=⟨hb,1,none⟩) (LZ Xz) _;have Q:∀k∈hb::lv.ownBlock.toList,(iK hb pu sl pv lv).F k:=λk H=>by
  rcases IF.1 H with rfl|H
  .exact LZ W
  exact A4<|A4 K9
 have R:=fC G (dS C G) 1 v';have U:=fC P (dS C P) 1 v';refine⟨h.kb ⟨(rowL.set C v':),R,?_⟩ E Q λk V=>?_,E.bel (λk V=>h.ge<|Q k V) h.s⟩
 .grind
 rcases V with V|V|V
 .grind
 .exact LZ (A4<|LZ V)
 rcases X with e|e
 .grind
 grind
def Sep.dap(h:Sep O (iK hb pu sl pv lv::rs) x):((∃T C,rowL x hb T C/\C[0]?=some pv/\C[1]?=some lv)/\O<=x.heap.size/\O<=hb)/\(∀k,pv.ownBlock=some k->O<=k/\k≠hb)/\(∀k,lv.ownBlock=some k->O<=k/\k≠hb):=⟨⟨⟨_,_,h.hd.row,W,W⟩,h.s,h.ge<|LZ W⟩,λk C=>⟨h.ge<|A4<|LZ C,λe=>absurd ((Ty.az h.hd.pu C).aF<|e▸Ty.aB h.hd.row) K3⟩,λk C=>⟨h.ge<|A4<|A4 C,λe=>absurd ((Ty.az h.hd.sl C).aF<|e▸Ty.aB h.hd.row) K3⟩⟩
end
theorem JP:∀(l:List AcE),(∀a∈l,a.ar.length<=20)->(l.flatMap ic).length<=20*l.length
 |[],_=>DO _
 |a::l,h=>by have D:=h a Xz;have C:=JP l λb hb=>h b<|IN _ hb;grind[ic]
def NwI(w:WD)(hb:Nat)(pu:List Pur)(sl:List Slt)(x:WD):=∃pv lv,Sep hb [iK hb pu sl pv lv] x/\Below hb w x
def NwI.bel{hb:Nat}{pu:List Pur}{sl:List Slt}{x y:WD}(h:NwI w hb pu sl x)(C:bW x y):NwI w hb pu sl y:=by let⟨pv,lv,D,E⟩:=h;exact⟨pv,lv,D.below C,E.trans<|C.mono D.s⟩
def FnI(w:WD)(hb:Nat)(wr:WD)(pu:List Pur)(sl:List Slt)(x:WD):=NwI w hb pu sl x/\Below hb wr x
def FnI.bel{hb:Nat}{pu:List Pur}{sl:List Slt}{x y:WD}(h:FnI w hb wr pu sl x)(C:bW x y):FnI w hb wr pu sl y:=by let⟨pv,lv,D,E⟩:=h.1;exact⟨h.1.bel C,h.2.trans<|C.mono D.s⟩
def GT(l:List AcE)(w:WD)(h:AcIn w v l)(hl:l.length<=8)(d1:∀a∈l,a.ar.length<=20):cP 40 #[v] w λe y=>e=.returned (pt w.heap.size)/\NwI w w.heap.size (l.map uD) (l.flatMap ic) y:=by
 obtain⟨ad,cp,rfl,h2⟩:=h;let⟨L,HL⟩:=dP l.length;have hL:L<=8:=by rw[HL.aa];exact hl
 rw[<-HL.aa];have d4:=cV d1;have HS:=cV h2;have f:Hd (NwI w w.heap.size ((l.take 0).map uD) ((l.take 0).flatMap ic)<|w.alloc<|.cells #[.slice none 0 0,.slice none 0 0,.slice none 0 0] 148):=by
  refine⟨dL,dL,Sep.new (rs:=[]) (x:=w) ⟨λ_ h=>(by cases h),List.Pairwise.nil,DO _⟩ ⟨rowL.al w [dL,dL,dL] _,Xy _ _ _ _,Xy _ _ _ _⟩ (ai (dO _ w) _) λk hk=>?_,ai (dO _ w) _⟩;rcases hk with rfl|hk|hk
  .exact DO _
  .cases hk
  cases hk
 let⟨hb,a3⟩:=dP w.heap.size;rw[<-a3.aa]at f⊢;clear h2 d1 hl;go_enter func40,ntmps40;go_wp2;rw[<-a3.aa];go_loopw[4] (λt4 wr=>∃i:Nat,i<=L/\t4=iI (i:Int)/\Hd (NwI w hb ((l.take i).map uD) ((l.take i).flatMap ic) wr)) (λt4 _=>L-nI t4);case atStart=>grind
 clear f;obtain⟨i,hi,rfl,f⟩:=hrel;by_cases P:i<L;case neg=>have hd2:=dG i L;rw[XA (by rw[<-HL.aa];omega)]at f;go_wp2;go_ret;exact⟨W,f⟩
 have hd2:=dN i L;obtain⟨g,o,rfl,a6,A⟩:=HS.aa.resolve_left (λe=>by rw[HL.aa,e]at P;exact absurd P K2);have b9:i<l.length:=by rwa[<-HL.aa]
 obtain⟨a,c8⟩:∃a,Hd (a=l[i]):=⟨l[i],cV W⟩
 let⟨sl,hc,a9⟩:=A i l[i]<|iN b9;have p:=d4.aa l[i]<|Ya b9;rw[<-c8.aa]at hc a9 p;have c0:Hd (l.take (i+1)=l.take i++[a]):=by show l.take (i+1)=_;rw[Yy,iN b9,c8.aa];rfl
 let⟨H,C,E,u⟩:=a;dsimp only at hc a9 p;obtain⟨ad2,b7,rfl,d0⟩:=a9;let⟨n2,a7⟩:=dP u.length;rw[<-a7.aa]at hc p;have b6:Hd (∀x,Below hb w x->Wd x g (o+i*10) H/\Wd x g (o+i*10+4) C/\cL x g (o+i*10+8) (.string E)/\cL x g (o+i*10+9) (.slice ad2 n2 b7)):=λx G=>by rw[a3.aa]at G;have Q:∀j,j<10->cL x g (o+i*10+j) _:=λj hj=>(G.cell<|by exact a6).trans<|hc j hj;exact⟨⟨Q 0 wq,Q 1 wq,Q 2 wq,Q 3 wq⟩,⟨Q 4 wq,Q 5 wq,Q 6 wq,Q 7 wq⟩,Q 8 wq,Q 9 wq⟩
 have HSS:=cV d0;have HGL:=cV a6;let⟨pv,lv,I,J⟩:=f.aa;let⟨q,a0⟩:=dP<|(l.take i).map uD;let⟨S,a4⟩:=dP<|(l.take i).flatMap ic;rw[<-a0.aa,<-a4.aa]at I;have n:Hd (∀x,Below hb wr x->_):=λx G=>b6 x<|J.trans G;obtain⟨Z,d,rfl⟩:=dt I.hd.pu;let⟨R,U⟩:=dP q.length;have hn1:R<=8:=by rw[U.aa,a0.aa,XH,XB];omega
 have b:Hd ((∃T r,rowL wr hb T r/\r[0]?=some (.slice Z R d))/\wr.ownsRow 0 150 9 (.slice Z R d) R (q.flatMap qX)/\(hb<=wr.heap.size/\hb<=hb/\∀k,(Value.slice Z R d).ownBlock=some k->hb<=k/\k≠hb)/\True):=by have h9:=I.hd.pu;have h8:=I.dap;rw[<-U.aa]at h9 h8;let⟨⟨⟨T,r,q1,q2,_⟩,q3,q4⟩,q5,_⟩:=h8;exact⟨⟨T,r,q1,q2⟩,h9,⟨q3,q4,q5⟩,AF⟩
 have t:Hd ((∀z v',Kb (Value.slice Z R d).ownBlock.toList wr z->z.ownsRow 0 150 9 v' (R+1) (q.flatMap qX++qX ⟨H,C,E⟩)->Fresh wr (.slice Z R d) v'->FnI w hb wr (q++[⟨H,C,E⟩]) S (z.setCell ⟨hb,0,none⟩ v'))/\(∀x x',FnI w hb wr (q++[⟨H,C,E⟩]) S x->bW x x'->FnI w hb wr (q++[⟨H,C,E⟩]) S x')/\∀x,FnI w hb wr (q++[⟨H,C,E⟩]) S x->Below hb wr x):=by refine⟨λz v' h1 h2 h3=>?_,λx x' h b0=>h.bel b0,λx h=>h.2⟩;rw[U.aa]at h1 h2 h3;let⟨k1,k2⟩:=I.dpu ⟨H,C,E⟩ h1 h2 h3;exact⟨⟨_,_,k1,J.trans k2⟩,k2⟩
 clear hc A f J I a6 d0;go_upto_region 5 with fail
 go_cut[] (λwx=>Hd<|NwI w hb (q++[⟨H,C,E⟩]) S wx);case first=>refine VX (D:=[(0,(.slice (some ⟨g,o,none⟩) L cp)),(3,(pt hb)),(4,(iI (i:Int)))]) (iv:=5) (ib:=22) (ia:=23) (is':=27) (nV 14 [pt hb,pt hb,pt hb,pt hb,pt hb,.slice Z R d,.slice (some ⟨g,o,none⟩) L cp,iI (i:Int),_,_,wv H,.slice (some ⟨g,o,none⟩) L cp,iI (i:Int),_,pq g<|o+i*10+4,wv C,.slice (some ⟨g,o,none⟩) L cp,iI (i:Int),_,_,.string E,.agg (qX ⟨H,C,E⟩).toArray]) (nV 38 [pt hb,pt hb,pt hb]++[(none,.v undef)]) [8,10,13,15,18,20] W N0 b.2.2.1 b.2.1 b.1 ti_pu W (VT ⟨H,C,E⟩) wq K3 (λ_=>N0) (λ_=>N0) t.1 t.2.1 t.2.2 ⟨W,W,W⟩ ⟨W,W,λ_ _=>N0⟩ ⟨W,W,W,W⟩ ⟨W,W,W,W⟩ ⟨(js λs x c K V=>gK 10 (c 20 _ W) (c 21 _ W) P V),(jw W λx G=>(n x G).1),(js λs x c K V=>gK 10 (c 25 _ W) (c 26 _ W) P V),(jw W λx G=>(n x G).2.1),(js λs x c K V=>gK 10 (c 30 _ W) (c 31 _ W) P V),(jc W λx G=>(n x G).2.2.1),AF⟩ λgg x G=>?_;simp only[n8,sx9];have HX:=cV G.1;go_wp2;go_meet;case rel=>exact HX
 clear b t n;have d5:Hd (∀x,NwI w hb (q++[⟨H,C,E⟩]) _ x->NwI w hb ((l.take<|i+1).map uD) ((l.take<|i+1).flatMap ic) x):=λx h9=>by rw[c0.aa,XP,Zi,<-a0.aa,<-a4.aa];rw[List.flatMap_singleton];exact h9
 have d3:S.length<=160:=by
  rw[a4.aa];have h8:=JP (l.take i) λa ha=>d4 a<|YY ha;have:(l.take i).length<=8:=by rw[XB];omega
  omega
 have hq0:=cV d3;clear d3 c0 a0 a4;go_wp2;go_loopw[5] (λt5 wr=>∃j:Nat,j<=n2/\t5=iI (j:Int)/\Hd (NwI w hb (q++[⟨H,C,E⟩]) (S++ic ⟨H,C,E,u.take j⟩) wr)) (λt5 _=>n2-nI t5);case atStart=>exact⟨0,In _,W,by rw[show ic ⟨H,C,E,u.take 0⟩=[] from W,YQ];exact hcut.aa⟩
 clear hcut;obtain⟨j,hj,rfl,f⟩:=hrel;let⟨pv,lv,I,J⟩:=f.aa;obtain⟨-, -, -,c9⟩:=b6.aa wr J;by_cases b8:j<n2;case neg=>have hd3:=dG j n2;rw[XA (by rw[<-a7.aa];omega)]at f;clear I J;go_wp2;exact⟨⟨i+1,wq,N1,d5 _ f⟩,by simp[nI];omega⟩
 have hd3:=dN j n2;have m:j<u.length:=by rw[<-a7.aa];exact b8
 obtain⟨g2,N,rfl,a5,Y⟩:=HSS.aa.resolve_left (λe=>by rw[e]at m;exact absurd m K2);obtain⟨k8,b1⟩:∃k8:Nat,Hd (k8=u[j].1):=⟨u[j].1,cV W⟩
 obtain⟨X,a8⟩:∃X:Nat,Hd (X=u[j].2):=⟨u[j].2,cV W⟩
 have ul:=Y j u[j]<|iN m;rw[<-b1.aa,<-a8.aa]at ul;have ST:Hd (∀x,Below hb wr x->Wd x g2 (N+j*8) k8/\Wd x g2 (N+j*8+4) X):=λx G=>by have G:=J.trans G;rw[a3.aa]at G;have Q:∀k,k<8->cL x g2 (N+j*8+k) ((eU k8++eU X)[k]!):=λk hk=>(G.cell<|by exact a5).trans<|ul k hk;exact⟨⟨Q 0 wq,Q 1 wq,Q 2 wq,Q 3 wq⟩,Q 4 wq,Q 5 wq,Q 6 wq,Q 7 wq⟩
 have n:Hd (∀x,Below hb wr x->_):=λx G=>b6 x<|J.trans G;let⟨F,a2⟩:=dP<|S++ic ⟨H,C,E,u.take j⟩;have HNX:Hd (F++[⟨H,k8,X,false⟩]=S++ic ⟨H,C,E,u.take<|j+1⟩):=by show F++_=_;rw[a2.aa,XL];unfold ic;dsimp only;rw[Yy,iN m,XP,b1.aa,a8.aa];rfl
 rw[<-a2.aa]at I;obtain⟨Z,d,rfl⟩:=dt I.hd.sl;let⟨R,U⟩:=dP F.length;have hn1:R<=200:=by
  rw[U.aa,a2.aa,Xm];have h7:=hq0.aa;have h8:(ic ⟨H,C,E,u.take j⟩).length<=20:=by unfold ic;rw[XH,XB];omega
  omega
 have b:Hd ((∃T r,rowL wr hb T r/\r[1]?=some (.slice Z R d))/\wr.ownsRow 0 152 13 (.slice Z R d) R (F.flatMap oj)/\(hb<=wr.heap.size/\hb<=hb/\∀k,(Value.slice Z R d).ownBlock=some k->hb<=k/\k≠hb)/\True):=by have h9:=I.hd.sl;have h8:=I.dap;rw[<-U.aa]at h9 h8;let⟨⟨⟨T,r,q1,_,q2⟩,q3,q4⟩,_,q5⟩:=h8;exact⟨⟨T,r,q1,q2⟩,h9,⟨q3,q4,q5⟩,AF⟩
 have t:Hd ((∀z v',Kb (Value.slice Z R d).ownBlock.toList wr z->z.ownsRow 0 152 13 v' (R+1) (F.flatMap oj++oj ⟨H,k8,X,false⟩)->Fresh wr (.slice Z R d) v'->FnI w hb wr (q++[⟨H,C,E⟩]) (F++[⟨H,k8,X,false⟩]) (z.setCell ⟨hb,1,none⟩ v'))/\(∀x x',FnI w hb wr (q++[⟨H,C,E⟩]) (F++[⟨H,k8,X,false⟩]) x->bW x x'->FnI w hb wr (q++[⟨H,C,E⟩]) (F++[⟨H,k8,X,false⟩]) x')/\∀x,FnI w hb wr (q++[⟨H,C,E⟩]) (F++[⟨H,k8,X,false⟩]) x->Below hb wr x):=by refine⟨λz v' h1 h2 h3=>?_,λx x' h b0=>h.bel b0,λx h=>h.2⟩;rw[U.aa]at h1 h2 h3;let⟨k1,k2⟩:=I.dsl ⟨H,k8,X,false⟩ h1 h2 h3;exact⟨⟨_,_,k1,J.trans k2⟩,k2⟩
 clear ul Y a5 b1 a8 m I J f a2;go_upto_region 9 with fail
 refine VX (D:=[(0,(.slice (some ⟨g,o,none⟩) L cp)),(3,(pt hb)),(4,(iI (i:Int))),(5,(iI (j:Int)))]) (iv:=5) (ib:=30) (ia:=31) (is':=35) (nV 51 [pt hb,pt hb,pt hb,pt hb,pq hb 1,.slice Z R d,.slice (some ⟨g,o,none⟩) L cp,iI (i:Int),pq g<|o+i*10,pq g<|o+i*10,wv H,.slice (some ⟨g,o,none⟩) L cp,iI (i:Int),pq g<|o+i*10,pq g<|o+i*10+9,.slice (some ⟨g2,N,none⟩) n2 b7,iI (j:Int),pq g2<|N+j*8,pq g2<|N+j*8,wv k8,.slice (some ⟨g,o,none⟩) L cp,iI (i:Int),pq g<|o+i*10,pq g<|o+i*10+9,.slice (some ⟨g2,N,none⟩) n2 b7,iI (j:Int),pq g2<|N+j*8,pq g2<|N+j*8+4,wv X,.agg (oj ⟨H,k8,X,false⟩).toArray]) (nV 83 [pt hb,pt hb,pq hb 1]++[(none,.v undef)]) [8,10,13,15,17,19,22,24,26,28] W N0 b.2.2.1 b.2.1 b.1 We W (IQ ⟨H,k8,X,false⟩) wq K3 (λ_=>N0) (λ_=>N0) t.1 t.2.1 t.2.2 ⟨W,W,W⟩ ⟨W,W,λ_ _=>N0⟩ ⟨W,W,W,W⟩ ⟨W,W,W,W⟩ ⟨(js λs x c K V=>gK 10 (c 57 _ W) (c 58 _ W) P V),(jw W λx G=>(n x G).1),(js λs x c K V=>gK 10 (c 62 _ W) (c 63 _ W) P V),(jc W λx G=>(n x G).2.2.2),(js λs x c K V=>gK 8 (c 66 _ W) (c 67 _ W) b8 V),(jw W λx G=>(ST x G).1),(js λs x c K V=>gK 10 (c 71 _ W) (c 72 _ W) P V),(jc W λx G=>(n x G).2.2.2),(js λs x c K V=>gK 8 (c 75 _ W) (c 76 _ W) b8 V),(jw W λx G=>(ST x G).2),AF⟩ λgg x G=>?_;simp only[n8,sx9];have HX:=cV G.1;clear G b t n;rw[HNX.aa]at HX;go_wp2;exact⟨⟨j+1,wq,N1,HX⟩,by simp[nI];omega⟩
def Jg(how:Nat)(t:(Nat×Nat)×RS):RS:=if t.2.ao=0 then{t.2 with aa:=dI<|dM t.2.mem t.1.1 t.1.2,ao:=how}else t.2
def yi(how:Nat)(R:RS):RS:=Jg how<|dJ (dA R).1 (dA (dA R).2).1 (dA (dA R).2).2
def DQ.cut(h:DQ O H Y R l x)(L:a+b<=R.mem.length):∃G N E,cL x H 22 (.slice G N E)/\a+b<=N/\N<=E/\E<=9223372036854775807/\((G=none/\N=0/\a=0/\b=0/\E=0/\(convert 26 9<|.slice none 0 0).run prog x=.ok (.string<|dI<|dM R.mem a b) x)\/∃g,G=some ⟨g,0,none⟩/\((E=a/\b=0/\(convert 26 9<|sL g 0 0).run prog x=.ok (.string<|dI<|dM R.mem a b) x)\/(¬E=a/\(convert 26 9<|.slice (some ⟨g,a,none⟩) b<|E-a).run prog x=.ok (.string<|dI<|dM R.mem a b) x))):=by
 have D:b=0->∀(G:Gj)(c:Nat),(convert 26 9<|.slice G 0 c).run prog x=.ok (.string<|dI<|dM R.mem a b) x:=λP G c=>by rw[(by unfold dM;rw[P,Y3]:dI (dM R.mem a b)=dI [])];exact Rds.bJ (w:=x) (l:=[]) ⟨G,c,W,In _,λh=>absurd W h⟩
 let⟨X,C,V,h,_⟩:=id h;have I:=h.me;rcases I.2 with⟨rfl,P⟩|⟨g,E,P,rfl,_,_,P,Q,_⟩
 .exact⟨none,0,0,h.row.cell (i:=22) W,wq,DO _,wq,LZ ⟨W,W,wq,wq,W,D wq _ _⟩⟩
 refine⟨some ⟨g,0,none⟩,_,E,h.row.cell (i:=22) W,L,P,by unfold maxLen at Q;omega,A4 ⟨g,W,?_⟩⟩;by_cases J:E=a
 .exact LZ ⟨J,wq,D wq _ _⟩
 have P:PartOf (sL g R.mem.length E) (.slice (some ⟨g,a,none⟩) b<|E-a) a b:=⟨_,_,W,wq,λ_=>⟨g,_,E,W,W,L⟩⟩
 exact A4 ⟨J,(P.bD I L).bJ⟩
def Qo(G:Nat)(u:G<=3)(h:DQ O H Y R l x):cP 132 #[pt H,iI (G:Int)] x (Dp O H Y (yi G R) (.tuple #[]) l x):=by
 refine jG (du (dA R) λa R=>du (dA R) λn R=>du (dJ a n R) λq R=>if R.ao=0 then{R with aa:=dI<|dM R.mem q.1 q.2,ao:=G}else R) W h λw C D=>?_;clear h;go_enter func132,ntmps132;go_wp2_with fail
 refine fE C D λu r r C D=>?_;go_wp2_with fail
 refine fE C D λr e e C D=>?_;let⟨V,A,Z,y,j⟩:=D.aa.cs 0 _ _ W;let⟨vm,ze,X,U,m⟩:=D.aa.cs 1 _ _ W;go_wp2_with fail
 refine qm u r C D λu r J e C D d=>?_;clear V A Z y j vm ze X U m;have i:=D.aa.c 19 λ_ _=>W;by_cases P:J.ao=0
 .replace C:=cV<|C.trans<|At P;have s:((J.ao:Int)==0)=true:=by rw[P];rfl
  let⟨I,L⟩:=dP<|dI<|dM J.mem u r;obtain⟨e,N,E,e,T,F,K,Q⟩:=D.aa.q.cut (a:=u) (b:=r) (d.bN P).1;have u:=(d.bN P).2;have S:=D.aa.q.ac;have r:=D.aa.q.hb.2;have f:=D.aa.q.set (o:=23) (v:=.string I) (R':={J with aa:=I}) (λ_ _=>W) W W W S;obtain⟨u,u,_⟩:=f.cell (o:=19)<|λ_ _=>W;let⟨t,k,_⟩:=D.aa.q.cell (o:=23)<|λ_ _=>W;replace C:Hd (w={J with aa:=I,ao:=G}):=C.aa.trans (by rw[L.aa]);have z:=f.set (o:=19) (v:=iI (G:Int)) (R':={J with aa:=I,ao:=G}) (λ_ _=>W) W W W S;rw[<-C.aa]at z;replace D:=cV<|aIn z<|(D.b.setCell (p:=⟨H,23,none⟩) r<|.string I).setCell (p:=⟨H,19,none⟩) r<|iI (G:Int);rw[<-L.aa]at Q;clear C f z d;rcases Q with⟨rfl,rfl,rfl,rfl,rfl,Q⟩|⟨g,rfl,⟨rfl,rfl,Q⟩|⟨u,Q⟩⟩;all_goals
   go_wp2;refine bI W W ⟨W,D.1.tail.tail,D.2⟩
 have s:((J.ao:Int)==0)=false:=Xb.2 wq;replace D:=D.aa.aZ<|cV<|C.trans<|iF P;go_wp2;refine bI W W ⟨W,D.1.tail.tail,D.2⟩
theorem uC(a n:Nat)(R:RS):(dJ a n R).1.1<=70000/\(dJ a n R).1.2<=70000:=⟨(oV a n R).p7,(oV a n R).n7⟩
def Bt(R:RS):pV (dA R).2=pV R:=(ee R).hd
def M8(a n:Nat)(R:RS):pV (dJ a n R).2=pV R:=(gy a n R).hd
def Lu(a n:Nat)(R:RS)(h:(dJ a n R).2.ao=0):(dJ a n R).1.1+(dJ a n R).1.2<=(dJ a n R).2.mem.length/\(dJ a n R).1.1+(dJ a n R).1.2<=65536:=(oV a n R).bN h
def vb(n:Nat)(R:RS):pV (dU n R)=pV R:=(kI n R).hd
def ul{S:RS}(h:pV R=pV S):R.ae=S.ae:=by have:=Xl RS.ae h;exact this
def OZ{S:RS}(h:pV R=pV S):R.data=S.data:=by have:=Xl RS.data h;exact this
def hdb{S:RS}(h:pV R=pV S):R.aI=S.aI:=by have:=Xl RS.aI h;exact this
def hdw{S:RS}(h:pV R=pV S):R.w=S.w:=by have:=Xl RS.w h;exact this
def BC(p k p2:Nat)(s:BA)(strict:Bool)(R:RS):RS:=if strict=true/\0<k/\s.size<p2+k then fA R else gT p (dI<|dH s p2 k) R
def vZ(s:BA)(aD strict:Bool)(fr:Nat)(q:Nat×Nat)(R:RS):RS:=if R.ao=0 then BC q.1 q.2 (ec fr 70000) (if aD=true then dI R.mem else s) strict R else R
def lA(s:BA)(aD strict:Bool)(R:RS):RS:=du (dA<|dU 3 R) λZ R=>du (dA R) λfr R=>du (dA R) λn R=>du (dJ Z n<|if aD=true then(dJ fr n<|dU ((ec n 70000+31)/32*3) R).2 else dU ((ec n 70000+31)/32*3) R)<|vZ s aD strict fr
end
def CC(ae:BA)(n:Nat):Nat->Nat->Bool
 |0,_=>false
 |f+1,i=>if i<ae.size then(if i=n/\mS ae i=91 then true else CC ae n f<|i+1+(if 95<mS ae i/\mS ae i<=127 then mS ae i-95 else 0))else false
def ek(a:Nat)(R:RS):RS:=if R.ao=0/\CC R.ae (ec a 70000) R.ae.size 0=true then{R with pc:=ec a 70000}else fA R
def M6(a:Nat)(F:R.ae.size<=100000)(h:DQ O H Y R l x):cP 187 #[pt H,wv a] x (Dp O H Y (ek a R) (.tuple #[]) l x):=by
 let⟨u,C⟩:=dP<|ek a R;rw[<-C.aa];have N:=h.ac;have E:=cV<|h.aW (lu a 0) (lu a 1) (lu a 2)<|lu a 3;have Q:Hd (Below O x<|x.alloc<|wc a):=(ai (dO _ x) _).mono h.hb.1;clear h;go_enter func187,ntmps187;go_wp2_with fail
 refine(ij a 70000 K3 _).mono ?_;rintro e y⟨rfl,U⟩;replace Q:=cV<|Q.trans<|U.mono E.hb.1;replace E:=cV (E.below U).tail;clear U;have T:=vH a;unfold ek at C;let⟨n,c⟩:=dP<|ec a 70000;rw[<-c.aa]at T C⊢;clear c;let⟨L,Z⟩:=dP<|CC R.ae n R.ae.size 0;rw[<-Z.aa]at C;let⟨c1,_,_⟩:=E.aa.cell (o:=1)<|λ_ _=>W;let⟨c,_,_⟩:=E.aa.cell (o:=19)<|λ_ _=>W;obtain⟨c,c,c⟩:=E.aa.cell (o:=18)<|λ_ _=>W;have q:=cV<|E.set (o:=18) (v:=iI (n:Int)) (R':={R with pc:=n}) (λ_ _=>W) W W W N;have m:=cV<|Q.setCell (p:=⟨H,18,none⟩) c<|iI (n:Int);let⟨ae,c⟩:=dP R.ae;rw[<-c.aa]at c1 F Z;obtain⟨ov,c⟩:∃ov,((R.ao:Int)==0)=ov:=⟨_,W⟩
 have k:ov=decide (R.ao=0):=by
  rw[<-c];by_cases e:R.ao=0
  .rw[OsQ e,e];rfl
  rw[W8 e];exact Xb.2 wq
 have V:=cV k;clear k;go_wp2;go_loopw[5] (λt5 wr=>∃i f:Nat,i<=100100/\t5=iI (i:Int)/\Hd (ae.size<=i+f/\(ov=true->L=CC ae n f i))/\wr=y) (λt5 _=>200000-nI t5);case atStart=>exact⟨0,ae.size,wq,W,⟨wq,λ_=>Z⟩,W⟩
 obtain⟨i,f,c,rfl,P,rfl⟩:=hrel;clear Z;by_cases J:i<ae.size
 .have r:=dN i ae.size;have hb:=rW ae i J;have c:=rU ae i;cases f with
  |zero=>exact absurd P.1 wq
  |succ f=>
  have D:Hd (ae.size<=i+1+f/\(ov=true->L=if i=n/\mS ae i=91 then true else CC ae n f<|i+1+(if 95<mS ae i/\mS ae i<=127 then mS ae i-95 else 0))):=⟨by have:=P.aa.1;omega,λe=>(P.2 e).trans<|At J⟩
  clear P;generalize mS ae i=b at*;by_cases G:i=n/\b=91
  .obtain⟨rfl,rfl⟩:=G;have c:((i:Int)==(i:Int))=true:=beq_self_eq_true _;have c:(((91:Nat):Int)==91)=true:=rfl;cases ov
   .go_wp2;go_roundw;case rel=>exact⟨i+1,f,wq,N1,⟨D.1,λe=>by cases e⟩,AF⟩
    simp[nI];omega
   have j:u={R with pc:=i}:=C.aa.trans<|At ⟨Xd V.symm,(D.2 W).trans<|At ⟨W,W⟩⟩;subst j;clear C D;go_wp2;refine bI W W ⟨W,q,m⟩
  replace D:Hd (ae.size<=i+1+f/\(ov=true->L=CC ae n f (i+1+(if 95<b/\b<=127 then b-95 else 0)))):=⟨D.1,λe=>(D.2 e).trans<|iF G⟩
  obtain⟨d,S⟩:∃t,((i:Int)==(n:Int))=t:=⟨_,W⟩
  obtain⟨X,K⟩:∃t,((b:Int)==91)=t:=⟨_,W⟩
  have I:(d&&X)=false:=by
   rw[<-S,<-K,Bool.and_eq_false_iff];by_cases e:i=n
   .exact A4 (Xb.2<|λc=>G ⟨e,wq⟩)
   exact LZ<|Xb.2 wq
  clear G;by_cases q:95<b/\b<=127
  .rw[At q]at D;obtain⟨c,c⟩:=q;have c:=dT<|(95:Int)<(b:Int);have d2:=dT<|(b:Int)<128;cases d<;>cases X<;>first|cases I|skip
   all_goals
    go_wp2;go_roundw;case rel=>exact⟨i+1+(b-95),f,wq,N1,⟨by have:=D.aa.1;omega,D.2⟩,AF⟩
    simp[nI];omega
  rw[iF q]at D;by_cases q:95<b
  .have c:=dT<|(95:Int)<(b:Int);have d2:=dF<|(b:Int)<128;cases d<;>cases X<;>first|cases I|skip
   all_goals
    go_wp2;go_roundw;case rel=>exact⟨i+1,f,wq,N1,D,AF⟩
    simp[nI];omega
  have c:=dF<|(95:Int)<(b:Int);cases d<;>cases X<;>first|cases I|skip
  all_goals
   go_wp2;go_roundw;case rel=>exact⟨i+1,f,wq,N1,D,AF⟩
   simp[nI];omega
 have r:=dG i ae.size;have j:u=fA R:=C.aa.trans<|iF (λs=>by
  have e:ov=true:=V.aa.trans<|OsQ s.1;have g:=P.aa.2 e;rw[s.2]at g;cases f with
  |zero=>cases g
  |succ f=>rw[show CC ae n (f+1) i=false from iF J]at g;cases g)
 clear C P;go_wp2_with fail
 refine(jh E N).mono ?_;rintro e z⟨rfl,A,U⟩;rw[<-j]at A;replace E:=cV A;replace Q:=cV<|Q.trans U;clear A U;go_wp2;refine bI W W ⟨W,E,Q⟩
def I1(J p:Nat)(R:RS):RS:=match J with
 |86=>du (dA<|dU 8 R) ek
 |87=>du (dA<|dU 10 R) λa R=>du (dA R) λb R=>if b%M=0 then R else ek a R
 |88=>eN p<|dU 2 R
 |89=>eN (dU 2 R).mem.length<|dU 2 R
 |90=>eN (dU 2 R).ac<|dU 2 R
 |_=>dU 1 R
def ways_R(J p:Nat)(d:86<=J/\J<=91)(u:p<=1000000)(L:R.ae.size<=100000)(h:DQ O H Y R l x):cP 127 #[pt H,iI (J:Int),iI (p:Int)] x (Dp O H Y (I1 J p R) (.tuple #[]) l x):=by
 have g:J=86\/J=87\/J=88\/J=89\/J=90\/J=91:=wq
 clear d;rcases g with rfl|rfl|rfl|rfl|rfl|rfl
 .refine jG (fK (dU 8 R) λR=>du (dA R) ek) W h λu D C=>?_;clear h;go_enter func127,ntmps127;go_wp2_with fail
  refine gR 8 D C λE G D C=>?_;go_wp2_with fail
  refine fE D C λa Z Q D C=>?_;let⟨S,c1,c2,c3,_⟩:=C.aa.cs 0 _ a W;go_wp2_with fail
  refine gf (M6 a (by rw[C.aa.s.ae];exact L) C.q) D C λP C=>?_;go_wp2;refine bI W W ⟨W,C.1.tail,C.2⟩
 .refine jG (fK (dU 10 R) λR=>du (dA R) λa R=>du (dA R) λb R=>if b%M=0 then R else ek a R) W h λu D C=>?_;clear h;go_enter func127,ntmps127;go_wp2_with fail
  refine gR 10 D C λE G D C=>?_;go_wp2_with fail
  refine fE D C λa Z Q D C=>?_;go_wp2_with fail
  refine fE D C λb j P D C=>?_;let⟨S,c1,c2,c3,_⟩:=C.aa.cs 0 _ b W;go_wp2_with fail
  refine vK (je b _) C λy C=>?_;clear S c1 c2 c3;by_cases A:b%M=0
  .rw[OsQ A];replace C:=C.aa.aZ<|cV<|D.trans<|At A;go_wp2;refine bI W W ⟨W,C.1.tail.tail,C.2⟩
  rw[W8 A];let⟨S,c1,c2,c3,_⟩:=C.aa.cs 1 _ a W;go_wp2_with fail
  refine gf (M6 a (by rw[C.aa.s.ae];exact L) C.q) (cV<|D.trans<|iF A) C λm C=>?_;go_wp2;refine bI W W ⟨W,C.1.tail.tail,C.2⟩
 .refine jG (fK (dU 2 R) λR=>eN p R) W h λu D C=>?_;clear h;go_enter func127,ntmps127;go_wp2_with fail
  refine gR 2 D C λE G D C=>?_;go_wp2_with fail
  refine lT (dx p wq _) C λQ C=>?_;go_wp2_with fail
  refine gf (iq p C.q) D C λP C=>?_;go_wp2;refine bI W W ⟨W,C.1,C.2⟩
 .refine jG (fK (dU 2 R) λR=>eN R.mem.length R) W h λu D C=>?_;clear h;go_enter func127,ntmps127;go_wp2_with fail
  refine gR 2 D C λE G D C=>?_;let⟨o,z,U,f,_⟩:=C.aa.q.ex;let⟨N,I⟩:=dP E.mem.length;rw[<-I.aa]at U f;go_wp2_with fail
  refine lT (dx N wq _) C λQ C=>?_;go_wp2_with fail
  refine gf (iq N C.q) (cV<|D.trans<|by rw[I.aa]) C λP C=>?_;go_wp2;refine bI W W ⟨W,C.1,C.2⟩
 .refine jG (fK (dU 2 R) λR=>eN R.ac R) W h λu D C=>?_;clear h;go_enter func127,ntmps127;go_wp2_with fail
  refine gR 2 D C λE G D C=>?_;have V:=C.aa.c 16 λ_ _=>W;have X:=C.aa.q.ac;let⟨N,I⟩:=dP E.ac;rw[<-I.aa]at V X;go_wp2_with fail
  refine lT (dx N wq _) C λQ C=>?_;go_wp2_with fail
  refine gf (iq N C.q) (cV<|D.trans<|by rw[I.aa]) C λP C=>?_;go_wp2;refine bI W W ⟨W,C.1,C.2⟩
 refine jG (dU 1 R) W h λu D C=>?_;clear h;go_enter func127,ntmps127;go_wp2_with fail
 refine gf (vx 1 wq C.q) D C λG C=>?_;go_wp2;refine bI W W ⟨W,C.1,C.2⟩
section
variable {x0:WD}
def Mu(E:Bool)(a k:Nat)(h:DQ O H Y R l x)(hn:R.w.sl.length<=1000000000):cP 185 #[pt Y,.bool E,wv a,wv k] x (Dp O H Y R (wv<|fu E a k R.w) l x):=h.calls λD C=>slot_W E a k C hn
def WH(E:Bool)(a k v:Nat)(h:DQ O H Y R l x)(hn:R.w.sl.length<=1000000000):cP 186 #[pt Y,.bool E,wv a,wv k,wv v] x (Dp O H Y {R with w:=mT E a k v R.w} (.tuple #[]) l x):=h.calls λD C=>put_W E a k v C hn
def PhQ(O H Y:Nat)(S:Nat->RS)(L:hZ)(x0:WD)(k:Nat)(x:WD):=DQ O H Y (S k) L x/\Below O x0 x
def Ik{S:Nat->RS}(k:Nat)(x x':WD)(h:PhQ O H Y S L x0 k x)(hb:bW x x'):PhQ O H Y S L x0 k x':=⟨h.1.below hb,h.2.trans<|hb.mono h.1.hb.1⟩
def BL(br:Bool)(c:Nat)(R:RS):RS:=du (dA<|dU c R) λk R=>if R.ao=0 then eN (fu br R.ak k R.w) R else R
def v7(br:Bool)(k v:Nat)(R:RS):RS:=if R.ao=0 then{R with w:=mT br R.ak k v R.w}else R
def wi(br:Bool)(c:Nat)(R:RS):RS:=du (dA<|dU c R) λk R=>du (dA R) λv R=>v7 br k v<|if R.aR=true then fA R else R
def rK(J:Nat)(R:RS):RS:=match J with
 |84=>BL false 100 R
 |92=>BL true 100 R
 |85=>wi false 200 R
 |_=>wi true 100 R
structure Is{α:Type}(x:α):Prop
abbrev gI{α:Type}{x:α}(_:Is x):α:=x
def ja(p:Bool)(hn:R.w.sl.length<=1000000000)(h:DQ O H Y R l x):cP 126 #[pt H,iI<|bif p then 92 else 84] x (Dp O H Y (rK (bif p then 92 else 84) R) (.tuple #[]) l x):=by
 have b:Is p:=.mk;cases p;all_goals
  refine jG (fK (dU 100 R) λR=>du (dA R) λk R=>if R.ao=0 then eN (fu _ R.ak k R.w) R else R) W h λg C D=>?_;clear h;go_enter func126,ntmps126;go_wp2_with fail
  refine gR 100 C D λf Z C D=>?_;go_wp2_with fail
  refine fE C D λa E X C D=>?_;have P:E.w.sl.length<=1000000000:=by rw[D.aa.s.w];exact hn
  have V:=D.aa.c 19 λ_ _=>W;by_cases I:E.ao=0
  .replace C:=cV<|C.trans<|At I;have U:((E.ao:Int)==0)=true:=by rw[I];rfl
   let⟨J,G⟩:=dP<|fu (gI b) E.ak a E.w;rw[<-G.aa]at C;go_wp2;refine rj [E,E,eN J E] [(0,(pt H)),(6,(.bool<|gI b)),(5,(pt X.heap.size))] [(some 25,.v<|pt H),(some 26,.v<|pt H),(some 27,.v<|pt H),(some 28,.v<|pt H),(some 29,.v<|pt Y),(some 30,.v<|.bool<|gI b),(some 31,.v<|pt H),(some 32,.v<|pt H),(some 33,.v<|pq H 4),(some 34,.v<|wv E.ak),(some 35,.v<|wv a),(some 36,.v<|wv J),(some 37,.v<|.tuple #[])] [11,12] [4,9,10] N0 ⟨W,W,W⟩ D ⟨(oc ⟨W,W⟩ W λx Q=>G.aa▸Mu (gI b) E.ak a Q P),(oc ⟨W,W⟩ W λx Q=>iq J Q),AF⟩ ⟨(lc W λ_ _=>W),(lw (n:=E.ak) W λ_ _=>⟨W,W,W,W⟩),(Oh 0 W W),AF⟩ λd D=>?_;simp only[lP,uN,gt,dQ,gI,Xa,Xf,Act.put,pt];simp only[sx9];rw[<-C.aa]at D;go_wp2;refine bI W W ⟨W,D.1.tail,D.2⟩
  have U:((E.ao:Int)==0)=false:=Xb.2 wq;replace D:=D.aa.aZ<|cV<|C.trans<|iF I;go_wp2;refine bI W W ⟨W,D.1.tail,D.2⟩
def jn(p:Bool)(hn:R.w.sl.length<=1000000000)(h:DQ O H Y R l x):cP 126 #[pt H,iI<|bif p then 93 else 85] x (Dp O H Y (rK (bif p then 93 else 85) R) (.tuple #[]) l x):=by
 have b:Is p:=.mk;cases p;all_goals
  refine jG (fK (dU _ R) λR=>du (dA R) λk R=>du (dA R) λv R=>v7 _ k v<|if R.aR=true then fA R else R) W h λu C D=>?_;clear h;go_enter func126,ntmps126;go_wp2_with fail
  refine gR _ (hn:=by decide) C D λg d C D=>?_;go_wp2_with fail
  refine fE C D λa f Z C D=>?_;go_wp2_with fail
  refine fE C D λv E V C D=>?_;have Q:=D.aa.c 20 λ_ _=>W;let⟨m,G⟩:=dP E.aR;rw[<-G.aa]at Q C;clear G;cases m
  .rw[iF K3]at C;unfold v7 at C;have P:E.w.sl.length<=1000000000:=by rw[D.aa.s.w];exact hn
   have J:=D.aa.c 19 λ_ _=>W;by_cases I:E.ao=0
   .replace C:=cV<|C.trans<|At I;have U:((E.ao:Int)==0)=true:=by rw[I];rfl
    go_wp2;refine rj [E,{E with w:=mT (gI b) E.ak a v E.w}] [(0,(pt H)),(6,(.bool<|gI b)),(5,(pt Z.heap.size)),(7,(pt V.heap.size))] [(some 51,.v<|pt H),(some 52,.v<|pt H),(some 53,.v<|pt H),(some 54,.v<|pt Y),(some 55,.v<|.bool<|gI b),(some 56,.v<|pt H),(some 57,.v<|pt H),(some 58,.v<|pq H 4),(some 59,.v<|wv E.ak),(some 60,.v<|wv a),(some 61,.v<|wv v),(some 62,.v<|.tuple #[])] [11] [3,8,9,10] N0 ⟨W,W,W⟩ D ⟨(oc ⟨W,W⟩ W λx X=>WH (gI b) E.ak a v X P),AF⟩ ⟨(lc W λ_ _=>W),(lw (n:=E.ak) W λ_ _=>⟨W,W,W,W⟩),(Oh 1 W W),(Oh 0 W W),AF⟩ λj D=>?_;simp only[lP,uN,gt,dQ,gI,Xa,Xf,Act.put,pt];simp only[sx9];rw[<-C.aa]at D;go_wp2;refine bI W W ⟨W,D.1.tail.tail,D.2⟩
   have U:((E.ao:Int)==0)=false:=Xb.2 wq;replace D:=D.aa.aZ<|cV<|C.trans<|iF I;go_wp2;refine bI W W ⟨W,D.1.tail.tail,D.2⟩
  rw[At W]at C;go_wp2_with fail
  refine gf (jh D.q D.q.ac) (cV<|C.trans<|iF<|JI) D λy D=>?_;have J:=(D.1.cell (o:=19)<|λ_ _=>W).1;have U:((u.ao:Int)==0)=false:=by rw[C.aa];rfl
  go_wp2;refine bI W W ⟨W,D.1.tail.tail,D.2⟩
def uR(a n:Nat)(R:RS)(hn:0<ec n 70000)(h:(dJ a n R).2.ao=0):(dJ a n R).1.2=ec n 70000:=by
 unfold dJ at h⊢;split at h
 .rename_i C;rcases C with C|C
  .omega
  have:R.ao=0:=h;omega
 rename_i C;rw[iF C];split at h
 .cases h
 rename_i E;rw[iF E];split at h
 .rename_i D;rw[D]at h;cases h
 rename_i D;rw[iF D]
def zC(n:Nat):(pw n).size=32:=rfl
def yC(R:RS):(dA R).2.mem=R.mem:=by
 unfold dA;split
 .rfl
 split<;>rfl
def Cs{R:RS}(h:(dA R).2.ao=0):R.ao=0:=by
 unfold dA at h;split at h
 .cases h
 split at h
 .cases h
 exact h
def AD(R:RS):RS:=du (dA<|dU 3 R) λa R=>du (dJ a 32 R) λq R=>if R.ao=0 then eN (lK<|dM R.mem q.1 q.2) R else R
def rZ(n:Nat)(R:RS):RS:=du (dA<|dU 3 R) λa R=>du (dJ a n R) λq R=>du (dA R) λv R=>if R.ao=0 then gT q.1 ((pw v).extract (32-n) 32) R else R
def Hw{E:RS}{Q:Ending->X4}(I:Hd<|dA R=(a,E))(h:Hd<|Sx O H Y x R0 R l y)(k:∀C,Hd (Sx O H Y x R0 E (bx C.heap.size a::l)<|C.alloc<|wc a)->Q (.returned<|wv a) C):cP 124 #[pt H] y Q:=by have J:=ee R;refine(pB h.aa.q).mono ?_;rintro e C⟨rfl,D,G⟩;rw[I.aa]at D J⊢;exact k C ⟨D.aW _ _ _ _,(h.aa.b.trans G).trans<|(ai (dO _ C) _).mono D.hb.1,h.aa.s.trans J⟩
theorem Uh(h:DQ O H Y R l x):cP 125 #[pt H,iI 81] x (Dp O H Y (AD R) (.tuple #[]) l x):=by
 refine jG (fK (dU 3 R) λR=>du (dA R) λa R=>du (dJ a 32 R) λq R=>if R.ao=0 then eN (lK<|dM R.mem q.1 q.2) R else R) W h λe C D=>?_;clear h;go_enter func125,ntmps125;go_wp2_with fail
 refine gR 3 C D λu i C D=>?_;go_wp2_with fail
 refine fE C D λa U k C D=>?_;obtain⟨⟨r,q2⟩,I,X⟩:∃q u,Hd (dJ a 32 U=(q,u)):=⟨_,_,W⟩
 have Z:Hd (Tq U I r q2):=by have:=oV a 32 U;rw[X.aa]at this;exact this
 have G:I.ao=0->q2=32:=by have:=uR a 32 U K3;rw[X.aa]at this;exact this
 rw[X.aa,dW]at C;go_wp2;refine rj [U,I] [(0,(pt H)),(4,(pt k.heap.size)),(5,(iI 32))] [(some 17,.v<|pt H),(some 18,.v<|wv a),(some 19,.v<|iI 32),(some 20,.v<|wv 32),(some 21,.v<|.tuple #[iI (r:Int),iI (q2:Int)]),(some 16,.v<|.tuple #[iI (r:Int),iI (q2:Int)]),(some 22,.v<|iI (r:Int)),(some 23,.v<|iI (q2:Int)),(some 6,.v<|iI (r:Int)),(some 7,.v<|iI (q2:Int))] [4] [1,3] N0 ⟨W,W,W⟩ D ⟨(oc ⟨W,W⟩ W λx F=>by have L:=tX a 32 F;rw[X.aa]at L;exact L),AF⟩ ⟨(Oh 0 W W),(lR W<|dx 32 wq),AF⟩ λK d=>?_;replace D:Hd (Sx O H Y x _ I _ K):=⟨d.1,d.2,D.s.trans (by have:=gy a 32 U;rw[X.aa]at this;exact this)⟩
 clear d;simp only[lP,uN,gt,dQ,Xa,Xf,Act.put,pt];simp only[sx9];have T:=D.aa.c 19 λ_ _=>W;by_cases P:I.ao=0
 .replace C:=cV<|C.trans<|At P;have S:((I.ao:Int)==0)=true:=by rw[P];rfl
  let⟨Q,J⟩:=dP<|dI<|dM I.mem r q2;let⟨u,N,E,t,j,p,o,L⟩:=D.aa.q.cut (a:=r) (b:=q2) (Z.bN P).1;have u:=(Z.bN P).2;have f:Q.size<=32:=by rw[J.aa];show(dM I.mem r q2).length<=32;unfold dM;rw[XB,G P];omega
  let⟨m,V⟩:=dP<|lK<|bl Q;replace C:Hd (e=eN m I):=C.aa.trans (by rw[V.aa,J.aa];rfl);rw[<-J.aa]at L;have A:0<q2:=by rw[G P];decide
  clear G Z J;rcases L with⟨rfl,rfl,rfl,rfl,rfl,L⟩|⟨g,rfl,⟨rfl,rfl,L⟩|⟨u,L⟩⟩
  .omega
  .omega
  go_wp2_with fail
  refine vK (pD Q f _) D λu D=>?_;rw[<-V.aa];go_wp2_with fail
  refine gf (iq m D.q) C D λy D=>?_;go_wp2;refine bI W W ⟨W,D.1.tail,D.2⟩
 have S:((I.ao:Int)==0)=false:=Xb.2 wq;replace D:=D.aa.aZ<|cV<|C.trans<|iF P;go_wp2;refine bI W W ⟨W,D.1.tail,D.2⟩
def jD{i:Int}(u:(i,n,z)=(82,32,0)\/(i,n,z)=(83,1,31))(h:DQ O H Y R l x):cP 125 #[pt H,iI i] x (Dp O H Y (rZ n R) (.tuple #[]) l x):=by
 have E:Is n:=.mk;have w:Is z:=.mk;rcases u with e|e<;>cases e
 all_goals
  refine jG (fK (dU 3 R) λR=>du (dA R) λa R=>du (dJ a _ R) λq R=>du (dA R) λv R=>if R.ao=0 then gT q.1 ((pw v).extract (32-_) 32) R else R) W h λu C D=>?_;clear h;go_enter func125,ntmps125;go_wp2_with fail
  refine gR 3 C D λu u C D=>?_;go_wp2_with fail
  refine fE C D λa L y2 C D=>?_;obtain⟨⟨r,u⟩,G,V⟩:∃q p,Hd (dJ a (gI E) L=(q,p)):=⟨_,_,W⟩
  have S:Hd (Tq L G r u):=by have:=oV a (gI E) L;rw[V.aa]at this;exact this
  have J:G.ao=0->u=(gI E):=by have:=uR a (gI E) L<|Nat.le_of_ble_eq_true W;rw[V.aa]at this;exact this
  rw[V.aa,dW]at C;go_wp2;refine rj [L,G] [(0,(pt H)),(4,(pt y2.heap.size)),(5,(iI (gI E:Nat)))] [(some 17,.v<|pt H),(some 18,.v<|wv a),(some 19,.v<|iI (gI E:Nat)),(some 20,.v<|wv<|gI E),(some 21,.v<|.tuple #[iI (r:Int),iI (u:Int)]),(some 16,.v<|.tuple #[iI (r:Int),iI (u:Int)]),(some 22,.v<|iI (r:Int)),(some 23,.v<|iI (u:Int)),(some 6,.v<|iI (r:Int)),(some 7,.v<|iI (u:Int))] [4] [1,3] N0 ⟨W,W,W⟩ D ⟨(oc ⟨W,W⟩ W λx t=>by have T:=tX a (gI E) t;rw[V.aa]at T;exact T),AF⟩ ⟨(Oh 0 W W),(lR W<|dx (gI E)<|Nat.le_of_ble_eq_true W),AF⟩ λk j=>?_;replace D:Hd (Sx O H Y x _ G _ k):=⟨j.1,j.2,D.s.trans (by have:=gy a (gI E) L;rw[V.aa]at this;exact this)⟩
  clear j;simp only[lP,uN,gt,dQ,gI,Xa,Xf,Act.put,pt];simp only[sx9];obtain⟨v,P,I⟩:∃v p,Hd (dA G=(v,p)):=⟨_,_,W⟩
  have K:P.mem=G.mem:=by have:=yC G;rw[I.aa]at this;exact this
  have f:P.ao=0->G.ao=0:=by have:=Cs (R:=G);rw[I.aa]at this;exact this
  rw[I.aa,dW]at C;go_wp2_with fail
  refine Hw I D λu D=>?_;have u:=D.aa.c 19 λ_ _=>W;by_cases Q:P.ao=0
  .replace C:=cV<|C.trans<|At Q;have F:((P.ao:Int) !=0)=false:=by rw[Q];rfl
   let⟨Z,A,d,o,g⟩:=D.aa.cs 0 _ _ W;go_wp2_with fail
   refine vK (qk v) D λu D=>?_;clear Z A d o g;let⟨b,U⟩:=dP<|pw v;have X:b.size=32:=by rw[U.aa];exact zC v
   rw[<-U.aa]at C⊢;have m:r+(b.extract (gI w) 32).size<=P.mem.length:=by have u:=(S.bN<|f Q).1;rw[K,ZR,X];have N:=J<|f Q;simp only[gI]at N⊢;omega
   clear J S K f;go_wp2_with fail
   refine gf (wF r (b.extract (gI w) 32) D.q m) C D λy D=>?_;go_wp2;refine bI W W ⟨W,D.1.tail.tail,D.2⟩
  have F:((P.ao:Int) !=0)=true:=Zp.2 wq;replace D:=D.aa.aZ<|cV<|C.trans<|iF Q;go_wp2;refine bI W W ⟨W,D.1.tail.tail,D.2⟩
def nF(s:BA)(p n:Nat):(dH s p n).length=n:=jk s p n
def DQ.whole(h:DQ O H Y R l x):∃D E,cL x H 22 (.slice D R.mem.length E)/\(convert 26 9<|.slice D R.mem.length E).run prog x=.ok (.string<|dI R.mem) x/\R.mem.length<=65568:=by let⟨X,C,V,h,_⟩:=h;have G:=Bys.bD h.me;obtain⟨D,E,rfl,_⟩:=id G;exact⟨D,E,h.row.cell (i:=22) W,G.bJ,h.ml⟩
def EV{C b2:Bool}{G:Nat}(E:decide (0<q2)=C)(d2:decide ((n:Int)<(G:Int)+(q2:Int))=b2)(A B:RS):(if strict=true/\0<q2/\n<G+q2 then A else B)=if (strict&&(C&&b2))=true then A else B:=by
 have e:(strict=true/\0<q2/\n<G+q2)↔(strict&&(C&&b2))=true:=by rw[Xo,Xo,<-E,<-d2,Yz,Yz];constructor<;>rintro⟨G,I,I⟩<;>exact⟨G,wq,wq⟩
 by_cases h:(strict&&(C&&b2))=true
 .rw[At h,At<|e.2 h]
 rw[iF h,iF λD=>h<|e.1 D]
def sP{s:BA}(hs:s.size<=70000)(aD:Bool)(h:DQ O H Y R l x):cP 128 #[pt H,.string s,.bool aD,.bool strict] x (Dp O H Y (lA s aD strict R) (.tuple #[]) l x):=by
 refine jG (fK (dU 3 R) λR=>du (dA R) λZ R=>du (dA R) λu R=>du (dA R) λn R=>fK (dU ((ec n 70000+31)/32*3) R) λR=>du (dJ Z n<|if aD=true then(dJ u n R).2 else R)<|vZ s aD strict u) W h λa C D=>?_;clear h;go_enter func128,ntmps128;go_wp2_with fail
 refine gR 3 C D ?_;clear C D;intro u u C D;go_wp2_with fail
 refine fE C D ?_;clear C D;intro w u u C D;go_wp2_with fail
 refine fE C D ?_;clear C D;intro f u u C D;go_wp2_with fail
 refine fE C D ?_;clear C D;intro a3 u u C D;let⟨J,G,L,P,I⟩:=D.aa.cs 0 _ _ W;go_wp2_with fail
 refine vK (ij a3 70000 K3 _) D ?_;clear D;intro u D;clear J G L P I;have r:=vH a3;let⟨n7,u⟩:=dP<|ec a3 70000;rw[<-u.aa]at r C⊢;let⟨c7,Q⟩:=dP<|(n7+31)/32*3;have S:c7<=10000000:=by have:=Q.aa;omega
 rw[<-Q.aa]at C;have u:((n7:Int)+31).tdiv 32*3=(c7:Int):=by rw[Q.aa,Int.tdiv_eq_ediv_of_nonneg wq];omega
 clear Q;go_wp2_with fail
 refine gR c7 (hn:=S) C D ?_;clear C D;intro u r C D;cases aD;case' true=>
  replace C:Hd (a=du (dJ f a3 u) λ_ R=>du (dJ w a3 R)<|vZ s true strict f):=C;let⟨J,G,L,P,I⟩:=D.aa.cs 0 _ _ W;let⟨vm,ze,d,V,U⟩:=D.aa.cs 1 _ _ W;go_wp2_with fail
  refine qm f a3 C D ?_;clear C D;intro r r u y7 C D u;clear J G L P I vm ze d V U
 all_goals
  let⟨J,G,L,P,I⟩:=D.aa.cs 0 _ _ W;let⟨u,T,z,v,e⟩:=D.aa.cs 2 _ _ W;go_wp2_with fail
  refine qm w a3 C D ?_;clear C D;intro r q2 X y7 C D m;clear J G L P I u T z v e;unfold vZ at C;have u:=D.aa.c 19 λ_ _=>W;by_cases p:X.ao=0
  .replace C:=cV<|C.trans<|At p;have e:((X.ao:Int) !=0)=false:=by rw[p];rfl
   let⟨vm,ze,d,V,U⟩:=D.aa.cs 1 _ _ W;go_wp2_with fail
   refine vK (ij f 70000 K3 _) D ?_;clear D;intro u D;clear vm ze d V U;have t:=vH f;let⟨p7,A⟩:=dP<|ec f 70000;rw[<-A.aa]at t C⊢;have j:=(m.bN p).1;have u:=m.aa.p7;have u:=m.aa.n7;clear m;first
    |replace C:Hd (a=BC r q2 p7 s strict X):=C
    |obtain⟨u,E,u,i,k⟩:=D.aa.q.whole
     let⟨s,o⟩:=dP<|dI X.mem;have hs:s.size<=70000:=by rw[o.aa];exact By k K3
     rw[<-o.aa]at i;replace C:Hd (a=BC r q2 p7 s strict X):=C.aa.trans (by rw[o.aa];rfl);clear o
   let⟨n,v⟩:=dP s.size;have u:s.size=n:=v.aa.symm;unfold BC at C;rw[u]at C hs;obtain⟨F,u⟩:∃b,decide (0<q2)=b:=⟨_,W⟩
   obtain⟨b2,d2⟩:∃b,decide ((n:Int)<(p7:Int)+(q2:Int))=b:=⟨_,W⟩
   rw[EV u d2]at C;have g:r+(dI<|dH s p7 q2).size<=X.mem.length:=by rwa[show(dI<|dH s p7 q2).size=(dH s p7 q2).length from W,nF]
   by_cases K:(strict&&(F&&b2))=true;case pos=>
    obtain⟨rfl,rfl,rfl⟩:strict=true/\F=true/\b2=true:=by simpa using K
    replace C:=cV<|C.trans<|At W;go_wp2_with fail
    refine gf (jh D.q D.q.ac) C D λy D=>?_;go_wp2;refine bI W W ⟨W,D.1.tail.tail.tail,D.2⟩
   replace C:=cV<|C.trans<|iF K;cases strict<;>cases F<;>cases b2
   all_goals first
    |exact absurd rfl K
    |skip
     go_wp2_with fail
     refine vK (sK s p7 q2 wq wq wq _) D ?_;clear D;intro u D;let⟨u,N⟩:=dP<|dI<|dH s p7 q2;rw[<-N.aa]at C g⊢;go_wp2_with fail
     refine gf (wF r u D.q g) C D λy D=>?_;go_wp2;refine bI W W ⟨W,D.1.tail.tail.tail,D.2⟩
  have e:((X.ao:Int) !=0)=true:=Zp.2 wq;replace D:=D.aa.aZ<|cV<|C.trans<|iF p;go_wp2;refine bI W W ⟨W,D.1.tail.tail.tail,D.2⟩
def UL(a:Nat)(h:DQ O H Y R l x)(hn:R.w.pu.length<=1000000000):cP 70 #[pt Y,wv a] x (Dp O H Y {R with w:=(ag a R.w).2} (iI ((ag a R.w).1:Int)) l x):=h.calls λD C=>qE a C hn
def balR(R:RS):RS:=du (dA<|dU 100 R) λa R=>if R.ao=0 then eN (mB (ag a R.w).2 (ag a R.w).1).mo {R with w:=(ag a R.w).2}else R
def FO(R:RS):RS:=du (dA<|dU 3 R) λa R=>eN (lK<|dH R.data (ec a 70000) 32) R
def lU(J:Nat)(R:RS):RS:=match J with
 |48=>eN (dU 2 R).ak<|dU 2 R
 |49=>balR R
 |51=>eN (dU 2 R).ax<|dU 2 R
 |52=>eN (dU 2 R).value<|dU 2 R
 |53=>FO R
 |54=>eN (dU 2 R).data.size<|dU 2 R
 |55=>lA R.data false false R
 |56=>eN (dU 2 R).ae.size<|dU 2 R
 |57=>lA R.ae false false R
 |61=>eN (dU 2 R).aI.size<|dU 2 R
 |62=>lA R.aI false true R
 |_=>fA R
def Mc(hn:R.w.pu.length<=900000000)(h:DQ O H Y R l x):cP 122 #[pt H,iI 49] x (Dp O H Y (lU 49 R) (.tuple #[]) l x):=by
 refine jG (fK (dU 100 R) λR=>du (dA R) λa R=>if R.ao=0 then eN (mB (ag a R.w).2 (ag a R.w).1).mo {R with w:=(ag a R.w).2}else R) W h λb C D=>?_;clear h;go_enter func122,ntmps122;go_wp2_with fail
 refine gR 100 C D λb b C D=>?_;go_wp2_with fail
 refine fE C D λa L t C D=>?_;have F:L.w.pu.length<=900000000:=by rw[D.aa.s.w];exact hn
 have K:=D.aa.c 19 λ_ _=>W;by_cases Z:L.ao=0
 .replace C:=cV<|C.trans<|At Z;have T:((L.ao:Int)==0)=true:=by rw[Z];rfl
  let⟨G,Q⟩:=iG a L.w;let⟨i,m⟩:=dP<|(ag a L.w).1;let⟨f,X⟩:=dP<|(ag a L.w).2;rw[<-m.aa,<-X.aa]at C G;rw[<-X.aa]at Q;go_wp2;refine rj [L,{L with w:=f}] [(0,(pt H)),(4,(pt t.heap.size))] [(some 31,.v<|pt H),(some 32,.v<|pt H),(some 33,.v<|pt H),(some 34,.v<|pt Y),(some 35,.v<|wv a),(some 36,.v<|iI (i:Int)),(some 5,.v<|iI (i:Int))] [5] [3,4] N0 ⟨W,W,W⟩ D ⟨(oc ⟨W,W⟩ W λx b=>by have U:=UL a b wq;rw[<-m.aa,<-X.aa]at U;exact U),AF⟩ ⟨(lc W λ_ _=>W),(Oh 0 W W),AF⟩ λA D=>?_;simp only[lP,uN,gt,dQ,Xa,Xf,Act.put,pt];simp only[sx9];let⟨N,V⟩:=dP f.pu.length;have k:i<N:=by rwa[V.aa]
  have S:N<=1000000000:=by rw[V.aa];omega
  obtain⟨b,b,_⟩:=D.aa.1.world;let⟨g,E,q,U⟩:=b.ps G;let⟨p,P⟩:=dP<|f.pu[i].mo;rw[sd G,<-P.aa]at C;have I:∀j,j<4->A.cell? ⟨g,i*9+(4+j),none⟩=some (lu p j):=λj n=>by rw[P.aa];exact U (4+j) _ wq (match j,n with|0,_=>rfl|1,_=>rfl|2,_=>rfl|3,_=>rfl)
  have u:=I 0 wq;have u:=I 1 wq;have u:=I 2 wq;have a3:=I 3 wq;rw[<-V.aa]at q;have q:=(D.1.cell (o:=0)<|λ_ _=>W).1;clear U I b V m X P G Q;go_wp2_with fail
  refine(iq p D.1).mono ?_;rintro e y⟨rfl,d,z⟩;rw[<-C.aa]at d;replace D:=cV<|aIn d<|D.2.trans z;clear d z;go_wp2;refine bI W W ⟨W,D.1.tail,D.2⟩
 have T:((L.ao:Int)==0)=false:=Xb.2 wq;replace D:=D.aa.aZ<|cV<|C.trans<|iF Z;go_wp2;refine bI W W ⟨W,D.1.tail,D.2⟩
def QM(b:R.data.size<=70000)(h:DQ O H Y R l x):cP 122 #[pt H,iI 53] x (Dp O H Y (lU 53 R) (.tuple #[]) l x):=by
 refine jG (fK (dU 3 R) λR=>du (dA R) λa R=>eN (lK<|dH R.data (ec a 70000) 32) R) W h λc C E=>?_;clear h;go_enter func122,ntmps122;go_wp2_with fail
 refine gR 3 C E λd V C E=>?_;go_wp2_with fail
 refine fE C E λa D U C E=>?_;have P:D.data.size<=70000:=by rwa[E.aa.s.data]
 have Z:=vH a;have L:(dI<|dH D.data (ec a 70000) 32).size<=32:=by show(dH D.data (ec a 70000) 32).length<=32;rw[nF];omega
 let⟨I,G⟩:=dP<|lK<|bl<|dI<|dH D.data (ec a 70000) 32;replace C:Hd (c=eN I D):=C.aa.trans (by rw[G.aa];rfl);go_wp2;refine rj [D,eN I D] [(0,(pt H)),(6,(pt U.heap.size))] [(some 76,.v<|pt H),(some 77,.v<|pt H),(some 78,.v<|pt H),(some 79,.v<|pq H 2),(some 80,.v<|.string D.data),(some 81,.v<|wv a),(some 82,.v<|iI ((ec a 70000:Nat):Int)),(some 83,.v<|.string<|dI<|dH D.data (ec a 70000) 32),(some 84,.v<|wv I),(some 85,.v<|.tuple #[])] [9] [4,5,6,7,8] N0 ⟨W,W,W⟩ E ⟨(oc ⟨W,W⟩ W λx Q=>iq I Q),AF⟩ ⟨(lc W λ_ _=>W),(Oh 0 W W),(lr W<|ij a 70000 K3),(lr W<|sK D.data (ec a 70000) 32 wq wq wq),(lr W<|G.aa▸pD (dI<|dH D.data (ec a 70000) 32) L),AF⟩ λX E=>?_;simp only[lP,uN,gt,dQ,Xa,Xf,Act.put,pt];simp only[sx9];rw[<-C.aa]at E;go_wp2;refine bI W W ⟨W,E.1.tail,E.2⟩
def qI{z:Int}(P:z=48/\J=48\/z=51/\J=51\/z=52/\J=52)(h:DQ O H Y R l x):cP 122 #[pt H,iI z] x (Dp O H Y (lU J R) (.tuple #[]) l x):=by
 rcases P with⟨rfl,rfl⟩|⟨rfl,rfl⟩|⟨rfl,rfl⟩;all_goals
  refine jG (fK (dU 2 R) λR=>eN _ R) W h λb D C=>?_;clear h;go_enter func122,ntmps122;go_wp2_with fail
  refine gR 2 D C λd X D C=>?_;have c4:=C.aa.c 4 λ_ _=>W;have c5:=C.aa.c 5 λ_ _=>W;have c6:=C.aa.c 6 λ_ _=>W;have c7:=C.aa.c 7 λ_ _=>W;have V:=C.aa.c 8 λ_ _=>W;have Z:=C.aa.c 9 λ_ _=>W;have Q:=C.aa.c 10 λ_ _=>W;have I:=C.aa.c 11 λ_ _=>W;have E:=C.aa.c 12 λ_ _=>W;have U:=C.aa.c 13 λ_ _=>W;have G:=C.aa.c 14 λ_ _=>W;have L:=C.aa.c 15 λ_ _=>W;go_wp2_with fail
  refine gf (iq _ C.q) D C λy C=>?_;go_wp2;refine bI W W ⟨W,C.1,C.2⟩
def uj{z:Int}(I:z=54/\J=54\/z=56/\J=56\/z=61/\J=61)(G:R.data.size<=70000)(E:R.ae.size<=70000)(L:R.aI.size<=70000)(h:DQ O H Y R l x):cP 122 #[pt H,iI z] x (Dp O H Y (lU J R) (.tuple #[]) l x):=by
 rcases I with⟨rfl,rfl⟩|⟨rfl,rfl⟩|⟨rfl,rfl⟩;all_goals
  refine jG (fK (dU 2 R) λR=>eN (ByteArray.size _) R) W h λV D C=>?_;clear h;go_enter func122,ntmps122;go_wp2_with fail
  refine gR 2 D C λQ P D C=>?_;have c1:=C.aa.c 1 λ_ _=>W;have c2:=C.aa.c 2 λ_ _=>W;have c3:=C.aa.c 3 λ_ _=>W;rw[<-C.aa.s.data]at G;rw[<-C.aa.s.ae]at E;rw[<-C.aa.s.aI]at L;go_wp2_with fail
  refine lT (dx (ByteArray.size _) wq _) C λU C=>?_;go_wp2_with fail
  refine gf (iq _ C.q) D C λy C=>?_;go_wp2;refine bI W W ⟨W,C.1,C.2⟩
def mK{z:Int}(E:z=55/\J=55\/z=57/\J=57\/z=62/\J=62)(I:R.data.size<=70000)(G:R.ae.size<=70000)(L:R.aI.size<=70000)(h:DQ O H Y R l x):cP 122 #[pt H,iI z] x (Dp O H Y (lU J R) (.tuple #[]) l x):=by
 rcases E with⟨rfl,rfl⟩|⟨rfl,rfl⟩|⟨rfl,rfl⟩;all_goals
  refine jG (lA _ false _ R) W h λP D C=>?_;clear h;go_enter func122,ntmps122;have c1:=C.aa.c 1 λ_ _=>W;have c2:=C.aa.c 2 λ_ _=>W;have c3:=C.aa.c 3 λ_ _=>W;go_wp2_with fail
  refine gf (sP (by assumption) false C.q) D C λy C=>?_;go_wp2;refine bI W W ⟨W,C.1,C.2⟩
theorem NT(J:Nat)(V:J≠48/\J≠49/\J≠51/\J≠52/\J≠53/\J≠54/\J≠55/\J≠56/\J≠57/\J≠61/\J≠62)(h:DQ O H Y R l x):cP 122 #[pt H,iI (J:Int)] x (Dp O H Y (fA R) (.tuple #[]) l x):=by
 refine jG (fA R) W h λb D C=>?_;clear h;have X:((J:Int)==48)=false:=Xb.2 wq;have d:((J:Int)==49)=false:=Xb.2 wq;have Z:((J:Int)==51)=false:=Xb.2 wq;have E:((J:Int)==52)=false:=Xb.2 wq;have I:((J:Int)==53)=false:=Xb.2 wq;have Q:((J:Int)==54)=false:=Xb.2 wq;have f:((J:Int)==55)=false:=Xb.2 wq;have L:((J:Int)==56)=false:=Xb.2 wq;have U:((J:Int)==57)=false:=Xb.2 wq;have G:((J:Int)==61)=false:=Xb.2 wq;have P:((J:Int)==62)=false:=Xb.2 wq;clear V;go_enter func122,ntmps122;go_wp2_with fail
 refine gf (jh C.q C.q.ac) D C λy C=>?_;go_wp2;refine bI W W ⟨W,C.1,C.2⟩
def xD(k:Nat)(R:RS):RS:={eN (lK<|dH R.ae R.pc k) R with pc:=R.pc+k}
def CI(k:Nat)(R:RS):RS:=if R.st.length<k then fA R else eN (R.st.getD (k-1) 0) R
def qW(k:Nat)(R:RS):RS:=if R.st.length<k then fA R else{R with st:=(R.st.set 0<|R.st.getD (k-1) 0).set (k-1)<|R.st.getD 0 0}
def uI(J:Nat)(R:RS):RS:=if J<128 then xD (J-95) (dU 3 R)else if J<144 then CI (J-127) (dU 3 R)else qW (J-142)<|dU 3 R
def Bp{R S:RS}(h:pV R=pV S):R.pc=S.pc:=by have:=Xl RS.pc h;exact this
def DQ.len(h:DQ O H Y R l x):∃E D,cL x H 21 (.slice E R.st.length D)/\R.st.length<=1024:=by let⟨X,C,V,h,_⟩:=h;obtain⟨E,D,rfl⟩:=dt h.st;exact⟨E,D,by have:=h.row.cell (i:=21) W;rwa[XD]at this,h.sl⟩
def DQ.nth(h:DQ O H Y R l x)(Q:k<R.st.length):∃g D,x.cell? ⟨H,21,none⟩=some (sL g R.st.length D)/\R.st.length<=D/\∀i,i+k+1=R.st.length->x.cell? ⟨g,i*4,none⟩=some (lu (R.st.getD k 0) 0)/\x.cell? ⟨g,i*4+1,none⟩=some (lu (R.st.getD k 0) 1)/\x.cell? ⟨g,i*4+2,none⟩=some (lu (R.st.getD k 0) 2)/\x.cell? ⟨g,i*4+3,none⟩=some (lu (R.st.getD k 0) 3):=by
 let⟨X,C,V,h,_⟩:=h;have L:=h.st;rcases L.2 with⟨rfl,P⟩|⟨g,E,J,rfl,_,_,J,_,_⟩
 .rw[XD]at P;omega
 refine⟨g,E,by have:=h.row.cell (i:=21) W;rwa[XD]at this,by rw[XD]at J;exact J,λi J=>?_⟩;have G:i<R.st.reverse.length:=by rw[XD];omega
 have I:R.st.reverse[i]=R.st.getD k 0:=by rw[Zx,If,iN Q];show R.st[_]=R.st[k];congr 1;omega
 exact L.at G I
theorem push_R(J:Nat)(F:95<=J/\J<128)(u:R.ae.size<=70000)(c:R.pc<=100000)(h:DQ O H Y R l x):cP 129 #[pt H,iI (J:Int)] x (Dp O H Y (xD (J-95)<|dU 3 R) (.tuple #[]) l x):=by
 let⟨q,b⟩:=hJ<|J-95;rw[<-b];have j:(J:Int)-95=(q:Int):=wq
 have V:0<=q/\q<=32:=wq
 have T:=dT<|(J:Int)<128;clear b;refine jG (fK (dU 3 R) λR=>xD q R) W h λb E D=>?_;clear h;go_enter func129,ntmps129;go_wp2_with fail
 refine gR 3 E D λC A E D=>?_;have g:C.ae.size<=70000:=by rwa[D.aa.s.ae]
 have d:C.pc<=100000:=by rwa[D.aa.s.pc]
 have P:(dI<|dH C.ae C.pc q).size<=32:=by show(dH C.ae C.pc q).length<=32;rw[nF];exact V.2
 let⟨G,L⟩:=dP<|lK<|bl<|dI<|dH C.ae C.pc q;replace E:Hd (b={eN G C with pc:=C.pc+q}):=E.aa.trans (by rw[L.aa];rfl);let⟨K,b,U,Q⟩:=D.aa.q.len;let⟨N,f⟩:=dP C.st.length;rw[<-f.aa]at U Q;clear f;go_wp2;refine rj [C,eN G C] [(0,(pt H)),(5,(iI (q:Int)))] [(some 60,.v<|pt H),(some 61,.v<|pt H),(some 62,.v<|pt H),(some 63,.v<|pq H 1),(some 64,.v<|.string C.ae),(some 65,.v<|pt H),(some 66,.v<|pt H),(some 67,.v<|pq H 18),(some 68,.v<|iI (C.pc:Int)),(some 69,.v<|iI (q:Int)),(some 70,.v<|.string<|dI<|dH C.ae C.pc q),(some 71,.v<|wv G),(some 72,.v<|.tuple #[])] [12] [4,8,10,11] N0 ⟨W,W,W⟩ D ⟨(oc ⟨W,W⟩ W λx z=>iq G z),AF⟩ ⟨(lc W λ_ _=>W),(lc W λ_ _=>W),(lr W<|sK C.ae C.pc q wq wq wq),(lr W<|L.aa▸pD (dI<|dH C.ae C.pc q) P),AF⟩ λn D=>?_;simp only[lP,uN,gt,dQ,Xa,Xf,Act.put,pt];simp only[sx9];have I:(eN G C).pc=C.pc:=(iQ G C).pc;have Z:=D.aa.1.ac;let⟨S,y⟩:=dP<|eN G C;rw[<-y.aa]at D E I Z;let⟨X,m,b⟩:=D.aa.1.cell (o:=18)<|λ_ _=>W;rw[I]at X;replace D:=cV<|aIn (D.1.set (o:=18) (v:=iI<|(C.pc:Int)+(q:Int)) (R':={S with pc:=C.pc+q}) (λ_ _=>W) W W W Z)<|D.2.setCell (p:=⟨H,18,none⟩) b<|iI<|(C.pc:Int)+(q:Int);rw[<-E.aa]at D;go_wp2;refine bI W W ⟨W,D.1,D.2⟩
theorem dup_R(J:Nat)(F:128<=J/\J<144)(h:DQ O H Y R l x):cP 129 #[pt H,iI (J:Int)] x (Dp O H Y (CI (J-127)<|dU 3 R) (.tuple #[]) l x):=by
 let⟨q,b⟩:=hJ<|J-127;rw[<-b];have Z:(J:Int)-127=(q:Int):=wq
 have o:1<=q/\q<=16:=wq
 have T:=dF<|(J:Int)<128;have d2:=dT<|(J:Int)<144;clear b;refine jG (fK (dU 3 R) λR=>CI q R) W h λb C D=>?_;clear h;go_enter func129,ntmps129;go_wp2_with fail
 refine gR 3 C D λQ S C D=>?_;unfold CI at C;let⟨N,L⟩:=dP Q.st.length;rw[<-L.aa]at C;by_cases E:N<q
 .obtain⟨K,A,I,G⟩:=D.aa.q.len;rw[<-L.aa]at I G;have X:=dN N q;replace C:=cV<|C.trans<|At E;go_wp2_with fail
  refine gf (jh D.q D.q.ac) C D λy D=>?_;go_wp2;refine bI W W ⟨W,D.1,D.2⟩
 have X:=dG N q;replace C:=cV<|C.trans<|iF E;have G:Q.st.length<=1024:=by let⟨_,_,_,p⟩:=D.aa.q.len;exact p
 let⟨g,A,I,P,U⟩:=D.aa.q.nth (k:=q-1) (by rw[<-L.aa];omega);rw[<-L.aa]at I P U G;obtain⟨i,c⟩:∃i,i+q=N:=⟨N-q,wq⟩
 let⟨j,m,d,f⟩:=U i wq;let⟨v,V⟩:=dP<|Q.st.getD (q-1) 0;rw[<-V.aa]at j m d f C;have b:(N:Int)-(q:Int)=(i:Int):=wq
 have z:i<N:=wq
 clear U V L E c;go_wp2_with fail
 refine gf (iq v D.q) C D λy D=>?_;go_wp2;refine bI W W ⟨W,D.1,D.2⟩
def VG{α:Type}(l:List α)(k i:Nat)(n:α)(h:i+k+1=l.length):l.reverse.set i n=(l.set k n).reverse:=by
 apply List.ext_getElem
 .simp
 intro j C D;rw[List.getElem_set,Zx,Zx,List.getElem_set];have E:j<l.length:=by simpa using C
 by_cases e:i=j
 .rw[At e,At (by rw[XE];omega)]
 rw[iF e,iF (by rw[XE];omega)];congr 1;rw[XE]
def DQ.cA(n:Nat)(h:DQ O H Y R l x)(hi:i+k+1=R.st.length)(d:cL x H 21<|sL g R.st.length cp):DQ O H Y {R with st:=R.st.set k n} l (x.setCells g (i*4)<|wl n)/\Below O x (x.setCells g (i*4)<|wl n)/\x.there g (i*4) 4/\(x.setCells g (i*4)<|wl n).cell? ⟨H,21,none⟩=some (sL g R.st.length cp):=by
 let⟨X,C,V,h,f⟩:=h;have D:=h.row.cell (i:=21) W;rw[d]at D;have Z:=hV D;subst Z;have b:=h.st;rw[<-XD]at b;have Q:i<R.st.reverse.length:=by rw[XD];omega
 have G:=wy b Q n;rw[VG R.st k i n hi,XD]at G;have J:=(b.lt g W).1;have E:Kb [g] x (x.setCells g (i*4)<|wl n):=Kb.setCells g AI (wl n) _<|Kb.refl [g] _;have c:∀q∈[g],Ty x q 24:=λq I=>by rw[BY.1 I];exact Ty.az b W
 have L:=E.row h.row λI=>absurd ((c _ I).aF<|Ty.aB h.row) K3;refine⟨DQ.aX (S:=[g]) f (sv':=sL g R.st.length cp) (mv':=C) (V':=V) ⟨?_,?_,?_,?_,h.tk,h.hf,By h.hb E.size,h.gl,by show(R.st.set k n).length<=1024;rw[XE];exact h.sl,h.ml⟩ E (λq I=>?_)<|λq f=>LZ f,?_,vj b Q,rowL.cell (i:=21) L W⟩
 .exact L
 .unfold Wds at G⊢;simpa using G
 .exact E.aD h.me λq hb I=>absurd ((c q I).aF<|Ty.az h.me hb) K3
 .exact h.wa.kb E λq I=>⟨λT P=>by rw[P.aF<|c q I];unfold OH;decide,λt U e=>h.tk t U q e (by rw[BY.1 I];rfl)⟩
 .exact A4 (A4<|LZ (by rw[BY.1 I];rfl))
 exact((((dO _ _).setCell (p:=⟨g,i*4,none⟩) J _).setCell (p:=⟨g,i*4+1,none⟩) J _).setCell (p:=⟨g,i*4+1+1,none⟩) J _).setCell (p:=⟨g,i*4+1+1+1,none⟩) J _
def DQ.nthc(h:DQ O H Y R l x)(hi:i+k+1=R.st.length)(G:cL x H 21<|sL g R.st.length cp):cL x g (i*4) (lu (R.st.getD k 0) 0)/\cL x g (i*4+1) (lu (R.st.getD k 0) 1)/\cL x g (i*4+2) (lu (R.st.getD k 0) 2)/\cL x g (i*4+3) (lu (R.st.getD k 0) 3):=by let⟨I,D,C,_,E⟩:=h.nth (k:=k) wq;rw[G]at C;injection C with C;injection C with C _ _;injection C with C;injection C with C _ _;subst C;exact E i hi
def Ct{c:Int}{I:Vr}(C:tG s t<|iI (a:Int))(G:(a:Int)-c=(b:Int))(J:b<=10000000)(D:K (Wb s d<|iI (b:Int)) x):Oper.wp prog ⟨some d,.binOp .sub 3 (.tmp t) (.const<|iI c) 3,I,pos,af,gd⟩ s x K Q:=by
 have E:s.eval (.tmp t)=iI (a:Int):=C;have I:IntKind.i64.wrap (b:Int)=(b:Int):=by simp[IntKind.wrap,IntKind.bits,IntKind.signed];omega
 go_simp;exact D
def Ig{I:Vr}(D:tG s t<|iI (a:Int))(C:tG s u<|iI (b:Int))(G:a=b+c)(ha:a<=10000000)(E:K (Wb s d<|iI (c:Int)) x):Oper.wp prog ⟨some d,.binOp .sub 3 (.tmp t) (.tmp u) 3,I,pos,af,gd⟩ s x K Q:=by refine Js D C wq ha ?_;rwa[(wq:a-b=c)]
def Se(O H Y:Nat)(S:Nat->RS)(L:hZ)(x0:WD)(X:VL)(k:Nat)(x:WD):=DQ O H Y (S k) L x/\Below O x0 x/\x.cell? ⟨H,21,none⟩=some X
def tC{S:Nat->RS}(k:Nat)(x x':WD)(h:Se O H Y S L x0 X k x)(hb:bW x x'):Se O H Y S L x0 X k x':=⟨h.1.below hb,h.2.1.trans<|hb.mono h.1.hb.1,(hb.cell<|Yb _ _ h.2.2).trans h.2.2⟩
theorem swap_R{x:WD}(J:Nat)(r:144<=J/\J<160)(h:DQ O H Y R l x):cP 129 #[pt H,iI (J:Int)] x (Dp O H Y (qW (J-142)<|dU 3 R) (.tuple #[]) l x):=by
 let⟨q,w⟩:=hJ<|J-142;rw[<-w];have a1:(J:Int)-142=(q:Int):=wq
 have r:2<=q/\q<=17:=wq
 have r:=dF<|(J:Int)<128;have d2:=dF<|(J:Int)<144;clear w;let⟨tr,I⟩:=dP<|qW q<|dU 3 R;rw[show qW q (dU 3 R)=qW q (dU 3 R) from W,<-I.aa];have Z:=cV h;have z:=cV<|dO O x;obtain⟨D,HL,r⟩:∃D,Hd (pV R=D)/\Hd (D=pV R):=⟨_,W,W⟩
 clear h;go_enter func129,ntmps129;go_wp2_with fail
 refine(vx 3 wq Z).mono ?_;rintro e y1⟨rfl,S,hB⟩;obtain⟨f,r⟩:∃R',Hd (R'=dU 3 R):=⟨_,W⟩
 rw[<-r.aa]at S I;replace Z:=cV S;replace z:=cV<|z.trans hB;replace HL:Hd (pV f=D):=by rw[r.aa,vb];exact HL
 clear S hB r;unfold qW at I;let⟨N,r⟩:=dP f.st.length;have hst:f.st.length<=1024:=by let⟨_,_,_,h9⟩:=Z.aa.len;exact h9
 rw[<-r.aa]at I hst;by_cases T:N<q
 .obtain⟨ad,cp,p, -⟩:=Z.aa.len;rw[<-r.aa]at p;have d3:=dN N q;replace I:=cV<|I.trans<|At T;have hg:=Z.aa.ac;clear r;go_wp2_with fail
  refine(jh Z hg).mono ?_;rintro e y⟨rfl,S,hB⟩;rw[<-I.aa]at S;replace Z:=cV S;replace z:=cV<|z.trans hB;clear S hB I;go_wp2;refine bI W W ⟨W,Z,z⟩
 have d3:=dG N q;have d4:decide (N<q)=false:=W8 T;replace I:=cV<|I.trans<|iF T;let⟨g,cp,p,hcp,hc⟩:=Z.aa.nth (k:=0) (by rw[<-r.aa];omega);rw[<-r.aa]at p hcp hc;obtain⟨i,hi⟩:∃i,i+q=N:=⟨N-q,wq⟩
 obtain⟨j,hj⟩:∃j,j+1=N:=⟨N-1,wq⟩
 let⟨m0,m1,m2,m3⟩:=hc j wq;let⟨v,HV⟩:=dP<|f.st.getD 0 0;let⟨b,a3⟩:=dP<|f.st.getD (q-1) 0;rw[<-HV.aa]at m0 m1 m2 m3;rw[<-HV.aa,<-a3.aa]at I;have e1:(N:Int)-1=(j:Int):=wq
 have hjN:j<N:=wq
 have a2:i<N:=wq
 have HI:Hd (i+q=N/\j+1=N):=⟨hi,hj⟩
 clear hc T hi hj;go_wp2;have a4:=cV<|z.trans<|(ai (dO _ y1)<|wc v).mono Z.hb.1;have a5:=cV<|Z.aW (lu v 0) (lu v 1) (lu v 2)<|lu v 3;have HC:=cV<|((ai (dO y1.heap.size y1)<|wc v).cell<|Yb _ _ p).trans p;replace Z:=a5;replace z:=a4;have o:f.st.length=N:=r.aa.symm;clear a5 a4 m0 m1 m2 m3 p;refine dy (Se O H Y (λk=>match k with|0=>f|_=>{f with st:=f.st.set 0 b}) _ x<|sL g N cp) (λ_ _ _=>True) [(0,(pt H)),(1,(iI (J:Int))),(4,(iI (N:Int)))] (nV 28 [pt H,pt H,pq H 21,sL g N cp,iI (N:Int),iI (j:Int),pt H,pt H,pq H 21,sL g N cp,iI (N:Int),iI (J:Int),iI (q:Int),iI (i:Int),pq g<|i*4,wv b,pq g<|j*4]++[(none,.v undef)]) [17] [3,5,9,12,13,14,15,16] (tC 0 _ _ ⟨Z,z,HC⟩ (dO _ _).drew) (tC)
   ⟨(@λm x P hl K C E U=>by have r:DQ O H Y f _ x:=C.1;let⟨S,h2,h3,h4⟩:=r.cA (k:=0) (i:=j) (g:=g) (cp:=cp) b (by rw[o];have:=HI.aa;omega) (by rw[o];exact C.2.2);rw[o]at h4;exact mu (E W) (E W) h3<|U undef _ ⟨S,C.2.1.trans h2,h4⟩ AF (λ_=>W) W),AF⟩
   ⟨(@λk m x w V P hl K G C E U=>by
    cases(Yn.1 (G 0 17):k=0);exact dm (v:=(sL g N cp)) (E W) C.2.2<|kx U),(@λk m x w V P hl K G C E U=>by
    exact Ct (a:=N) (b:=j) (E W) e1 wq<|kx U),(@λk m x w V P hl K G C E U=>by
    cases(Yn.1 (G 0 17 W N0):k=0);exact dm (v:=(sL g N cp)) (E W) C.2.2<|kx U),(@λk m x w V P hl K G C E U=>by
    exact Ct (a:=J) (b:=q) (E W) a1 wq<|kx U),(@λk m x w V P hl K G C E U=>by
    exact Ig (a:=N) (b:=q) (c:=i) (E W) (E W) (by have:=HI.aa;omega) wq<|kx U),(@λk m x w V P hl K G C E U=>by
    exact mA 4 (E W) (E W) a2<|kx U),(@λk m x w V P hl K G C E U=>by
    cases(Yn.1 (G 0 17 W N0):k=0);have r:DQ O H Y f _ x:=C.1;let⟨c0,c1,c2,c3⟩:=r.nthc (k:=q-1) (i:=i) (g:=g) (cp:=cp) (by rw[o];have:=HI.aa;omega) (by rw[o];exact C.2.2);rw[<-a3.aa]at c0 c1 c2 c3;exact dD (n:=b) (E W) c0 c1 c2 c3<|kx U),(@λk m x w V P hl K G C E U=>mA 4 (E W) (E W) hjN<|kx U),AF⟩
   (nl W) (nl W) ?_
 intro gg y2 C _;replace Z:Hd (DQ O H Y {f with st:=f.st.set 0 b} _ y2):=cV C.1;replace z:=cV C.2.1;replace HC:=cV C.2.2;clear C;simp only[n8,sx9];have F:({f with st:=f.st.set 0 b}:RS).st.length=N:=by show(f.st.set 0 b).length=N;rwa[XE]
 obtain⟨A,a0⟩:∃A:RS,Hd (A={f with st:=f.st.set 0 b}):=⟨_,W⟩
 rw[<-a0.aa]at Z F;go_wp2;refine dy (Se O H Y (λk=>match k with|0=>A|_=>{A with st:=A.st.set (q-1) v}) _ x<|sL g N cp) (λ_ _ _=>True) [(0,(pt H)),(1,(iI (J:Int))),(4,(iI (N:Int))),(6,(pt y1.heap.size))] (nV 45 [pt H,pt H,pq H 21,sL g N cp,iI (N:Int),iI (J:Int),iI (q:Int),iI (i:Int),wv v,pq g<|i*4]++[(none,.v undef)]) [10] [3,6,7,8,9] (tC 0 _ _ ⟨Z,z,HC⟩ (dO _ _).drew) (tC)
   ⟨(@λm x P hl K C E U=>by have r:DQ O H Y A _ x:=C.1;let⟨S,h2,h3,h4⟩:=r.cA (k:=q-1) (i:=i) (g:=g) (cp:=cp) v (by rw[F];have:=HI.aa;omega) (by rw[F];exact C.2.2);rw[F]at h4;exact mu (E W) (E W) h3<|U undef _ ⟨S,C.2.1.trans h2,h4⟩ AF (λ_=>W) W),AF⟩
   ⟨(@λk m x w V P hl K G C E U=>by
    cases(Yn.1 (G 0 10):k=0);exact dm (v:=(sL g N cp)) (E W) C.2.2<|kx U),(@λk m x w V P hl K G C E U=>by
    exact Ct (a:=J) (b:=q) (E W) a1 wq<|kx U),(@λk m x w V P hl K G C E U=>by
    exact Ig (a:=N) (b:=q) (c:=i) (E W) (E W) (by have:=HI.aa;omega) wq<|kx U),(@λk m x w V P hl K G C E U=>by
    cases(Yn.1 (G 0 10 W N0):k=0);have r:DQ O H Y A _ x:=C.1;let⟨c0,c1,c2,c3,_⟩:=r.aJ;exact dD (n:=v) (E W) c0 c1 c2 c3<|kx U),(@λk m x w V P hl K G C E U=>mA 4 (E W) (E W) a2<|kx U),AF⟩
   (nl W) (nl W) ?_
 intro gg r C _;replace Z:Hd (DQ O H Y {A with st:=A.st.set (q-1) v} _ r):=cV C.1;replace z:=cV C.2.1;replace HC:=cV C.2.2;clear C;simp only[n8,sx9];replace I:Hd (tr={A with st:=A.st.set (q-1) v}):=I.aa.trans (by rw[a0.aa]);rw[<-I.aa]at Z;replace Z:=cV Z.tail;clear I a0 HC;go_wp2;refine bI W W ⟨W,Z,z⟩
theorem wu(z:Int):IntKind.u64.wrap z=z%18446744073709551616:=R5
def td(R k:Nat):(cX R k).tdiv 9223372036854775808=cX R k/9223372036854775808:=Int.tdiv_eq_ediv_of_nonneg<|qP R k
def MY(R:Nat)(h:R<M):(IntKind.u64.wrap ((cX R 3).tdiv 9223372036854775808)==1)=decide (M<=2*R):=by rw[wu,td];unfold cX M at*;grind
def dbl0(R:Nat):IntKind.u64.wrap (2*cX R 0)=cX (2*R) 0:=by grind[wu,cX,Je]
def dbl1(R:Nat):IntKind.u64.wrap (IntKind.u64.wrap (2*cX R 1)+IntKind.u64.wrap ((cX R 0).tdiv 9223372036854775808))=cX (2*R) 1:=by rw[wu,wu,wu,td];grind[cX]
def dbl2(R:Nat):IntKind.u64.wrap (IntKind.u64.wrap (2*cX R 2)+IntKind.u64.wrap ((cX R 1).tdiv 9223372036854775808))=cX (2*R) 2:=by rw[wu,wu,wu,td];unfold cX;rw[LP,Li];omega
def dbl3(R:Nat):IntKind.u64.wrap (IntKind.u64.wrap (2*cX R 3)+IntKind.u64.wrap ((cX R 2).tdiv 9223372036854775808))=cX (2*R) 3:=by rw[wu,wu,wu,td];unfold cX;rw[Li,Ij];omega
def inc0(R:Nat):IntKind.u64.wrap (IntKind.u64.wrap (2*cX R 0)+1)=cX (2*R+1) 0:=by grind[wu,cX,Je]
def inck(R k:Nat)(E:1<=k)(C:k<4:=by omega):cX (2*R) k=cX (2*R+1) k:=by
 unfold cX;rcases k4 C with rfl|rfl|rfl|rfl
 .omega
 .omega
 .omega
 omega
def Sa{R:Nat}{t:Vr}{g:Vp}(h:x.rowIs b t 4 g)(C:D=2*R):(sC (sC (sC (sC x b 3<|iU<|IntKind.u64.wrap<|IntKind.u64.wrap (2*cX R 3)+IntKind.u64.wrap ((cX R 2).tdiv 9223372036854775808)) b 2<|iU<|IntKind.u64.wrap<|IntKind.u64.wrap (2*cX R 2)+IntKind.u64.wrap ((cX R 1).tdiv 9223372036854775808)) b 1<|iU<|IntKind.u64.wrap<|IntKind.u64.wrap (2*cX R 1)+IntKind.u64.wrap ((cX R 0).tdiv 9223372036854775808)) b 0<|iU<|IntKind.u64.wrap<|2*cX R 0).rowIs b t 4 (dz<|cX D):=by subst C;rw[dbl0,dbl1,dbl2,dbl3];refine((((h.set 3 _).set 2 _).set 1 _).set 0 _).congr λi E=>?_;rcases k4 E with rfl|rfl|rfl|rfl<;>rfl
def U5{R:Nat}{t:Vr}{g:Vp}(h:x.rowIs b t 4 g)(C:D=2*R+1):(sC (sC (sC (sC (sC x b 3<|iU<|IntKind.u64.wrap<|IntKind.u64.wrap (2*cX R 3)+IntKind.u64.wrap ((cX R 2).tdiv 9223372036854775808)) b 2<|iU<|IntKind.u64.wrap<|IntKind.u64.wrap (2*cX R 2)+IntKind.u64.wrap ((cX R 1).tdiv 9223372036854775808)) b 1<|iU<|IntKind.u64.wrap<|IntKind.u64.wrap (2*cX R 1)+IntKind.u64.wrap ((cX R 0).tdiv 9223372036854775808)) b 0<|iU<|IntKind.u64.wrap<|2*cX R 0) b 0<|iU<|IntKind.u64.wrap<|IntKind.u64.wrap (2*cX R 0)+1).rowIs b t 4 (dz<|cX D):=by
 subst C;rw[inc0,dbl1,dbl2,dbl3];refine(((((h.set 3 _).set 2 _).set 1 _).set 0 _).set 0 _).congr λi E=>?_;rcases k4 E with rfl|rfl|rfl|rfl
 .rfl
 .exact Xl (Value.int _) (inck R 1 wq)
 .exact Xl (Value.int _) (inck R 2 wq)
 exact Xl (Value.int _)<|inck R 3 wq
def dv_num{R:Nat}(C:R<b)(H:b<M)(E:t<=1)(G:D=2*R+t):(decide (M<=2*R)|| !iX D b)=decide (b<=D)/\(b<=D->ku (D%M) (b%M)=D-b)/\(¬b<=D->D%M=D):=by unfold iX ku M at*;grind
def DivOf(w:WD)(n b:Nat)(e:Ending)(w':WD):=∃q r:Nat,Hd (q=n/b)/\Hd (r=n%b)/\e=.returned (.tuple #[wv q,wv r])/\bW w w'
structure DVR(w:WD)(n b p L:Nat)(x:WD):Prop where
 rl:x.rowIs p 4 L (dY n.testBit)
 hp:p<w.heap.size
 rb:x.rowIs w.heap.size 24 4 (dz (cX b))
 r1:x.rowIs (w.heap.size+1) 24 4 (dz λ_=>0)
 r2:x.rowIs (w.heap.size+1+1) 24 4 (dz λ_=>0)
 be:Below w.heap.size w x
theorem DVR.set{L:Nat}(h:DVR w n b p L x){a:Addr}(ha:w.heap.size+1+1<a.block)(v:VL):DVR w n b p L (x.setCell a v):=⟨h.rl.setOther (by have:=h.hp;omega) _,h.hp,h.rb.setOther wq _,h.r1.setOther wq _,h.r2.setOther wq _,h.be.setCell wq _⟩
def DVR.call{L:Nat}(h:DVR w n b p L x)(C:bW x y):DVR w n b p L y:=⟨cY h.rl C,h.hp,cY h.rb C,cY h.r1 C,cY h.r2 C,eB h.be C⟩
def el(e:x'=sC (sC (sC (sC x b 0 v0) b 1 v1) b 2 v2) b 3 v3)(c:Nat)(C:c≠b:=by omega):x'.heap[c]?=x.heap[c]? :=by grind[Go.Deep.blk_setCell_other]
structure DZ(w:WD)(q R L:Nat)(x:WD):Prop where
 ro:x.rowIs (w.heap.size+1+1+1) 4 L (dY q.testBit)
 rr:x.rowIs (w.heap.size+1+1+1+1) 24 4 (dz (cX R))
 r1:∃f,x.rowIs (w.heap.size+1) 24 4 (dz f)
 r2:∃f,x.rowIs (w.heap.size+1+1) 24 4 (dz f)
 be:Below w.heap.size w x
def DZ.drew{R L:Nat}(h:DZ w q R L x):DZ w q R L x.drew:=⟨h.ro,h.rr,h.r1,h.r2,h.be.drew⟩
def DZ.call{R L:Nat}(h:DZ w q R L x)(C:bW x y):DZ w q R L y:=⟨cY h.ro C,cY h.rr C,h.r1.elim λf h=>⟨f,cY h C⟩,h.r2.elim λf h=>⟨f,cY h C⟩,eB h.be C⟩
def DZ.cO{R L:Nat}(h:DZ w q R L x)(C:x'.rowIs (w.heap.size+1) 24 4<|dz<|cX n)(e:x'=sC (sC (sC (sC x (w.heap.size+1) 0 v0) (w.heap.size+1) 1 v1) (w.heap.size+1) 2 v2) (w.heap.size+1) 3 v3):DZ w q R L x':=⟨h.ro.of_block<|el e _,h.rr.of_block<|el e _,⟨_,C⟩,h.r2.elim λf h=>⟨f,h.of_block<|el e _⟩,by subst e;exact bd h.be wq⟩
def DZ.cL{R L:Nat}(h:DZ w q R L x)(C:x'.rowIs (w.heap.size+1+1) 24 4<|dz<|cX n)(e:x'=sC (sC (sC (sC x (w.heap.size+1+1) 0 v0) (w.heap.size+1+1) 1 v1) (w.heap.size+1+1) 2 v2) (w.heap.size+1+1) 3 v3):DZ w q R L x':=⟨h.ro.of_block<|el e _,h.rr.of_block<|el e _,h.r1.elim λf h=>⟨f,h.of_block<|el e _⟩,⟨_,C⟩,by subst e;exact bd h.be wq⟩
def CT(n b p L c:Nat)(hL:L<=100000)(hn:Hd (∀j,L<=j->n.testBit j=false))(O:Hd<|b<M)(aA:Hd<|0<b)(w:WD)(hl:w.rowIs p 4 L<|dY n.testBit):
  Calls prog 246 #[.slice (some ⟨p,0,none⟩) L c,wv b] w (DivOf w n b):=by
 have hmk:=jA L wq;have HL:Hd _:=Nat.lt_pow_two_of_testBit n λi hi=>hn.aa i hi
 have hp:=hl.lt;go_enter func246,ntmps246;go_wp2
 go_loopw[8] (λF wr=>∃i R:Nat,i<=L/\F=.int .i64 ((i:Int)-1)/\DVR w n b p L wr/\wr.rowIs (w.heap.size+1+1+1) 4 L (dY λj=>if i<=j then(n/b).testBit j else false)/\
   wr.rowIs (w.heap.size+1+1+1+1) 24 4 (dz<|cX R)/\Hd (R=n/2^i%b))
   (λF _=>(RowKit.intOf F+1).toNat)
 case atStart=>
  refine⟨L,0,DO _,W,?_,?_,?_,?_⟩
  .refine⟨((((hl.alloc _).alloc _).alloc _).alloc _).alloc _,hp,((((de _ W W W W W).alloc _).alloc _).alloc _).alloc _,(((de (λ_=>0) K2 W W W W).alloc _).alloc _).alloc _,((de (λ_=>0) K2 W W W W).alloc _).alloc _,ai (ai (ai (ai (ai (dO _ _) _) _) _) _) _⟩
  .exact(bR K2 λj Y=>K9).alloc _
  .exact de _ K2 (dK 0).symm (dK 1).symm (dK 2).symm (dK 3).symm
  .show _=_;rw[Yc HL.aa,ZS]
 case round=>
  obtain⟨i,R,hi,rfl,r,C,E,HR⟩:=hrel;by_cases S:i=0
  .as_aux_lemma=>
   subst S;obtain⟨q,z⟩:=dP<|n/b;have HQH:Hd (∀j,L<=j->q.testBit j=false):=λj Y=>by rw[z.aa];exact oo (YD (YW _ _) HL.aa) Y
   have hz:DZ w q R L wr:=⟨C.congr λj Y=>by simp only[dY];rw[At<|In _,z.aa],E,⟨_,r.r1⟩,⟨_,r.r2⟩,r.be⟩;go_wp2
   refine jB Bl (λx=>dO _ x) (λk x=>DZ w q R L x/\(0<k->x.rowIs (w.heap.size+1) 24 4 (dz<|cX q))/\(1<k->x.rowIs (w.heap.size+1+1) 24 4 (dz<|cX R))) (λ_ _ _ _=>True) [(6,.slice (some ⟨w.heap.size+1+1+1,0,none⟩) L L),(4,.pointer _),(5,.pointer _),(7,.pointer _)] (nV 75 [.slice (some ⟨w.heap.size+1+1+1,0,none⟩) L L,wv q,wv R]++[(none,.v undef),(none,.v undef)]) [3,4] [1,2] [] K2 K2 ⟨hz.drew,λh=>absurd h wq,λh=>absurd h wq⟩ (λ_ _ _ h a=>⟨h.1.call a,λk=>cY (h.2.1 k) a,λk=>cY (h.2.2 k) a⟩)
    (swz W W W W (λ_ h=>h.1.r1) (λx y h e hr=>⟨h.1.cO hr e,λ_=>hr,λh=>absurd h wq⟩)<|swz W W W W (λ_ h=>h.1.r2) (λx y h e hr=>⟨h.1.cL hr e,λ_=>by subst e;exact eC (h.2.1 wq) _ _ _ _,λ_=>hr⟩) True.intro)
    ⟨(@λk s x _ _ _ _ K _ hph hv hK=>o6 @hv (lS q L _ L hL HQH x hph.1.ro) (λv x' h=>by obtain⟨e,a⟩:=h;cases ZH e;exact hK _ _ a nn1 W) (λl x' h=>by cases h.1)<|λx' h=>by cases h.1),(tu W W W (λ_ _ h=>h.1.rr) True.intro)⟩ (nl W) (nl W) ?_
   intro g x r _;simp only[n8,sx9];obtain⟨q0,q1,q2,q3⟩:=cW<|r.2.1 Nat.two_pos;obtain⟨r0,r1,r2,r3⟩:=cW<|r.2.2<|YS 1;go_wp2;exact sp (by simp[results,results246,go_sem,q0,q1,q2,q3,r0,r1,r2,r3]) W ⟨q,R,z,(by show _=_;rw[HR.aa,Z7,qah]:Hd<|R=n%b),W,r.1.be⟩
  .obtain⟨m,rfl⟩:∃m,i=m+1:=⟨i-1,wq⟩;rw[show(((m+1:Nat):Int)-1)=m by omega];have cl:=r.rl.cell (i:=m) wq;simp only[dY]at cl;have HB:Hd (R<b):=by show _<_;rw[HR.aa];exact Xs _ aA.aa
   obtain⟨⟨g0,g1,g2,g3⟩,fz⟩:=Fa E;have HV:=QR n b m aA.aa;rw[<-HR.aa]at HV;obtain⟨hv,HH⟩:∃h,Hd (h=decide (M<=2*R)):=⟨_,W⟩;have HG:Hd _:=(MY R<|Nat.lt_trans HB.aa O.aa).trans HH.aa.symm;obtain⟨t,I⟩:∃t:Nat,Hd (t=if n.testBit m then 1 else 0):=⟨_,W⟩;obtain⟨D,d⟩:=dP<|2*R+t;rw[<-I.aa,<-d.aa]at HV;have Z:Hd _:=HV
   have o:Hd ((hv|| !iX D b)=decide (b<=D)/\(b<=D->ku (D%M) (b%M)=D-b)/\(¬b<=D->D%M=D)):=by
    have h:=dv_num HB.aa O.aa (by rw[I.aa];split<;>omega) d.aa;rwa[<-HH.aa]at h
   go_upto_if 56 with fail
   go_cut[9] (λt9 A=>t9=.bool hv/\DVR w n b p L A/\A.rowIs (w.heap.size+1+1+1) 4 L (dY λj=>if m+1<=j then(n/b).testBit j else false)/\A.rowIs (w.heap.size+1+1+1+1) 24 4 (dz<|cX D))
   case first=>
    as_aux_lemma=>
    cases hc:n.testBit m
    .rw[hc]at cl I;have H:Hd (D=2*R):=d.aa.trans (by rw[I.aa];rfl);go_wp2_with fail
     go_meet
     case rel=>
      exact⟨Xl _ HG.aa,(((r.set K2 _).set K2 _).set K2 _).set K2 _,(((C.setOther K2 _).setOther K2 _).setOther K2 _).setOther K2 _,Sa E H.aa⟩
    .rw[hc]at cl I;have H:Hd (D=2*R+1):=d.aa.trans (by rw[I.aa];rfl);go_wp2_with fail
     go_meet
     case rel=>
      exact⟨Xl _ HG.aa,((((r.set K2 _).set K2 _).set K2 _).set K2 _).set K2 _,((((C.setOther K2 _).setOther K2 _).setOther K2 _).setOther K2 _).setOther K2 _,U5 E H.aa⟩
   case rest=>
    as_aux_lemma=>
    obtain⟨rfl,r,C,E⟩:=hcut;obtain⟨g0,g1,g2,g3⟩:=cW E;obtain⟨b0,b1,b2,b3⟩:=cW r.rb;go_wp2_with fail
    refine(jz D b _).mono ?_;rintro e w1⟨rfl,a⟩;replace r:=r.call a;replace C:=cY C a;replace E:=cY E a;obtain⟨g0,g1,g2,g3⟩:=cW E;obtain⟨b0,b1,b2,b3⟩:=cW r.rb;have fo:=C.frozen m;have co:=C.cell (i:=m) wq;obtain⟨lt,T⟩:∃l,Hd (l=iX D b):=⟨_,W⟩;rw[<-T.aa]at o⊢;have V:∀u:WD,u.rowIs (w.heap.size+1+1+1) 4 L _->b<=D->(u.setCell _ _).rowIs _ 4 L (dY λj=>if m<=j then(n/b).testBit j else false):=λu hW N=>KM hW<|by rw[Z.aa.1,OsQ N]
    have P:Hd _:=V
    have U:(hv=true\/lt=false)->b<=D:=λh=>by
     have h1:=o.aa.1;rcases h with rfl|rfl
     .exact Xd (h1.symm.trans K2)
     .exact Xd (h1.symm.trans K2)
    have Q:hv=false->lt=true->¬b<=D:=λh f=>by
     subst h f;exact of_decide_eq_false<|(o.aa.1).symm.trans K2
    have X:Hd _:=U;have J:Hd _:=Q;cases hv<;>cases lt
    all_goals first
     |have G:Hd (¬b<=D):=J.aa W W
      go_wp2
      go_roundw
      case rel=>
       refine⟨m,D,wq,W,r,C.congr λj Y=>?_,E,?_⟩
       .simp only[dY];by_cases h:m+1<=j
        .rw[At h,AV]
        .rw[iF h];by_cases f:m<=j
         .obtain rfl:j=m:=wq
          rw[At f,Z.aa.1,W8 G.aa]
         .rw[iF f]
       .show _=_;rw[Z.aa.2.1,iF G.aa]
      case measure=>simp[RowKit.intOf]
     |have G:Hd (b<=D):=X.aa K2
      go_wp2_with fail
      refine(pP D b _).mono ?_;rintro e w2⟨s,HS,rfl,a⟩;replace r:=r.call a;replace C:=cY C a;replace E:=cY E a;obtain⟨⟨g0,g1,g2,g3⟩,fz⟩:=Fa E;have fo:=C.frozen m;have co:=C.cell (i:=m) wq;go_wp2
      go_roundw
      case rel=>
       refine⟨m,s,wq,W,(((((r.set K2 _).set K2 _).set K2 _).set K2 _)).set K2 _,P.aa _ ((((C.setOther K2 _).setOther K2 _).setOther K2 _).setOther K2 _) G.aa,(di E _ W W W W).setOther K2 _,?_⟩;show _=_;rw[HS.aa,o.aa.2.1 G.aa,Z.aa.2.1,At G.aa]
      case measure=>simp[RowKit.intOf]
end
def RY(a b:Nat)(ha:a<2^n)(D:b<2^n)(C:n+n<=j):(a*b).testBit j=false:=by refine oo ?_ C;rw[Yw];exact Nat.mul_lt_mul'' ha D
def hi512(E:r=a*b)(ha:a<M)(D:b<M):Hd (∀j,512<=j->r.testBit j=false):=λ_ C=>by rw[E];exact RY a b (xZ ha).aa (xZ D).aa wq
def lX(a b:Nat)(w:WD):cP 213 #[wv a,wv b] w (M0 w 512<|a%M*(b%M)):=by rw[<-jJ a,<-jJ b];exact zv (Xs _ jm) (Xs _ jm) w
def wD(r a b:Nat)(C:Hd<|r=a%M*(b%M)):Hd (∀j,512<=j->r.testBit j=false):=hi512 C.aa (Xs _ jm)<|Xs _ jm
structure PWR(w:WD)(a b p r:Nat)(x:WD):Prop where
 ra:x.rowIs w.heap.size 24 4 (dz (cX a))
 rz:x.rowIs (w.heap.size+1+1) 24 4 (dz λ_=>0)
 rl:x.rowIs p 4 256 (dY b.testBit)
 hp:p<r
 hr:w.heap.size+1+1<r
 be:Below w.heap.size w x
def PWR.call(h:PWR w a b p r x)(C:bW x y):PWR w a b p r y:=⟨cY h.ra C,cY h.rz C,cY h.rl C,h.hp,h.hr,eB h.be C⟩
theorem PWR.put(h:PWR w a b p r x)(H G E v3:VL):PWR w a b p r (sC (sC (sC (sC x r 0 H) r 1 G) r 2 E) r 3 v3):=by have D:=h.hp;have C:=h.hr;exact⟨h.ra.of_block<|el W _,h.rz.of_block<|el W _,h.rl.of_block<|el W _,D,C,bd h.be wq⟩
def pw_sq{r s:Nat}(D:p%M=a^(b/2^(i+1))%M)(D:s=p%M*(p%M))(C:b.testBit i=false):s%M=a^(b/2^i)%M:=by grind[JJ,Nat.mul_mod]
def pw_sqm{r s:Nat}(E:p%M=a^(b/2^(i+1))%M)(G:s=p%M*(p%M))(C:t=s%M*(a%M))(D:b.testBit i=true):t%M=a^(b/2^i)%M:=by rw[JJ a b i,D,C,G,E,At W];simp
def Qr(hz:b/2^(i+1)=0)(D:p%M=a^(b/2^(i+1))%M)(C:b.testBit i=false):b/2^i=0/\p%M=a^(b/2^i)%M:=by grind[my]
def NZ(hz:b/2^(i+1)=0)(G:p%M=a^(b/2^(i+1))%M)(D:t=p%M*(a%M))(C:b.testBit i=true):t%M=a^(b/2^i)%M:=by
 have E:=my b i;rw[C,hz]at E;have e:b/2^i=1:=by simpa using E
 rw[hz,Z7]at G;simp_all
def pw_one(b i:Nat)(C:b.testBit i=true):b/2^i≠0:=K9
def pw_on(b i:Nat)(h:b/2^(i+1)≠0):b/2^i≠0:=by have C:=my b i;omega
def Fv(R:Hd<|b<M)(w:WD):cP 215 #[wv a,wv b] w (lI w<|vL a b):=by
 have l:=SS.start w a b;go_enter func215,ntmps215;go_wp2_with fail
 refine(gw b _).mono ?_;rintro e z⟨p,rfl,_,D,k⟩;replace l:=l.call k;go_wp2_with fail
 refine(dx 1 wq _).mono ?_;rintro e X⟨o,h,rfl,k⟩;replace l:=l.call k;replace D:=cY D k;have c:PWR w a b p _ (X.alloc<|.cells #[lu o 0,lu o 1,lu o 2,lu o 3] 24):=⟨l.ra.alloc _,l.rz.alloc _,D.alloc _,D.lt,l.rz.lt,ai l.be _⟩
 have C:(X.alloc _).rowIs _ 24 4 _:=de (cX o) W W W W W;go_wp2;generalize X.heap.size=r at*;go_loopw[7,8] (λQ U wr=>∃i q:Nat,i<=256/\U=iI ((i:Int)-1)/\Q=.bool (decide (b/2^i≠0))/\PWR w a b p r wr/\wr.rowIs r 24 4 (dz<|cX q)/\Hd (q%M=a^(b/2^i)%M))
   (λ_ U _=>(RowKit.intOf U+1).toNat)
 case atStart=>
  have e:b/2^256=0:=Yc R.aa;refine⟨256,o,wq,W,?_,c,C,?_⟩
  .grind
  show _=_;rw[e,h.aa];rfl
 obtain⟨i,q,c,rfl,rfl,l,C,I⟩:=hrel;by_cases P:i=0
 .as_aux_lemma=>subst P;let⟨v,c1,c2,c3⟩:=cW C;have J:=l.rz;have d:=l.be;let⟨⟨x0,c,K,S⟩,Y⟩:=Fa J;go_wp2;refine gY (di J<|cX q) (dZ (by rw[I.aa,Z7,qah];grind[vL]) ?_);grind[bd]
 obtain⟨m,rfl⟩:∃m,i=m+1:=⟨i-1,wq⟩
 rw[show(((m+1:Nat):Int)-1)=m by omega];let⟨t,L⟩:=dP<|decide (b/2^(m+1)≠0);rw[<-L.aa];have cl:=l.rl.cell (i:=m) wq;simp only[dY]at cl;go_upto_if 16 with fail;go_cut[7] (λQ Z=>∃s:Nat,Q=.bool t/\PWR w a b p r Z/\Z.rowIs r 24 4 (dz<|cX s)/\Hd (if t then s=q%M*(q%M)else s=q));case first=>
  as_aux_lemma=>
  cases t
  .go_wp2_with fail
   go_meet;case rel=>exact⟨q,W,l,C,W⟩
  let⟨v,c1,c2,c3⟩:=cW C;go_wp2_with fail
  refine(lX q q _).mono ?_;rintro e g⟨O,s,E,rfl,_,G,k⟩;replace l:=l.call k;replace C:=cY C k;go_wp2_with fail
  refine(lS s _ O _ wq (wD s q q E) _ G).mono ?_;rintro e f⟨rfl,k⟩;replace l:=l.call k;replace C:=cY C k;let⟨⟨v,c1,c2,c3⟩,Y⟩:=Fa C;go_wp2_with fail
  go_meet;case rel=>exact⟨s,W,l.put _ _ _ _,di C _ W W W W,E⟩
 as_aux_lemma=>
 obtain⟨s,rfl,l,C,E⟩:=hcut;have cl:=l.rl.cell (i:=m) wq;simp only[dY]at cl;cases c:b.testBit m
 .rw[c]at cl;have H:Hd _:=c;go_wp2;go_roundw;case rel=>
   cases t
   .obtain⟨T,A⟩:=Qr (by have:=L.aa.symm;simpa using this:b/2^(m+1)=0) I H;have e:s=q:=E.aa;grind
   exact⟨m,s,wq,W,by rw[OsQ<|pw_on b m (by have:=L.aa.symm;simpa using this:b/2^(m+1)≠0)],l,C,pw_sq (r:=0) I E H⟩
  simp_all[measure,RowKit.intOf]
 rw[c]at cl;have H:Hd _:=c;let⟨v,c1,c2,c3⟩:=cW C;let⟨c,F,N,a3⟩:=cW l.ra;go_wp2_with fail
 refine(lX s a _).mono ?_;rintro e g⟨O,u,V,rfl,_,G,k⟩;replace l:=l.call k;replace C:=cY C k;go_wp2_with fail
 refine(lS u _ O _ wq (wD u s a V) _ G).mono ?_;rintro e f⟨rfl,k⟩;replace l:=l.call k;replace C:=cY C k;let⟨⟨v,c1,c2,c3⟩,Y⟩:=Fa C;go_wp2;go_roundw;case rel=>
  refine⟨m,u,wq,W,by rw[OsQ<|pw_one b m H],l.put _ _ _ _,di C _ W W W W,?_⟩;cases t
  .exact NZ (by have:=L.aa.symm;simpa using this:b/2^(m+1)=0) I (by rw[V.aa,E.aa]) H
  exact pw_sqm (r:=0) I E V H
 simp_all[measure,RowKit.intOf]
def GU(a b:Nat)(w:WD):cP 215 #[wv a,wv b] w (lI w<|vL (a%M)<|b%M):=by rw[<-jJ a,<-jJ b];exact Fv (Xs _ jm) w
def AGQ(b p:Nat)(r:Nat){n:Int}{dQ:Bool}(U: -256<=n)(Q:n<=256)(o:Hd (∀i,i<256->r.testBit i=IA b n dQ i))(P:Hd<|r<M)(m:w.rowIs p 4 256<|dY b.testBit):cP 249 #[sL p 256 c,iI n,.bool dQ] w (lI w r):=by
 have O:=jA 256 wq;simp at O;have l:=m.lt;go_enter func249,ntmps249;go_wp2;go_loopw[8] (λL wr=>∃i:Nat,i<=256/\L=iI i/\wr.rowIs w.heap.size 24 4 (dz λ_=>0)/\wr.rowIs (w.heap.size+1) 4 256 (dY λj=>if j<i then r.testBit j else false)/\bW w wr)
   (λL _=>256-nI L)
 case atStart=>exact⟨0,wq,W,(de (λ_=>0) W W W W W).alloc _,bR K2 λj _=>K2,ai (ai (dO _ _) _) _⟩
 obtain⟨i,l,rfl,D,E,C⟩:=hrel;by_cases H:i<256
 .have R:decide ((i:Int)<256)=true:=K9
  have l:=E.frozen i;have co:=E.cell wq;have l:=o.aa i H;by_cases X:0<=(i:Int)-n
  .by_cases d:(i:Int)-n<256
   .obtain⟨k,hk⟩:∃k:Nat,i-n=k:=⟨(i-n).toNat,wq⟩
    have I:k<256:=wq
    have G:Hd (r.testBit i=b.testBit k):=by show _=_;grind[IA]
    have cl:=(cY m C).cell I;simp only[dY]at cl;go_wp2;go_roundw;case rel=>
     refine⟨i+1,wq,N1,(D.setOther K2 _).setOther K2 _,?_,kr (kr C K2) K2⟩;refine((E.set i _).set i _).congr λj _=>?_;simp only[dY];by_cases e:j=i
     .subst e;simp[G.aa]
     grind
    grind[nI]
   have G:Hd (dQ=r.testBit i):=by show _=_;grind[IA]
   go_wp2;go_roundw;case rel=>exact⟨_,wq,N1,D.setOther K2 _,jQ E G,kr C K2⟩
   grind[nI]
  have G:Hd (dQ=r.testBit i):=by show _=_;grind[IA]
  go_wp2;go_roundw;case rel=>exact⟨_,wq,N1,D.setOther K2 _,jQ E G,kr C K2⟩
  grind[nI]
 cases(wq:i=256)
 have J:wr.rowIs _ 4 _ (dY r.testBit):=E.congr λj g=>by grind[dY]
 go_wp2_with fail
 refine(lS r _ _ _ wq (vp P.aa) _ J).mono ?_;rintro e V⟨rfl,l⟩;replace D:=cY D l;replace C:=eB C l;let⟨⟨x0,h,f,Y⟩,Z⟩:=Fa D;go_wp2;refine gY (di D<|cX r)<|dZ W ?_;grind[bd]
def JF:(a ^^^ b).testBit i=(a.testBit i !=b.testBit i):=K2
structure BW(w:WD)(a b p q r:Nat)(x:WD):Prop where
 rp:x.rowIs p 4 256 (dY a.testBit)
 rq:x.rowIs q 4 256 (dY b.testBit)
 rz:x.rowIs (w.heap.size+1+1) 24 4 (dz λ_=>0)
 hp:p<r
 hq:q<r
 hz:w.heap.size+1+1<r
 be:Below w.heap.size w x
def BW.call(h:BW w a b p q r x)(C:bW x y):BW w a b p q r y:=⟨cY h.rp C,cY h.rq C,cY h.rz C,h.hp,h.hq,h.hz,eB h.be C⟩
theorem BW.set(h:BW w a b p q r x)(j:Nat)(v:VL):BW w a b p q r (x.setCell ⟨r,j,none⟩ v):=by have D:=h.hp;have C:=h.hq;have E:=h.hz;exact⟨h.rp.setOther K9 _,h.rq.setOther K9 _,h.rz.setOther K9 _,D,C,E,kr h.be K9⟩
def BW.drew(h:BW w a b p q r x):BW w a b p q r x.drew:=⟨h.rp,h.rq,h.rz,h.hp,h.hq,h.hz,h.be.drew⟩
def pK{J:Int}{R:Nat}(a b:Nat)(X:Hd<|R<M)(h:(J=22/\Hd (∀i,i<256->R.testBit i=(a.testBit i&&b.testBit i)))\/(J=23/\Hd (∀i,i<256->R.testBit i=(a.testBit i||b.testBit i)))\/(J=25/\Hd (∀i,i<256->R.testBit i= !a.testBit i))\/J=24/\Hd (∀i,i<256->R.testBit i=(a.testBit i !=b.testBit i)))(w:WD):cP 216 #[iB J,wv a,wv b] w (lI w R):=by
 rcases h with⟨rfl,T⟩|⟨rfl,T⟩|⟨rfl,T⟩|⟨rfl,T⟩;all_goals
  have Q:=jA 256 wq;simp only[YP]at Q;have l:=SS.start w a b;go_enter func216,ntmps216;go_wp2_with fail
  refine(gw a _).mono ?_;rintro e V⟨p,rfl,_,C,S⟩;replace l:=l.call S;let⟨K,c1,c2,c3⟩:=cW l.rb;go_wp2_with fail
  refine(gw b _).mono ?_;rintro e A⟨q,rfl,_,E,S⟩;replace l:=l.call S;replace C:=cY C S;let⟨K,c1,c2,c3⟩:=cW l.ra;go_wp2_with fail
  refine(ij a 256 wq _).mono ?_;rintro e I⟨rfl,S⟩;replace l:=l.call S;replace C:=cY C S;replace E:=cY E S;have K:BW w a b p q I.heap.size (I.alloc<|.cells (madeCells #[.bool false] 256) 4):=⟨C.alloc _,E.alloc _,l.rz.alloc _,C.lt,E.lt,l.rz.lt,ai l.be _⟩
  have D:(I.alloc<|.cells (madeCells #[.bool false] 256) 4).rowIs I.heap.size 4 256 (dY λ_=>false):=bR W λj _=>W;go_wp2;generalize I.heap.size=r at*;go_loopw[12] (λH wr=>∃i:Nat,i<=256/\H=iI i/\BW w a b p q r wr/\wr.rowIs r 4 256 (dY λj=>if j<i then R.testBit j else false))
    (λH _=>256-nI H)
  case atStart=>grind
  obtain⟨i,K,rfl,l,D⟩:=hrel;by_cases G:i<256
  .have Z:decide ((i:Int)<256)=true:=K9
   have K:=D.frozen i;have co:=D.cell (i:=i) wq;have d:=l.rp.cell G;have Y:=l.rq.cell G;simp only[dY]at d Y;have U:Hd _:=T.aa i G;first
   |generalize a.testBit i=u at*
    generalize b.testBit i=v at*;cases u<;>cases v
    all_goals go_wp2
    all_goals go_roundw
    all_goals first
     |exact⟨i+1,wq,N1,l.set _ _,jQ D (by rw[U.aa];rfl)⟩
     |grind[nI]
   |go_wp2
    go_region;all_goals go_wp2
    all_goals go_roundw
    case rel=>exact⟨_,wq,N1,(l.set _ _).drew,(jQ D U.symm).drew⟩
    grind[nI]
  cases(wq:i=256)
  have P:wr.rowIs r 4 256 (dY R.testBit):=D.congr λj o=>by grind[dY]
  go_wp2_with fail
  refine(lS R 256 r 256 wq (vp X) _ P).mono ?_;rintro e V⟨rfl,S⟩;replace l:=l.call S;have L:=l.rz;have O:=l.be;let⟨⟨x0,z,m,f⟩,g⟩:=Fa L;go_wp2;refine gY (di L<|cX R)<|dZ W ?_;exact bd O wq
def Ky(a b:Nat)(ha:Hd<|a<M)(J:Hd<|b<M)(w:WD):cP 216 #[iB 26,wv a,wv b] w (lI w<|nj a b):=by
 let⟨R,O⟩:=dP<|nj a b;have V:=jA 256 wq;simp at V;have l:=SS.start w a b;go_enter func216,ntmps216;go_wp2_with fail
 refine(gw a _).mono ?_;rintro e X⟨p,rfl,_,C,u⟩;replace l:=l.call u;let⟨K,c1,c2,c3⟩:=cW l.rb;go_wp2_with fail
 refine(gw b _).mono ?_;rintro e T⟨q,rfl,_,G,u⟩;replace l:=l.call u;replace C:=cY C u;let⟨K,c1,c2,c3⟩:=cW l.ra;go_wp2_with fail
 refine(ij a 256 wq _).mono ?_;rintro e U⟨rfl,u⟩;replace l:=l.call u;replace C:=cY C u;replace G:=cY G u;have K:BW w a b p q _ (U.alloc<|.cells (madeCells #[.bool false] 256) 4):=⟨C.alloc _,G.alloc _,l.rz.alloc _,C.lt,G.lt,l.rz.lt,ai l.be _⟩
 have D:(U.alloc _).rowIs _ 4 256 _:=bR W λj _=>W;by_cases I:a<32
 .have e:ec a 256=a:=by grind[ec]
  rw[e];go_wp2;generalize U.heap.size=r at*;go_loopw[11] (λH wr=>∃i:Nat,i<=8/\H=iI i/\BW w a b p q r wr/\wr.rowIs r 4 256 (dY λj=>if j<i then R.testBit j else false))
    (λH _=>8-nI H)
  case atStart=>grind
  obtain⟨i,F,rfl,l,D⟩:=hrel;by_cases P:i<8
  .have o:decide ((i:Int)<8)=true:=K9
   have F:=D.frozen i;have co:=D.cell (i:=i) wq;obtain⟨k,F⟩:∃k:Nat,8*(31-a)+i=(k:Int):=⟨8*(31-a)+i,wq⟩
   have d:Hd (b.testBit k=R.testBit i):=by show _=_;rw[O.aa,Al a b i I J.aa wq,OsQ P,YG];grind
   have f:=l.rq.cell (i:=k) wq;simp only[dY]at f;go_wp2;go_roundw;case rel=>exact⟨_,wq,N1,l.set _ _,jQ D d⟩
   grind[nI]
  cases(wq:i=8)
  have Q:wr.rowIs r 4 _ (dY R.testBit):=D.congr λj z=>by
   simp only[dY];by_cases h:j<8
   .grind
   rw[iF h,O.aa,Al a b j I J.aa z,W8 h,Bool.false_and]
  go_wp2_with fail
  refine(lS R _ r _ wq (vp (by show _<_;rw[O.aa];exact Pv:Hd<|R<M).aa) _ Q).mono ?_;rintro e X⟨rfl,u⟩;replace l:=l.call u;have E:=l.rz;have L:=l.be;let⟨⟨x0,A,m,Y⟩,Z⟩:=Fa E;go_wp2;refine gY (di E<|cX R) (dZ (by rw[O.aa]) ?_);grind[bd]
 have S:31<ec a 256:=by unfold ec;rw[WZ ha.aa];split<;>omega
 have l:=K;generalize ec a 256=n at*;go_wp2_with fail
 refine(dx 0 wq _).mono ?_;rintro e X⟨s,g,rfl,u⟩;replace l:=l.call u;have E:=l.rz;have L:=l.be;let⟨⟨x0,A,m,Y⟩,Z⟩:=Fa E;go_wp2;refine gY (di E<|cX s) (dZ (by rw[g.aa,(by show _=_;unfold nj;rw[iF I]:Hd<|nj a b=0).aa]) ?_);grind[bd]
def BQ{J:Int}{R:Nat}(a b:Nat)(Q:Hd<|R<M){n:Int}{H:Bool}(U:Hd (∀i,i<256->R.testBit i=IA b n H i))(h:(J=27/\n=ec a 256/\H=false)\/(J=28/\n= -(ec a 256:Int)/\H=false)\/J=29/\n= -(ec a 256:Int)/\H=b.testBit 255)(w:WD):cP 216 #[iB J,wv a,wv b] w (lI w R):=by
 have X:ec a 256<=256:=by grind[ec]
 rcases h with⟨rfl,rfl,rfl⟩|⟨rfl,rfl,rfl⟩|⟨rfl,rfl,rfl⟩;all_goals
  have I:=jA 256 wq;simp at I;have j:=SS.start w a b;go_enter func216,ntmps216;go_wp2_with fail
  refine(gw a _).mono ?_;rintro e O⟨p,rfl,_,D,l⟩;replace j:=j.call l;let⟨m,c1,c2,c3⟩:=cW j.rb;go_wp2_with fail
  refine(gw b _).mono ?_;rintro e g⟨q,rfl,_,C,l⟩;replace j:=j.call l;replace D:=cY D l;let⟨m,c1,c2,c3⟩:=cW j.ra;go_wp2_with fail
  refine(ij a 256 wq _).mono ?_;rintro e P⟨rfl,l⟩;replace j:=j.call l;replace D:=cY D l;replace C:=cY C l;have m:BW w a b p q _ (P.alloc<|.cells (madeCells #[.bool false] 256) 4):=⟨D.alloc _,C.alloc _,j.rz.alloc _,D.lt,C.lt,j.rz.lt,ai j.be _⟩
  have j:=m;have C:=m.rq;generalize ec a 256=n at*;have G:=C.cell (i:=255) wq;simp only[dY]at G;go_wp2_with fail
  refine(AGQ b q R wq wq U Q C).mono ?_;rintro e O⟨s,V,rfl,l⟩;replace j:=j.call l;have E:=j.rz;have L:=j.be;let⟨⟨x0,f,d,Y⟩,Z⟩:=Fa E;go_wp2;refine gY (di E<|cX s) (dZ (by rw[V.aa]) ?_);grind[bd]
section
variable {P:Program}
def aQ(s:Act)(k:Nat):VL:=s.tmps.getD k undef
end
abbrev uB(p:Nat):VL:=pt p
def Two(x:WD)(u v:VL):=(∀p,u=uB p->p<x.heap.size)/\(∀p,v=uB p->p<x.heap.size)/\∀p q,u=uB p->v=uB q->p≠q
structure RC(w:WD)(a b c:Nat)(x:WD):Prop where
 ra:x.rowIs w.heap.size 24 4 (dz (cX a))
 rb:x.rowIs (w.heap.size+1) 24 4 (dz (cX b))
 rc:x.rowIs (w.heap.size+1+1) 24 4 (dz (cX c))
 rz:x.rowIs (w.heap.size+1+1+1) 24 4 (dz λ_=>0)
 be:Below w.heap.size w x
def RC.call{x:WD}(h:RC w a b c x)(C:bW x y):RC w a b c y:=⟨cY h.ra C,cY h.rb C,cY h.rc C,cY h.rz C,eB h.be C⟩
def RC.alloc{x:WD}(h:RC w a b c x)(o:Obj):RC w a b c (x.alloc o):=⟨h.ra.alloc _,h.rb.alloc _,h.rc.alloc _,h.rz.alloc _,ai h.be _⟩
theorem RC.put{x:WD}(h:RC w a b c x)(C:w.heap.size+1+1+1<p)(e:x'=sC (sC (sC (sC x p 0 v0) p 1 v1) p 2 v2) p 3 v3):RC w a b c x':=⟨h.ra.of_block<|el e _,h.rb.of_block<|el e _,h.rc.of_block<|el e _,h.rz.of_block<|el e _,by subst e;exact bd h.be wq⟩
def RC.start(w:WD)(a b c:Nat):RC w a b c (aC (aC (aC (aC w (lW a) 24) (lW b) 24) (lW c) 24) #[iU 0,iU 0,iU 0,iU 0] 24):=⟨de (cX a) W W W W W |>.alloc _ |>.alloc _ |>.alloc _,de (cX b) K2 rfl rfl rfl rfl |>.alloc _ |>.alloc _,de (cX c) K2 rfl rfl rfl rfl |>.alloc _,de (λ_=>0) K2 W W W W,ai (ai (ai (ai (dO _ _) _) _) _) _⟩
def MA{L:Nat}(J:L<=100000)(hn:Hd (∀j,L<=j->n.testBit j=false))(D:Hd<|b<M)(U:Hd<|0<b)(V:Hd<|q=n/b)(X:Hd<|r=n%b)(u:VL)(x:WD)(O:SliceOf L n u x):cP 246 #[u,wv b] x (L2 (.tuple #[wv q,wv r]) x):=by obtain⟨H,Y,c1,I,rfl,E⟩:=O;obtain rfl:=I.aa;refine(CT Y b H L c1 J hn D U x E).mono ?_;rintro e y⟨Q,P,G,C,rfl,U⟩;exact⟨by rw[V.aa,X.aa,G.aa,C.aa],U⟩
def prodS(m n:Nat)(x:WD):cP 213 #[wv m,wv n] x (H3 512 (m%M*(n%M)) x):=(lX m n x).mono λe y h=>by obtain⟨b,r,E,rfl,_,C,D⟩:=h;exact⟨_,W,⟨b,r,512,E,W,C⟩,D⟩
def nX{y:Nat}{J:Int}(h:(J=4\/J=5\/J=6\/J=7)/\b=y\/(J=8\/J=9)/\c=y)(C:y=0):cP 214 #[iB J,wv a,wv b,wv c] w (lI w 0):=by
 have U:decide (y%M=0)=true:=OsQ (by rw[C];rfl);clear C;rcases h with⟨rfl|rfl|rfl|rfl,rfl⟩|⟨rfl|rfl,rfl⟩;all_goals
  have Q:=RC.start w a b c;go_enter func214,ntmps214;go_wp2_with fail
  refine(je _ _).mono ?_;rintro e E⟨rfl,P⟩;replace Q:=RC.call (RC.alloc Q _) P;rw[U];clear P;go_wp2_with fail
  refine(dx 0 wq _).mono ?_;rintro e O⟨s,D,rfl,P⟩;let⟨⟨x0,L,I,G⟩,H,U⟩:=qN s (cY Q.rz P)<|eB Q.be P;clear P;go_wp2;exact gY (U _ W).1<|dZ (by rw[D.aa]) (U _ W).2
theorem RC.set(x:WD)(p:Addr)(v:VL)(C:w.heap.size+1+1+1<p.block)(h:RC w a b c x):RC w a b c (x.setCell p v):=⟨h.ra.setOther wq _,h.rb.setOther wq _,h.rc.setOther wq _,h.rz.setOther wq _,h.be.setCell wq _⟩
def wb{J:Int}{y v:Nat}(ha:Hd<|a<M)(G:Hd<|b<M)(w:WD)(h:J=4/\b=y/\a=n/\v=n/y\/J=6/\b=y/\a=n/\v=n%y\/J=8/\c=y/\a+b=n/\v=n%y\/J=9/\c=y/\a%M*(b%M)=n/\v=n%y)(hz:y≠0)(H:Hd<|y<M):cP 214 #[iB J,wv a,wv b,wv c] w (lI w v):=by
 have m:decide (y%M=0)=false:=W8 (by rw[WZ H.aa];exact hz);have I:Hd (0<y):=Z0 hz;let⟨q,C⟩:=dP<|n/y;let⟨r,E⟩:=dP<|n%y;rw[<-C.aa,<-E.aa]at h;clear hz;rcases h with⟨rfl,rfl,rfl,rfl⟩|⟨rfl,rfl,rfl,rfl⟩|⟨rfl,rfl,rfl,rfl⟩|⟨rfl,rfl,rfl,rfl⟩;all_goals
  have d:=RC.start w a b c;go_enter func214,ntmps214;go_wp2_with fail
  refine(je _ _).mono ?_;rintro e L⟨rfl,j⟩;replace d:=RC.call (RC.alloc d _) j;rw[m];clear j m;go_wp2
 refine qq (Jq9:=RC w a b c) (N:=w.heap.size+1+1+1) (D:=[(5,.pointer _),(6,.pointer _)]) (es:=[(some 33,.v<|wv a),(some 34,.l<|sh 256 a),(some 35,.v<|wv b),(some 36,.v<|.tuple #[wv v,wv r]),(some 32,.v<|.tuple #[wv v,wv r]),(some 37,.v<|wv v),(some 38,.v<|wv r),(some 11,.l<|o0 24 4 (w.heap.size+1+1+1) 0 v),(some 12,.l<|o0 24 4 (w.heap.size+1+1+1) 1 r),(none,.v undef),(none,.v undef)]) (P:=[9,10]) (loads:=[0,1,2,3]) (news:=[7,8]) [(11,24,4,v),(12,24,4,r)] W W d (λ_ _ h j=>h.call j)
  (L1 W W W W W N0 RC.set<|L1 W W W W W N0 RC.set True.intro)
  (tu W W W (λ_ _ h=>h.ra)<|cl W W W (wB a)<|tu W W W (λ_ _ h=>h.rb)<|c1v (t:=34) (A:=λu=>#[u,wv b]) W W W W (A4 ⟨_,W,N0⟩) (λ_ _=>N0) (MA wq (vp ha.aa) H I C E) True.intro)
  (Uf W W W (λ_ _ h=>h.rz.lt)<|Uf W W W (λ_ _ h=>h.rz.lt) True.intro)
  (loU<|aIn L0<|aIn (Wy W W)<|aIn (Wy W W) True.intro) ?_
 intro g x d m _;let⟨p,f,e,K,S,o⟩:=m 7 _ _ W;generalize z:g 8=T;rotate_left;refine qq (Jq9:=RC w a b c) (N:=w.heap.size+1+1+1) (D:=[(5,.pointer _),(6,.pointer _),(7,.pointer _)]) (es:=[(some 43,.v<|wv a),(some 44,.l<|sh 256<|a),(some 45,.v<|wv b),(some 46,.v<|.tuple #[wv q,wv v]),(some 42,.v<|.tuple #[wv q,wv v]),(some 47,.v<|wv q),(some 48,.v<|wv v),(some 13,.l<|o0 24 4 (w.heap.size+1+1+1) 0 q),(some 14,.l<|o0 24 4 (w.heap.size+1+1+1) 1 v),(none,.v undef),(none,.v undef)]) (P:=[9,10]) (loads:=[0,1,2,3]) (news:=[7,8]) [(13,24,4,q),(14,24,4,v)] W W d (λ_ _ h j=>h.call j)
  (L1 W W W W W N0 RC.set<|L1 W W W W W N0 RC.set True.intro)
  (tu W W W (λ_ _ h=>h.ra)<|cl W W W (wB a)<|tu W W W (λ_ _ h=>h.rb)<|c1v (t:=44) (A:=λu=>#[u,wv b]) W W W W (A4 ⟨_,W,N0⟩) (λ_ _=>N0) (MA wq (vp ha.aa) H I C E) True.intro)
  (Uf W W W (λ_ _ h=>h.rz.lt)<|Uf W W W (λ_ _ h=>h.rz.lt) True.intro)
  (loU<|aIn L0<|aIn (Wy W W)<|aIn (Wy W W) True.intro) ?_
 intro g x d m _;let⟨p,f,e,K,S,o⟩:=m 8 _ _ W;generalize z:g 7=T;rotate_left;refine qq (Jq9:=RC w a b c) (N:=w.heap.size+1+1+1) (D:=[(5,.pointer _),(6,.pointer _),(7,.pointer _)]) (es:=[(some 80,.v<|wv a),(some 81,.l<|sh 256<|a),(some 82,.v<|wv b),(some 83,.l<|sh 256<|b),(some 84,.l<|sh 257<|a+b),(some 85,.v<|wv c),(some 86,.v<|.tuple #[wv q,wv v]),(some 79,.v<|.tuple #[wv q,wv v]),(some 87,.v<|wv q),(some 88,.v<|wv v),(some 17,.l<|o0 24 4 (w.heap.size+1+1+1) 0 q),(some 18,.l<|o0 24 4 (w.heap.size+1+1+1) 1 v),(none,.v undef),(none,.v undef)]) (P:=[12,13]) (loads:=[0,1,2,3,4,5,6]) (news:=[10,11]) [(17,24,4,q),(18,24,4,v)] W W d (λ_ _ h j=>h.call j)
  (L1 W W W W W N0 RC.set<|L1 W W W W W N0 RC.set True.intro)
  (tu W W W (λ_ _ h=>h.ra)<|cl W W W (wB a)<|tu W W W (λ_ _ h=>h.rb)<|cl W W W (wB b)<|c2s (t:=81) (u:=83) (A:=λu v=>#[u,v,iI 256]) W W W W W (A4 ⟨_,W,N0⟩) (λ_ _=>N0) (addS (xZ ha.aa)<|xZ G.aa)<|tu W W W (λ_ _ h=>h.rc)<|c1v (t:=84) (A:=λu=>#[u,wv c]) W W W W (A4 ⟨_,W,N0⟩) (λ_ _=>N0) (MA wq (Wc W ha.aa G.aa) H I C E) True.intro)
  (Uf W W W (λ_ _ h=>h.rz.lt)<|Uf W W W (λ_ _ h=>h.rz.lt) True.intro)
  (loU<|aIn L0<|aIn L0<|aIn L0<|aIn (Wy W W)<|aIn (Wy W W) True.intro) ?_
 intro g x d m _;let⟨p,f,e,K,S,o⟩:=m 11 _ _ W;generalize z:g 10=T;rotate_left;refine qq (Jq9:=RC w a b c) (N:=w.heap.size+1+1+1) (D:=[(5,.pointer _),(6,.pointer _),(7,.pointer _)]) (es:=[(some 91,.v<|wv a),(some 92,.v<|wv b),(some 93,.l<|sh 512<|a%M*(b%M)),(some 94,.v<|wv c),(some 95,.v<|.tuple #[wv q,wv v]),(some 90,.v<|.tuple #[wv q,wv v]),(some 96,.v<|wv q),(some 97,.v<|wv v),(some 19,.l<|o0 24 4 (w.heap.size+1+1+1) 0 q),(some 20,.l<|o0 24 4 (w.heap.size+1+1+1) 1 v),(none,.v undef),(none,.v undef)]) (P:=[10,11]) (loads:=[0,1,2,3,4]) (news:=[8,9]) [(19,24,4,q),(20,24,4,v)] W W d (λ_ _ h j=>h.call j)
  (L1 W W W W W N0 RC.set<|L1 W W W W W N0 RC.set True.intro)
  (tu W W W (λ_ _ h=>h.ra)<|tu W W W (λ_ _ h=>h.rb)<|cl W W W (prodS a b)<|tu W W W (λ_ _ h=>h.rc)<|c1v (t:=93) (A:=λu=>#[u,wv c]) W W W W (A4 ⟨_,W,N0⟩) (λ_ _=>N0) (MA wq (wD _ a b W) H I C E) True.intro)
  (Uf W W W (λ_ _ h=>h.rz.lt)<|Uf W W W (λ_ _ h=>h.rz.lt) True.intro)
  (loU<|aIn L0<|aIn (Wy W W)<|aIn (Wy W W) True.intro) ?_
 intro g x d m _;let⟨p,f,e,K,S,o⟩:=m 9 _ _ W;generalize z:g 8=T;rotate_left;all_goals
  cases o K2;simp only[n8,sx9];rw[e,z];clear m o e z;let⟨X,Q,Z,U⟩:=cW S;let⟨⟨x0,Y,V,O⟩,R,hz⟩:=qN v d.rz d.be;go_wp2;exact gY (hz _ W).1<|dZ W (hz _ W).2
def Mb(a b c:Nat)(ha:Hd<|a<M)(C:Hd<|b<M)(D:Hd<|c<M)(w:WD):cP 214 #[iB 4,wv a,wv b,wv c] w (lI w<|ui a b):=by
 by_cases E:b=0
 .rw[(by rw[E];exact JB a:ui a b=0)];exact nX (LZ ⟨LZ W,W⟩) E
 exact wb ha C w (.inl ⟨W,W,W,W⟩) E C
def MX(a b c:Nat)(ha:Hd<|a<M)(C:Hd<|b<M)(D:Hd<|c<M)(w:WD):cP 214 #[iB 6,wv a,wv b,wv c] w (lI w<|lM a b):=by
 by_cases E:b=0
 .rw[(by rw[E];exact wn a:lM a b=0)];exact nX (LZ ⟨A4<|A4<|LZ W,W⟩) E
 exact wb ha C w (.inr<|.inl ⟨W,W,W,iF E⟩) E C
def Dy(a b c:Nat)(ha:Hd<|a<M)(C:Hd<|b<M)(D:Hd<|c<M)(w:WD):cP 214 #[iB 8,wv a,wv b,wv c] w (lI w<|tA a b c):=by
 by_cases E:c=0
 .rw[(by rw[E];exact wn _:tA a b c=0)];exact nX (A4 ⟨LZ W,W⟩) E
 exact wb ha C w (.inr<|.inr<|.inl ⟨W,W,W,iF E⟩) E D
def DS(a b c:Nat)(ha:Hd<|a<M)(C:Hd<|b<M)(D:Hd<|c<M)(w:WD):cP 214 #[iB 9,wv a,wv b,wv c] w (lI w<|sE a b c):=by
 by_cases E:c=0
 .rw[(by rw[E];exact wn _:sE a b c=0)];exact nX (A4 ⟨A4 W,W⟩) E
 exact wb ha C w (.inr<|.inr<|.inr ⟨W,W,W,by rw[WZ ha.aa,WZ C.aa];exact iF E⟩) E D
section
variable {p2:Nat}
def Fi{n:Bool}(h:Hd<|neg a=n)(x:WD):cP 248 #[wv a] x (L2 (.bool n) x):=by rw[<-h.aa];exact oL a x
structure RQ(w:WD)(a b c p1 p2 q r:Nat)(x:WD):Prop where
 rc:RC w a b c x
 r1:x.rowIs p1 24 4 (dz (cX q))
 r2:x.rowIs p2 24 4 (dz (cX r))
def RQ.call(h:RQ w a b c p1 p2 q r x)(C:bW x y):RQ w a b c p1 p2 q r y:=⟨h.rc.call C,cY h.r1 C,cY h.r2 C⟩
def RQ.cO(h:RQ w a b c p1 p2 q r x)(C:w.heap.size+1+1+1<p1)(hne:p1≠p2)(n:Nat):RQ w a b c p1 p2 n r (sC (sC (sC (sC x p1 0<|lu n 0) p1 1<|lu n 1) p1 2<|lu n 2) p1 3<|lu n 3):=⟨h.rc.put C W,di h.r1 (cX n) W W W W,h.r2.of_block<|el W _<|λe=>hne e.symm⟩
def RQ.cL(h:RQ w a b c p1 p2 q r x)(C:w.heap.size+1+1+1<p2)(hne:p1≠p2)(n:Nat):RQ w a b c p1 p2 q n (sC (sC (sC (sC x p2 0<|lu n 0) p2 1<|lu n 1) p2 2<|lu n 2) p2 3<|lu n 3):=⟨h.rc.put C W,h.r1.of_block<|el W _ hne,di h.r2 (cX n) W W W W⟩
def sdiv_n(a b q s:Nat)(D nb:Bool)(ha:neg a=D)(E:neg b=nb)(G:q=gL a/gL b)(H:s=if D !=nb then mV (q%M)else q)(C:q<M):s%M=nQ a b%M:=by unfold nQ ui;rw[ha,E,<-G,H,WZ C]
def smod_n(a b r s:Nat)(E:Bool)(ha:neg a=E)(C:gL b≠0)(G:r=gL a%gL b)(H:s=if E then mV (r%M)else r)(D:r<M):s%M=od a b%M:=by unfold od lM;rw[ha,iF C,<-G,H,WZ D]
def Ev(b:Nat)(C:b<M)(h:0<b):0<gL b:=by
 unfold gL mV;split
 .unfold M at*;omega
 exact h
def Ii(a b c:Nat)(ha:Hd<|a<M)(C:Hd<|b<M)(hc0:Hd<|c<M)(w:WD)(J:Int)(h:J=5/\n=nQ a b\/J=7/\n=od a b):cP 214 #[iB J,wv a,wv b,wv c] w (lI w n):=by
 by_cases hz:b=0
 .rw[(by rcases h with⟨_,rfl⟩|⟨_,rfl⟩<;>rw[hz];exact L7 a;exact Oc a:n=0)];exact nX (.inl ⟨by rcases h with⟨rfl,_⟩|⟨rfl,_⟩<;>simp,rfl⟩) hz
 have hd:decide (b%M=0)=false:=W8 (by rw[WZ C.aa];exact hz);have aA:Hd (0<b):=Z0 hz;clear hz;rcases h with⟨rfl,rfl⟩|⟨rfl,rfl⟩;all_goals
   have hs:=RC.start w a b c;go_enter func214,ntmps214;go_wp2_with fail
   refine(je b _).mono ?_;rintro e w1⟨rfl,hb⟩;replace hs:=RC.call (RC.alloc hs _) hb;rw[hd];clear hb hd;obtain⟨U,G⟩:∃m,Hd (m=gL (a%M)):=⟨_,rfl⟩
   obtain⟨R,E⟩:∃m,Hd (m=gL (b%M)):=⟨_,rfl⟩
   have o:Hd (U<M):=by show _<_;rw[G.aa];exact qQ<|Xs _ jm
   have p:Hd (R<M):=by show _<_;rw[E.aa];exact qQ<|Xs _ jm
   have d:Hd (0<R):=by show _<_;rw[E.aa,WZ C.aa];exact Ev b C.aa aA.aa
   let⟨q,F⟩:=dP<|U/R;let⟨r,HR⟩:=dP<|U%R;have W:Hd (q<M):=by show _<_;rw[F.aa];exact YD (YW _ _) o.aa
   have s:Hd (r<M):=by show _<_;rw[HR.aa];exact Nat.lt_trans (Xs _ d.aa) p.aa
   have HF:Hd (gL b≠0):=Nat.ne_of_gt<|Ev b C.aa aA.aa;go_wp2;refine qq (Jq9:=RC w a b c) (N:=w.heap.size+1+1+1) (D:=[(5,.pointer _),(6,.pointer _)]) (es:=[(some 54,.v<|wv a),(some 55,.v<|wv U),(some 56,.l<|sh 256 U),(some 57,.v<|wv b),(some 58,.v<|wv R),(some 59,.v<|.tuple #[wv q,wv r]),(some 53,.v<|.tuple #[wv q,wv r]),(some 60,.v<|wv q),(some 61,.v<|wv r),(some 15,.l<|o0 24 4 (w.heap.size+1+1+1) 0 q),(some 16,.l<|o0 24 4 (w.heap.size+1+1+1) 1 r),(none,.v undef),(none,.v undef)]) (P:=[11,12]) (loads:=[0,1,2,3,4,5]) (news:=[9,10]) [(15,24,4,q),(16,24,4,r)] rfl rfl hs (λ_ _ h hb=>h.call hb)
    (L1 rfl rfl rfl rfl rfl N0 RC.set<|L1 rfl rfl rfl rfl rfl N0 RC.set True.intro)
    (tu rfl rfl rfl (λ_ _ h=>h.ra)<|cv rfl rfl rfl (rv (Aw a) G)<|cl rfl rfl rfl (wB U)<|tu rfl rfl rfl (λ_ _ h=>h.rb)<|cv rfl rfl rfl (rv (Aw b) E)<|c1v (t:=56) (A:=λu=>#[u,wv R]) rfl rfl rfl rfl (A4 ⟨_,rfl,N0⟩) (λ_ _=>N0) (MA wq (vp o.aa) p d F HR) True.intro)
    (Uf rfl rfl rfl (λ_ _ h=>h.rz.lt)<|Uf rfl rfl rfl (λ_ _ h=>h.rz.lt) True.intro)
    (loU<|aIn L0<|aIn (Wy rfl rfl)<|aIn (Wy rfl rfl) True.intro) ?_
   .intro g x hs hT hD;let⟨p1,f1,T,hp1,Y,z⟩:=hT 9 _ _ rfl;let⟨p2,f2,K,i,X,j⟩:=hT 10 _ _ rfl;cases z Nat.two_pos;cases j (YS 1);have V:p1≠p2:=λh=>hD 9 K2 10 K2 wq (by rw[T,K,h]);simp only[n8,sx9];rw[T,K];generalize g 2=g2;have hq:RQ w a b c p1 p2 q r x:=⟨hs,Y,X⟩
    clear Y X hs hT hD z j T K;obtain⟨Q,S⟩:∃n,Hd (neg a=n):=⟨_,rfl⟩
    obtain⟨nb,HB⟩:∃n,Hd (neg b=n):=⟨_,rfl⟩
    go_wp2;refine qq (Jq9:=RQ w a b c p1 p2 q r) (N:=0) (D:=[(5,.pointer _),(6,.pointer _)]) (es:=nV 62 [wv a,.bool Q,wv b,.bool nb,.bool<|Q !=nb]) (P:=[]) (loads:=[0,1,2,3]) (news:=[]) [] rfl rfl hq (λ_ _ h hb=>h.call hb) True.intro
     (tu rfl rfl rfl (λ_ _ h=>h.rc.ra)<|cv rfl rfl rfl (Fi S)<|tu rfl rfl rfl (λ_ _ h=>h.rc.rb)<|cv rfl rfl rfl (Fi HB) True.intro) True.intro (nl rfl) ?_
    clear hq;rintro-x2 hq - -;simp only[n8,sx9];obtain⟨Z,f⟩:∃t,Hd (t=(Q !=nb)):=⟨_,rfl⟩
    rw[<-f.aa];go_upto_if 66 with fail;go_cut[10] (λL k=>∃H:Nat,L=.bool false/\RQ w a b c p1 p2 H r k/\Hd (H=if Z then mV (q%M)else q));case first=>
     as_aux_lemma=>
     cases Z
     .go_wp2_with fail
      go_meet;case rel=>exact⟨q,rfl,hq,rfl⟩
     let⟨c0,c1,c2,c3⟩:=cW hq.r1;go_wp2_with fail
     refine(it q _).mono ?_;rintro e w2⟨H,I,rfl,hb⟩;replace hq:=hq.call hb;clear hb c0 c1 c2 c3;let⟨⟨c0,c1,c2,c3⟩,fz⟩:=Fa hq.r1;go_wp2_with fail
     go_meet;case rel=>exact⟨H,rfl,hq.cO hp1 V H,I⟩
    as_aux_lemma=>
    clear hq;obtain⟨H,rfl,hq,I⟩:=hcut;let⟨a0,a1,a2,a3⟩:=cW hq.rc.ra;go_wp2_with fail
    refine(oL a _).mono ?_;rintro e w3⟨rfl,hb⟩;replace hq:=hq.call hb;clear hb a0 a1 a2 a3;rw[S.aa];go_upto_if 70 with fail;go_cut[10] (λL k=>∃s2:Nat,L=.bool false/\RQ w a b c p1 p2 H s2 k/\Hd (s2=if Q then mV (r%M)else r));case first=>
     as_aux_lemma=>
     cases Q
     .go_wp2_with fail
      go_meet;case rel=>exact⟨r,rfl,hq,rfl⟩
     let⟨c0,c1,c2,c3⟩:=cW hq.r2;go_wp2_with fail
     refine(it r _).mono ?_;rintro e w4⟨s2,O,rfl,hb⟩;replace hq:=hq.call hb;clear hb c0 c1 c2 c3;let⟨⟨c0,c1,c2,c3⟩,fz⟩:=Fa hq.r2;go_wp2_with fail
     go_meet;case rel=>exact⟨s2,rfl,hq.cL i V s2,O⟩
    as_aux_lemma=>
    clear hq;obtain⟨s2,rfl,hq,O⟩:=hcut;let⟨d0,d1,d2,d3⟩:=cW hq.r1;let⟨e0,T,K,e3⟩:=cW hq.r2;let⟨⟨x0,x1,x2,x3⟩,fz⟩:=Fa hq.rc.rz;go_wp2;first
    |refine gY (di hq.rc.rz<|cX H)<|dZ (sdiv_n a b q H Q nb S HB (by rw[F.aa,G.aa,E.aa,WZ ha.aa,WZ C.aa]) (by rw[I.aa,f.aa]) W) ?_
    |refine gY (di hq.rc.rz<|cX s2)<|dZ (smod_n a b r s2 Q S HF (by rw[HR.aa,G.aa,E.aa,WZ ha.aa,WZ C.aa]) O s) ?_
    exact bd hq.rc.be wq
def Ls(a b c:Nat)(ha:Hd<|a<M)(C:Hd<|b<M)(D:Hd<|c<M)(w:WD):cP 214 #[iB 5,wv a,wv b,wv c] w (lI w<|nQ a b):=Ii a b c ha C D w 5<|.inl ⟨W,W⟩
def LA(a b c:Nat)(ha:Hd<|a<M)(C:Hd<|b<M)(D:Hd<|c<M)(w:WD):cP 214 #[iB 7,wv a,wv b,wv c] w (lI w<|od a b):=Ii a b c ha C D w 7<|.inr ⟨W,W⟩
def jq{J:Int}{f:FuncId}(a b c:Nat)(w:WD)(E:Hd (∀x,cP f vs x<|lI x n))(H:Hd<|n%M=N%M)(h:(f=214/\vs=#[iB J,wv a,wv b,wv c]/\(J=4\/J=5\/J=6\/J=7\/J=8\/J=9))\/(f=216/\vs=#[iB J,wv a,wv b]/\(J=22\/J=23\/J=24\/J=25\/J=26\/J=27\/J=28\/J=29))\/(vs=#[wv a,wv b]/\(f=120/\J=1\/f=119/\J=3\/f=215/\J=10))):cP 178 #[iB J,wv a,wv b,wv c] w (lN w N 0):=by
 rcases h with⟨rfl,rfl,rfl|rfl|rfl|rfl|rfl|rfl⟩|⟨rfl,rfl,rfl|rfl|rfl|rfl|rfl|rfl|rfl|rfl⟩|⟨rfl,⟨rfl,rfl⟩|⟨rfl,rfl⟩|⟨rfl,rfl⟩⟩;all_goals
  have d:=RC.start w a b c;go_enter func178,ntmps178;go_wp2_with fail
  refine(dx 0 wq _).mono ?_;rintro e I⟨z,X,rfl,g⟩;replace d:=d.call g;let⟨j,U,V,a3⟩:=cW d.ra;have j:=(d.ra).lt;let⟨Q,L,b2,b3⟩:=cW d.rb;have bl:=(d.rb).lt;let⟨j,c1,c2,c3⟩:=cW d.rc;have cl:=(d.rc).lt;go_wp2_with fail
  refine(E.aa _).mono ?_;rintro e Z⟨s,G,rfl,g⟩;replace d:=(d.alloc _).call g;have C:=d.rz;have D:=d.be;let⟨⟨x0,Y,R,O⟩,P⟩:=Fa C;go_wp2;refine nr (di C<|cX s) (fV (by rw[G.aa];exact H.aa) ?_);exact bd D wq
def xy(J a b c:Nat)(h:(12<=J/\J<=15)\/30<=J):ep J a b c=0:=by unfold ep;rw[AQ,AQ,AQ,AQ,AQ,AQ,AQ,AQ,AQ,AQ,AQ,AQ,AQ,AQ,AQ,AQ,AQ,AQ,AQ,AQ,AQ,AQ,AQ,AQ,AQ]
def rcalc2(a b c:Nat)(ha:Hd<|a<M)(E:Hd<|b<M)(I:Hd<|c<M)(w:WD):cP 178 #[iB 2,wv a,wv b,wv c] w (lN w (ep 2 a b c) 0):=by
 have f:=RC.start w a b c;go_enter func178,ntmps178;go_wp2_with fail
 refine(dx 0 wq _).mono ?_;rintro e J⟨z,Y,rfl,g⟩;replace f:=f.call g;let⟨h,V,X,a3⟩:=cW f.ra;have h:=(f.ra).lt;let⟨R,L,b2,b3⟩:=cW f.rb;have bl:=(f.rb).lt;go_wp2_with fail
 refine(lX a b _).mono ?_;rintro e d⟨p,s,G,rfl,_,D,g⟩;replace f:=(f.alloc _).call g;go_wp2_with fail
 refine(lS s _ p _ wq (wD s a b G) _ D).mono ?_;rintro e O⟨rfl,g⟩;replace f:=f.call g;have C:=f.rz;have H:=f.be;let⟨⟨x0,Z,U,P⟩,Q⟩:=Fa C;go_wp2;refine nr (di C<|cX s) (fV (by rw[G.aa,WZ ha.aa,WZ E.aa];simp[ep,sr]) ?_);grind[bd]
def QZ(a b c:Nat)(ha:Hd<|a<M)(D:Hd<|b<M)(H:Hd<|c<M)(w:WD):cP 178 #[iB 16,wv a,wv b,wv c] w (lN w (ep 16 a b c) 0):=by
 have f:=RC.start w a b c;go_enter func178,ntmps178;go_wp2_with fail
 refine(dx 0 wq _).mono ?_;rintro e J⟨z,Y,rfl,g⟩;replace f:=f.call g;let⟨h,V,X,a3⟩:=cW f.ra;have h:=(f.ra).lt;let⟨R,L,b2,b3⟩:=cW f.rb;have bl:=(f.rb).lt;let⟨t,E⟩:=dP<|iX a b;go_wp2_with fail
 refine(jz a b _).mono ?_;rintro e d⟨rfl,g⟩;rw[<-E.aa];replace f:=(f.alloc _).call g;go_wp2_with fail
 refine(jY t _).mono ?_;rintro e O⟨s,I,rfl,g⟩;replace f:=f.call g;have C:=f.rz;have G:=f.be;let⟨⟨x0,Z,U,P⟩,Q⟩:=Fa C;go_wp2;refine nr (di C<|cX s) (fV (by rw[I.aa,E.aa];unfold iX;rw[WZ ha.aa,WZ D.aa];rfl) ?_);grind[bd]
def SV(a b c:Nat)(ha:Hd<|a<M)(D:Hd<|b<M)(H:Hd<|c<M)(w:WD):cP 178 #[iB 17,wv a,wv b,wv c] w (lN w (ep 17 a b c) 0):=by
 have f:=RC.start w a b c;go_enter func178,ntmps178;go_wp2_with fail
 refine(dx 0 wq _).mono ?_;rintro e J⟨z,Y,rfl,g⟩;replace f:=f.call g;let⟨h,V,X,a3⟩:=cW f.ra;have h:=(f.ra).lt;let⟨R,L,b2,b3⟩:=cW f.rb;have bl:=(f.rb).lt;let⟨t,E⟩:=dP<|iX b a;go_wp2_with fail
 refine(jz b a _).mono ?_;rintro e d⟨rfl,g⟩;rw[<-E.aa];replace f:=(f.alloc _).call g;go_wp2_with fail
 refine(jY t _).mono ?_;rintro e O⟨s,I,rfl,g⟩;replace f:=f.call g;have C:=f.rz;have G:=f.be;let⟨⟨x0,Z,U,P⟩,Q⟩:=Fa C;go_wp2;refine nr (di C<|cX s) (fV (by rw[I.aa,E.aa];unfold iX;rw[WZ ha.aa,WZ D.aa];rfl) ?_);grind[bd]
def Vc(a b c:Nat)(ha:Hd<|a<M)(D:Hd<|b<M)(H:Hd<|c<M)(w:WD):cP 178 #[iB 20,wv a,wv b,wv c] w (lN w (ep 20 a b c) 0):=by
 have f:=RC.start w a b c;go_enter func178,ntmps178;go_wp2_with fail
 refine(dx 0 wq _).mono ?_;rintro e J⟨z,Z,rfl,g⟩;replace f:=f.call g;let⟨h,X,Y,a3⟩:=cW f.ra;have h:=(f.ra).lt;let⟨R,L,b2,b3⟩:=cW f.rb;have bl:=(f.rb).lt;let⟨t,E⟩:=dP<|gN a b;have V:∀w,(Op.equalIn _ 24 _ _).run _ w=.ok t w:=λw=>by rw[ig,E.aa]
 go_wp2_with fail
 refine(jY t _).mono ?_;rintro e O⟨s,I,rfl,g⟩;replace f:=(f.alloc _).call g;have C:=f.rz;have G:=f.be;let⟨⟨x0,d,U,P⟩,Q⟩:=Fa C;go_wp2;refine nr (di C<|cX s) (fV (by rw[I.aa,E.aa];unfold gN;rw[WZ ha.aa,WZ D.aa];rfl) ?_);grind[bd]
def Ud(a b c:Nat)(ha:Hd<|a<M)(H:Hd<|b<M)(G:Hd<|c<M)(w:WD):cP 178 #[iB 21,wv a,wv b,wv c] w (lN w (ep 21 a b c) 0):=by
 have Z:=RC.start w a b c;go_enter func178,ntmps178;go_wp2_with fail
 refine(dx 0 wq _).mono ?_;rintro e J⟨z,V,rfl,d⟩;replace Z:=Z.call d;let⟨f,R,U,a3⟩:=cW Z.ra;have f:=(Z.ra).lt;let⟨t,D⟩:=dP<|decide (a%M=0);go_wp2_with fail
 refine(je a _).mono ?_;rintro e Y⟨rfl,d⟩;rw[<-D.aa];replace Z:=(Z.alloc _).call d;go_wp2_with fail
 refine(jY t _).mono ?_;rintro e L⟨s,I,rfl,d⟩;replace Z:=Z.call d;have C:=Z.rz;have E:=Z.be;let⟨⟨x0,X,Q,O⟩,P⟩:=Fa C;go_wp2;refine nr (di C<|cX s) (fV (by rw[I.aa,D.aa,WZ ha.aa];rfl) ?_);grind[bd]
def Tk(a b c:Nat)(ha:Hd<|a<M)(J:Hd<|b<M)(Y:Hd<|c<M)(w:WD):cP 178 #[iB 11,wv a,wv b,wv c] w (lN w (ep 11 a b c) 0):=by
 have q:=RC.start w a b c;go_enter func178,ntmps178;go_wp2_with fail
 refine(dx 0 wq _).mono ?_;rintro e F⟨z,k,rfl,u⟩;replace q:=q.call u;obtain⟨l,l,n,a3⟩:=cW q.ra;have l:=(q.ra).lt;have O:Hd (ec a 31=if a<31 then a else 31):=by show _=_;unfold ec;rw[WZ ha.aa]
 go_wp2_with fail
 refine(ij a 31 wq _).mono ?_;rintro e t⟨rfl,u⟩;replace q:=(q.alloc _).call u;by_cases G:a<31
 .as_aux_lemma=>
  rw[At G]at O;rw[O.aa];let⟨R,Q⟩:=dP<|ni a b;have U:Hd (∀i,i<256->R.testBit i=if i<8*a+8 then b.testBit i else b.testBit _):=λi l=>by rw[Q.aa];exact LB a b i G J.aa l
  let⟨m,X,b2,b3⟩:=cW q.rb;go_wp2_with fail
  refine(gw b _).mono ?_;rintro e N⟨p,rfl,Z,L,u⟩;have o:=q.rz.lt;replace q:=q.call u;have f:w.heap.size+1+1+1<p:=wq
  go_wp2;go_loopw[13] (λH wr=>∃i:Nat,8*a+8<=i/\i<=256/\H=iI i/\wr.rowIs (w.heap.size+1+1+1) 24 4 (dz λ_=>0)/\wr.rowIs p 4 256 (dY λj=>if j<i then R.testBit j else b.testBit j)/\bW w wr)
    (λH _=>256-nI H)
  case atStart=>
   refine⟨_,DO _,wq,N1,q.rz,L.congr λj V=>?_,q.be⟩;simp only[dY];by_cases h:j<8*a+8
   .rw[At h,U.aa j V,At h]
   grind
  obtain⟨i,T,l,rfl,C,E,D⟩:=hrel;by_cases I:i<256
  .have A:decide ((i:Int)<256)=true:=K9
   have l:=E.frozen i;have co:=E.cell I;have l:=E.cell (i:=8*a+7) wq;simp only[dY]at l;rw[AV]at l;go_wp2;go_roundw;case rel=>exact⟨i+1,wq,wq,N1,C.setOther K9 _,jQ E (show Hd (R.testBit (8*a+7)=R.testBit i) by show _=_;rw[U.aa i I,AQ,U.aa (8*a+7) wq,AV]).aa,kr D K9⟩
   grind[nI]
  cases(wq:i=256)
  have P:wr.rowIs p 4 _ (dY R.testBit):=E.congr λj V=>by grind[dY]
  go_wp2_with fail
  refine(lS R _ p _ wq (vp (by show _<_;rw[Q.aa];exact MC a b J.aa:Hd<|R<M).aa) _ P).mono ?_;rintro e K⟨rfl,u⟩;replace C:=cY C u;replace D:=eB D u;let⟨⟨x0,S,y,d⟩,g⟩:=Fa C;go_wp2;refine nr (di C<|cX R) (fV (by rw[Q.aa];rfl) ?_);exact bd D wq
 as_aux_lemma=>
 rw[iF G]at O;rw[O.aa];let⟨m,X,b2,b3⟩:=cW q.rb;have C:=q.rz;have D:=q.be;let⟨⟨x0,S,y,d⟩,g⟩:=Fa C;go_wp2;refine nr (di C<|cX b) (fV (by rw[(by simp[ep]:ep 11 a b c=ni a b),(by show _=_;unfold ni;rw[iF G]:Hd<|ni a b=b).aa]) ?_);grind[bd]
theorem Sf(a b c:Nat)(J:Nat)(H:J=0)(ha:Hd<|a<M)(G:Hd<|b<M)(E:Hd<|c<M)(w:WD):cP 178 #[iB (J:Int),wv a,wv b,wv c] w (lN w (ep J a b c) 1):=by
 subst H;have X:=RC.start w a b c;go_enter func178,ntmps178;go_wp2_with fail
 refine(dx 0 wq _).mono ?_;rintro e L⟨z,R,rfl,Y⟩;replace X:=X.call Y;go_wp2_with fail
 refine(dx 0 wq _).mono ?_;rintro e V⟨s,I,rfl,Y⟩;replace X:=(X.alloc _).call Y;have C:=X.rz;have D:=X.be;let⟨⟨x0,U,Q,O⟩,P⟩:=Fa C;go_wp2;refine nr (di C<|cX s) (fV (by rw[I.aa];rfl) ?_);grind[bd]
theorem S7(a b c:Nat)(J:Nat)(Q:12<=J)(I:J<=15)(ha:Hd<|a<M)(G:Hd<|b<M)(E:Hd<|c<M)(w:WD):cP 178 #[iB (J:Int),wv a,wv b,wv c] w (lN w (ep J a b c) 1):=by
 have Y:=RC.start w a b c;go_enter func178,ntmps178;go_wp2_with fail
 refine(dx 0 wq _).mono ?_;rintro e L⟨z,U,rfl,Z⟩;replace Y:=Y.call Z;go_wp2_with fail
 refine(dx 0 wq _).mono ?_;rintro e X⟨s,H,rfl,Z⟩;replace Y:=(Y.alloc _).call Z;have C:=Y.rz;have D:=Y.be;let⟨⟨x0,V,R,O⟩,P⟩:=Fa C;go_wp2;refine nr (di C<|cX s) (fV (by rw[H.aa,xy J a b c wq]) ?_);grind[bd]
theorem Rg(a b c:Nat)(J:Nat)(Q:30<=J)(I:J<=255)(ha:Hd<|a<M)(G:Hd<|b<M)(E:Hd<|c<M)(w:WD):cP 178 #[iB (J:Int),wv a,wv b,wv c] w (lN w (ep J a b c) 1):=by
 have Y:=RC.start w a b c;go_enter func178,ntmps178;go_wp2_with fail
 refine(dx 0 wq _).mono ?_;rintro e L⟨z,U,rfl,Z⟩;replace Y:=Y.call Z;go_wp2_with fail
 refine(dx 0 wq _).mono ?_;rintro e X⟨s,H,rfl,Z⟩;replace Y:=(Y.alloc _).call Z;have C:=Y.rz;have D:=Y.be;let⟨⟨x0,V,R,O⟩,P⟩:=Fa C;go_wp2;refine nr (di C<|cX s) (fV (by rw[H.aa,xy J a b c wq]) ?_);grind[bd]
def vT:Nat:=57896044618658097711785492504343953926634992332820282019728792003956564819968
structure RT(w:WD)(a b c t T:Nat)(x:WD):Prop where
 ra:x.rowIs (w.heap.size) 24 4 (dz (cX a))
 rb:x.rowIs (w.heap.size+1) 24 4 (dz (cX b))
 rz:∃f,x.rowIs (w.heap.size+1+1+1) 24 4 (dz f)
 rt:x.rowIs T 24 4 (dz (cX t))
 hT:w.heap.size+1+1+1<T
 be:Below w.heap.size w x
def RT.call{T:Nat}(h:RT w a b c t T x)(C:bW x y):RT w a b c t T y:=⟨cY h.ra C,cY h.rb C,h.rz.elim λf h=>⟨f,cY h C⟩,cY h.rt C,h.hT,eB h.be C⟩
theorem RT.put{T:Nat}(h:RT w a b c t T x)(n:Nat):RT w a b c t T (sC (sC (sC (sC x (w.heap.size+1+1+1) 0<|lu n 0) (w.heap.size+1+1+1) 1<|lu n 1) (w.heap.size+1+1+1) 2<|lu n 2) (w.heap.size+1+1+1) 3<|lu n 3):=by have:=h.hT;let⟨f,C⟩:=h.rz;exact⟨eC h.ra _ _ _ _,eC h.rb _ _ _ _,⟨_,di C (cX n) W W W W⟩,eC h.rt _ _ _ _,h.hT,bd h.be wq⟩
def RT.start(c:Nat)(D:RC w a b c w1)(hz:z=0)(C:t=vT):RT w a b c t w1.heap.size (w1.alloc<|.cells #[lu z 0,lu z 1,lu z 2,iU 9223372036854775808] 24):=by subst hz C;refine⟨D.ra.alloc _,D.rb.alloc _,⟨_,D.rz.alloc _⟩,de _ W ?_ ?_ ?_ ?_,D.rz.lt,ai D.be _⟩<;>(unfold cX;decide)
def L3{l:Bool}(h:Hd<|l=iX a b)(x:WD):cP 66 #[wv a,wv b] x (L2 (.bool l) x):=by rw[h.aa];exact jz a b x
def SG(a b c:Nat)(ha:Hd<|a<M)(C:Hd<|b<M)(O:Hd<|c<M)(w:WD):cP 178 #[iB 18,wv a,wv b,wv c] w (lN w (ep 18 a b c) 0):=by
 have U:=RC.start w a b c;go_enter func178,ntmps178;go_wp2_with fail
 refine(dx 0 wq _).mono ?_;rintro e w1⟨z,R,rfl,V⟩;replace U:=U.call V;clear V;let⟨T0,E⟩:=dP vT;let⟨X,G⟩:=dP<|kQ (a%M)<|T0%M;let⟨Y,I⟩:=dP<|kQ (b%M)<|T0%M;let⟨l,H⟩:=dP<|iX X Y;let⟨t,J⟩:=dP<|jM l;have P:=RT.start c U R E.aa;clear U;go_wp2;refine sx (Jq9:=RT w a b c T0 w1.heap.size) (Zq9:=w.heap.size+1+1+1) (q:=t) (D:=[(5,.pointer _),(6,.pointer _),(8,.pointer _),(10,.pointer _)]) (es:=nV 91 [wv a,wv T0,wv X,wv b,wv T0,wv Y,.bool l,wv t]++[(none,.v undef),(some 9,.v<|iI 0)]) (c:=8) (loads:=[0,1,2,3,4,5,6,7]) W W W W W P (λ_ _ h V=>h.call V) (λ_ h=>h.rz) (λ_ h=>h.put t)
  (tu W W W (λ_ _ h=>h.1.ra)<|tu W W W (λ_ _ h=>h.1.rt)<|cv W W W (rv (lC a T0) G)<|tu W W W (λ_ _ h=>h.1.rb)<|tu W W W (λ_ _ h=>h.1.rt)<|cv W W W (rv (lC b T0) I)<|cv W W W (L3 H)<|cv W W W (rv (jY l) J) True.intro) ?_
 intro g x U V;simp only[n8,sx9];let⟨L,X,Y,Q⟩:=cW V;go_wp2;refine sp (v:=.tuple #[wv t,iI 0]) (by simp[results,results178,go_sem,L,X,Y,Q]) W<|fV ?_ U.be;rw[J.aa,H.aa,G.aa,I.aa,E.aa,WZ ha.aa,WZ C.aa,WZ (by unfold M vT;decide:vT<M),vT,ID a b ha.aa C.aa];simp[ep]
def T5(a b c:Nat)(ha:Hd<|a<M)(C:Hd<|b<M)(O:Hd<|c<M)(w:WD):cP 178 #[iB 19,wv a,wv b,wv c] w (lN w (ep 19 a b c) 0):=by
 have U:=RC.start w a b c;go_enter func178,ntmps178;go_wp2_with fail
 refine(dx 0 wq _).mono ?_;rintro e w1⟨z,R,rfl,V⟩;replace U:=U.call V;clear V;let⟨T0,E⟩:=dP vT;let⟨X,G⟩:=dP<|kQ (b%M)<|T0%M;let⟨Y,I⟩:=dP<|kQ (a%M)<|T0%M;let⟨l,H⟩:=dP<|iX X Y;let⟨t,J⟩:=dP<|jM l;have P:=RT.start c U R E.aa;clear U;go_wp2;refine sx (Jq9:=RT w a b c T0 w1.heap.size) (Zq9:=w.heap.size+1+1+1) (q:=t) (D:=[(5,.pointer _),(6,.pointer _),(8,.pointer _),(10,.pointer _)]) (es:=nV 101 [wv b,wv T0,wv X,wv a,wv T0,wv Y,.bool l,wv t]++[(none,.v undef),(some 9,.v<|iI 0)]) (c:=8) (loads:=[0,1,2,3,4,5,6,7]) W W W W W P (λ_ _ h V=>h.call V) (λ_ h=>h.rz) (λ_ h=>h.put t)
  (tu W W W (λ_ _ h=>h.1.rb)<|tu W W W (λ_ _ h=>h.1.rt)<|cv W W W (rv (lC b T0) G)<|tu W W W (λ_ _ h=>h.1.ra)<|tu W W W (λ_ _ h=>h.1.rt)<|cv W W W (rv (lC a T0) I)<|cv W W W (L3 H)<|cv W W W (rv (jY l) J) True.intro) ?_
 intro g x U V;simp only[n8,sx9];let⟨L,X,Y,Q⟩:=cW V;go_wp2;refine sp (v:=.tuple #[wv t,iI 0]) (by simp[results,results178,go_sem,L,X,Y,Q]) W<|fV ?_ U.be;rw[J.aa,H.aa,G.aa,I.aa,E.aa,WZ ha.aa,WZ C.aa,WZ (by unfold M vT;decide:vT<M),vT,ID b a C.aa ha.aa];simp[ep]
def mg(h:m%M=n%M):gN m n=true:=by grind[gN]
def mm(a:Nat):a%M<M:=Xs _ jm
def md(h:a<M):a%M=a:=WZ h
def KY(J:Nat):J=0\/J=1\/J=2\/J=3\/J=4\/J=5\/J=6\/J=7\/J=8\/J=9\/J=10\/J=11\/(12<=J/\J<=15)\/J=16\/J=17\/J=18\/J=19\/J=20\/J=21\/J=22\/J=23\/J=24\/J=25\/J=26\/J=27\/J=28\/J=29\/30<=J:=wq
theorem ur(J:Nat)(h:J=0\/(12<=J/\J<=15)\/30<=J):ny J=1:=by grind[ny]
def qC(J:Nat)(E:J<=255)(a b c:Nat):cP 178 #[iB (J:Int),wv a,wv b,wv c] w (lN w (ep J (a%M) (b%M)<|c%M)<|ny J):=by
 rw[<-jJ a,<-jJ b,<-jJ c];have C:Hd (a%M<M):=Xs _ jm;have G:Hd (b%M<M):=Xs _ jm;have D:Hd (c%M<M):=Xs _ jm;generalize a%M=a at*;generalize b%M=b at*;generalize c%M=c at*;rcases KY J with h|h|h|h|h|h|h|h|h|h|h|h|h|h|h|h|h|h|h|h|h|h|h|h|h|h|h|h
 .grind[ur,Sf]
 .subst h;exact jq a b c w (lC a b) (by show _=_;rw[WZ C.aa,WZ G.aa];rfl)<|.inr<|.inr ⟨W,.inl ⟨W,W⟩⟩
 .subst h;exact(rcalc2 a b c C G D w)
 .subst h;exact jq a b c w (pP a b) (by show _=_;rw[WZ C.aa,WZ G.aa];rfl)<|.inr<|.inr ⟨W,.inr<|.inl ⟨W,W⟩⟩
 .subst h;exact jq a b c w (Mb a b c C G D) W<|.inl ⟨W,W,K2⟩
 .subst h;exact jq a b c w (Ls a b c C G D) W<|.inl ⟨W,W,K2⟩
 .subst h;exact jq a b c w (MX a b c C G D) W<|.inl ⟨W,W,K2⟩
 .subst h;exact jq a b c w (LA a b c C G D) W<|.inl ⟨W,W,K2⟩
 .subst h;exact jq a b c w (Dy a b c C G D) W<|.inl ⟨W,W,K2⟩
 .subst h;exact jq a b c w (DS a b c C G D) W<|.inl ⟨W,W,K2⟩
 .subst h;exact jq a b c w (GU a b) (by show _=_;rw[WZ C.aa,WZ G.aa];rfl)<|.inr<|.inr ⟨W,.inr<|.inr ⟨W,W⟩⟩
 .subst h;exact(Tk a b c C G D w)
 .grind[ur,S7]
 .subst h;exact(QZ a b c C G D w)
 .subst h;exact(SV a b c C G D w)
 .subst h;exact(SG a b c C G D w)
 .subst h;exact(T5 a b c C G D w)
 .subst h;exact(Vc a b c C G D w)
 .subst h;exact(Ud a b c C G D w)
 .subst h;exact jq a b c w (pK a b (zdj C.aa)<|.inl ⟨W,λi _=>Nat.testBit_and _ _ _⟩) W<|.inr<|.inl ⟨W,W,K2⟩
 .subst h;exact jq a b c w (pK a b (or_lt C.aa G.aa)<|.inr<|.inl ⟨W,λi _=>ZM _ _ _⟩) W<|.inr<|.inl ⟨W,W,K2⟩
 .subst h;exact jq a b c w (pK a b (xor_lt C.aa G.aa)<|.inr<|.inr<|.inr ⟨W,λi _=>JF⟩) W<|.inr<|.inl ⟨W,W,K2⟩
 .subst h;exact jq a b c w (pK a b (wE _)<|.inr<|.inr<|.inl ⟨W,λi H=>xV a i C.aa H⟩) W<|.inr<|.inl ⟨W,W,K2⟩
 .subst h;exact jq a b c w (Ky a b C G) W<|.inr<|.inl ⟨W,W,K2⟩
 .subst h;exact jq a b c w (BQ a b (Cg) (λi H=>by rw[(by unfold ec;rw[WZ C.aa]:ec a _=if a<256 then a else 256)];exact N5 a b i G.aa H)<|.inl ⟨W,W,W⟩) W<|.inr<|.inl ⟨W,W,K2⟩
 .subst h;exact jq a b c w (BQ a b (wo _ G.aa) (λi H=>by rw[(by unfold ec;rw[WZ C.aa]:ec a _=if a<256 then a else 256)];exact yX a b i G.aa H)<|.inr<|.inl ⟨W,W,W⟩) W<|.inr<|.inl ⟨W,W,K2⟩
 .subst h;exact jq a b c w (BQ a b (JO G.aa) (λi H=>by rw[(by unfold ec;rw[WZ C.aa]:ec a _=if a<256 then a else 256)];exact EO a b i G.aa H)<|.inr<|.inr ⟨W,W,W⟩) W<|.inr<|.inl ⟨W,W,K2⟩
 grind[ur,Rg]
def vm(h:i<10):i=0\/i=1\/i=2\/i=3\/i=4\/i=5\/i=6\/i=7\/i=8\/i=9:=wq
end
end cin
end Go.Proofs.YtohoajjdoihekaaGreatDoor
