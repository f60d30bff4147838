import Derived.Test.YtohoajjdoihekaaGreatDoorRa
import Derived.Laws.BytesArg
import Derived.Laws.ShiftsVarLaws
import Derived.Laws.CopyRow
import Derived.Laws.CopyOwn
import Derived.Deep.RegionLaw
import Derived.ArgAppend
import Derived.Maps.OwnSet
import Derived.Maps.OwnOps
import Derived.DeepKeys4
import Derived.Lib.AppendZerosOnto
set_option linter.unusedVariables false
set_option linter.unusedSimpArgs false
set_option linter.defProp false
namespace Go.Proofs.YtohoajjdoihekaaGreatDoor
namespace cin
open Go.RowKit Go.Maps Go.Proofs.Tryz Tryz
set_option maxRecDepth 100000
set_option maxHeartbeats 8000000
variable {w x' y w' w1 w2:WD}{n N m d k t u n' p i b a j r o q O e size g b' H E off aj amt ab m' c pb U Nq9 kind t1 t2 fr:Nat}{args vs:Ys}{I:Vm}{es:Es}{Ph:Nat->X4}{df:List Deferred}{Q:Y6}{ty kt:Vr}{pos:String}{af:U9}{gd:U6}{Post:Ending->X4}{v1 v2 v3 v' X C lv sv' mv':VL}{f sb:Vp}{s:Act}{K:K6}{xs cs:Tn}{S S':Tl}{ae cd:BA}{env:Nat->Option VL}{kl:Lit}{rest:List Oper}{ad:Gj}
def dx(n:Nat)(hn:n<9223372036854775808)(w:WD):cP 16 #[iI (n:Int)] w (lI w n):=by let⟨G,C,g2,J⟩:=gc n;have H:Hd _:=G;have D:Hd _:=C;have E:Hd _:=g2;have I:Hd _:=J;go_enter func16,ntmps16;go_wp2;refine sp (by unfold wv;rw[H.aa,D.aa,E.aa,I.aa];simp[results,results16,go_sem]) W<|dZ W ?_;grind[ai,dO]
def M0(w:WD)(L n:Nat)(e:Ending)(w':WD):=∃b r:Nat,Hd (r=n)/\e=.returned (.slice (some ⟨b,0,none⟩) L L)/\w.heap.size<=b/\w'.rowIs b 4 L (dY r.testBit)/\bW w w'
def PS(x y I b2 c1 c2:Nat)(X:Hd<|x<2^256)(Q:Hd<|y<2^256)(w:WD)(O:w.rowIs I 4 256<|dY x.testBit)(J:w.rowIs b2 4 256<|dY y.testBit):cP 173 #[sL I 256 c1,sL b2 256 c2,iI 256] w (M0 w 257<|x+y):=by
 have G:=jA 257 wq;simp at G;let⟨z,H⟩:=dP<|x+y;go_enter func173,ntmps173;go_wp2;go_loopw[8,9] (λU t9 wr=>∃i:Nat,i<=256/\t9=iI i/\U=.bool (cb x y i)/\wr.rowIs w.heap.size 4 257 (dY λj=>if j<i then z.testBit j else false)/\bW w wr)
   (λ_ t9 _=>256-nI t9)
 case atStart=>grind[cb0,bR,ai,dO]
 obtain⟨i,b,rfl,rfl,D,C⟩:=hrel;by_cases E:i<256
 .have Y:decide ((i:Int)<256)=true:=K9
  have P:=(cY O C).cell E;have L:=(cY J C).cell E;have co:=D.cell (i:=i) wq;have d:=D.frozen i;have b:=xt x y i;rw[<-H.aa]at b;have V:Hd _:=b;have R:Hd _:=(Cf x y i)
  clear b;simp only[dY]at P L co;generalize x.testBit i=p at*;generalize y.testBit i=q at*;generalize cb x y i=c at*;cases p<;>cases q<;>cases c
  all_goals go_wp2
  all_goals go_roundw
  all_goals first
   |exact⟨i+1,wq,N1,by rw[R.aa];rfl,jQ D (by rw[V.aa];rfl),kr C K2⟩
   |grind[nI]
 cases(wq:i=256)
 have d:=D.frozen 256;have co:=D.cell (i:=256) wq;go_wp2;refine IE W W ⟨_,z,H,W,DO _,?_,kr C K2⟩;refine(jQ D (by rw[H.aa];exact cb_top X.aa Q.aa:cb x y _=z.testBit _)).congr λj Z=>?_;simp_all[dY]
def Pu(x H:Nat){c1:Nat}(I:w.rowIs H 4 256<|dY x.testBit):cP 212 #[sL H 256 c1] w λe w'=>∃b:Nat,e=.returned (sL b 256 256)/\w.heap.size<=b/\w'.rowIs b 4 256 (dY λj=> !x.testBit j)/\bW w w':=by
 have G:=jA 256 wq;simp at G;go_enter func212,ntmps212;go_wp2;go_loopw[4] (λt4 wr=>∃i:Nat,i<=256/\t4=iI i/\wr.rowIs w.heap.size 4 256 (dY λj=>if j<i then !x.testBit j else false)/\bW w wr)
   (λt4 _=>256-nI t4)
 case atStart=>grind[bR,ai,dO]
 obtain⟨i,P,rfl,D,C⟩:=hrel;by_cases E:i<256
 .have L:decide ((i:Int)<256)=true:=K9
  have J:=(cY I C).cell E;have co:=D.cell wq;have P:=D.frozen i;simp only[dY]at J co;go_wp2;go_roundw;case rel=>exact⟨_,wq,N1,jQ D W,kr C K2⟩
  grind[nI]
 cases(wq:i=256)
 go_wp2;refine IE W W ⟨_,W,DO _,?_,C⟩;exact D.congr λj O=>by grind[dY]
section
variable {v:VL}{x:WD}
def SliceOf(L n:Nat)(v:VL)(x:WD):=∃b r c:Nat,Hd (r=n)/\v=.slice (some ⟨b,0,none⟩) L c/\x.rowIs b 4 L (dY r.testBit)
def SliceOf.below{L:Nat}(h:SliceOf L n v x)(H:bW x x'):SliceOf L n v x':=by let⟨b,r,c,E,C,G⟩:=h;exact⟨b,r,c,E,C,cY G H⟩
def sh(L n:Nat):Kp:=λp v x=>p=0->SliceOf L n v x
abbrev H3(L n:Nat)(x:WD)(e:Ending)(y:WD):=∃v,e=.returned v/\SliceOf L n v y/\Bl x y
def L0{L:Nat}{d:Yt}{sl:Sl}:(∀p s x x',p<sl.length->CJ N sl p s x x'->sh L n p (iY s d) x->sh L n (p+1) (iY s d) x')/\∀p v x x',Bl x x'->sh L n p v x->sh L n p v x':=⟨λ_ _ _ _ _ _ _ h=>absurd h wq,λ_ _ _ _ C h e=>(h e).below C⟩
def wB(n:Nat)(x:WD):cP 174 #[wv n] x (H3 256 n x):=(gw n x).mono λe y h=>by obtain⟨b,rfl,_,E,C⟩:=h;exact⟨_,W,⟨b,n,_,W,W,E⟩,C⟩
def addS(R:Hd<|m<2^256)(hn:Hd<|n<2^256)(u v:VL)(x:WD)(O:SliceOf 256 m u x)(U:SliceOf 256 n v x):cP 173 #[u,v,iI 256] x (H3 257 (m+n) x):=by obtain⟨H,V,c1,L,rfl,G⟩:=O;obtain⟨b2,X,c2,J,rfl,E⟩:=U;obtain rfl:=L.aa;obtain rfl:=J.aa;refine(PS V X H b2 c1 c2 R hn x G E).mono ?_;rintro e y⟨b,r,X,rfl,V,C,V⟩;exact⟨_,W,⟨b,r,_,X,W,C⟩,V⟩
def LoP(R:Nat->Yt->Kp->Prop):Es->Nat->Prop
 |[],_=>True
 |(_,.inl _)::r,i=>LoP R r<|i+1
 |(d,.inr T)::r,i=>R i d T/\LoP R r (i+1)
theorem w8{R:Nat->Yt->Kp->Prop}:∀(es:Es)(k i:Nat)(d:Yt)(T:Kp),LoP R es k->es[i]?=some (d,.l T)->R (k+i) d T
 |[],k,i,d,T,_,h=>by simp at h
 |(_,.inl _)::r,k,0,d,T,_,h=>by simp at h
 |(_,.inr _)::r,k,0,d,T,hR,h=>by simp at h;obtain⟨rfl,rfl⟩:=h;exact hR.1
 |(_,.inl _)::r,k,i+1,d,T,hR,h=>by rw[(wq:k+(i+1)=k+1+i)];exact w8 r (k+1) i d T hR h
 |(_,.inr _)::r,k,i+1,d,T,hR,h=>by rw[(wq:k+(i+1)=k+1+i)];exact w8 r (k+1) i d T hR.2 h
def loU{R:Nat->Yt->Kp->Prop}{es:Es}(h:LoP R es 0):Tw es R:=λi d T C=>by have:=w8 es 0 i d T h C;rwa[XF]at this
section
variable {D:Td}{P:Tl}{l:Tl}
def cl{f:FuncId}{L:Nat}{o:Oper}(E:I[i]?=some o)(he:es[i]?=some (some d,.l<|sh L n))(U:o.dst=some d)(J:∀x,cP f args x<|H3 L n x)(V:LO I D es P Ph df Q (p+1) l)(G:∀s x,(execOp (pG (pg I D es o) s) o).run prog x=.ok (.enter f args) x:=by intros;kernel_rfl):LO I D es P Ph df Q p (i::l):=oz E he (@λk s x _ _ _ _ K _ _ hv C=>o6 @hv (J x) (he:=G s x) (λu x' h=>by let⟨v,e,H,O⟩:=h;cases ZH e;rw[U];exact C _ _ O nn1 λ_=>H) (λl x' h=>by let⟨v,e,_⟩:=h;cases e) (λx' h=>by let⟨v,e,_⟩:=h;cases e)) V
def k0(h:P=[]\/∃j,P[0]?=some j/\qU I 3 j i=true)(H:k<=P.length)(C:∀q c,P[q]?=some c->qU I 3 c i=true->k<=q):k=0:=by
 rcases h with rfl|⟨j,G,E⟩
 .simpa using H
 simpa using C 0 j G E
def c1v{f:FuncId}{A:VL->Ys}{L:Nat}{o:Oper}(O:I[i]?=some o)(he:es[i]?=some (some d,.v v))(Z:o.dst=some d)(E:zz I es o t=some (sh L n))(G:P=[]\/∃j,P[0]?=some j/\qU I 3 j i=true)(R:∀s x,(execOp (pG (pg I D es o) s) o).run prog x=.ok (.enter f<|A<|s.tmps.getD t undef) x)(V:∀u x,SliceOf L n u x->cP f (A u) x (L2 v x))(X:LO I D es P Ph df Q (p+1) l):LO I D es P Ph df Q p (i::l):=oz O he (@λk s x Y _ _ X K C _ hv H=>by cases k0 G Y (λq c U J=>C q c U J);exact o6 @hv (V _ x<|X t _ E W) (he:=R s x) (λu x' h=>by let⟨e,Y⟩:=h;cases ZH e;rw[Z];exact H _ _ Y nn1 W) (λl x' h=>by cases h.1)<|λx' h=>by cases h.1) X
def c2s{f:FuncId}{A:VL->VL->Ys}{L E G H:Nat}{o:Oper}(V:I[i]?=some o)(he:es[i]?=some (some d,.l<|sh G H))(S:o.dst=some d)(J:zz I es o t=some (sh L n))(X:zz I es o u=some (sh E n'))(O:P=[]\/∃j,P[0]?=some j/\qU I 3 j i=true)(Y:∀s x,(execOp (pG (pg I D es o) s) o).run prog x=.ok (.enter f<|A (s.tmps.getD t undef)<|s.tmps.getD u undef) x)(y:∀u v x,SliceOf L n u x->SliceOf E n' v x->cP f (A u v) x (H3 G H x))(b:LO I D es P Ph df Q (p+1) l):LO I D es P Ph df Q p (i::l):=oz V he (@λk s x z _ _ b K C _ hv R=>by cases k0 O z (λq c Z U=>C q c Z U);exact o6 @hv (y _ _ x (b t _ J W)<|b u _ X W) (he:=Y s x) (λu x' h=>by let⟨v,e,g,z⟩:=h;cases ZH e;rw[S];exact R _ _ z nn1 λ_=>g) (λl x' h=>by let⟨v,e,_⟩:=h;cases e) (λx' h=>by let⟨v,e,_⟩:=h;cases e)) b
def asl{L:Nat}(G:I[i]?=some ⟨some d,.assign<|.tmp t,ty,pos,af,gd⟩)(he:es[i]?=some (some d,.l<|sh L n))(J:zz I es ⟨some d,.assign<|.tmp t,ty,pos,af,gd⟩ t=some (sh L n))(O:LO I D es P Ph df Q (p+1) l):LO I D es P Ph df Q p (i::l):=oz G he (@λk s x _ _ C O K _ _ H E=>by clear C;have h:=E _ x (dO _ _) nn1<|O t _ J;rw[Xh]at h;clear E O H;go_simp;exact h) O
end
def pz(f:Nat):=∀args w,(callFunc f args).run prog w=.ok (.enter f args) w
def eK{f:Nat}{C:Array Operand}{A:Array Vr}{J:Vr}(I:pz f)(E:#[]++C.map s.eval++#[]=vs)(G:cP f vs x Post)(H:∀e D,Post e D->∃r,e=.returned r/\K (Wb s d r) D):Oper.wp prog ⟨some d,.call ⟨.value<|.func f,C,A⟩,J,pos,af,gd⟩ s x K Q:=by unfold Oper.wp;rw[execOp_call_go,E,I];rw[Oper.upon_enter];refine G.mono ?_;grind
def za{C:Operand}(D:s.eval C=v1):#[]++(#[C]:Array Operand).map s.eval++#[]=#[v1]:=by simp[D]
def xa{D C:Operand}(E:s.eval D=v1)(G:s.eval C=v2):#[]++(#[D,C]:Array Operand).map s.eval++#[]=#[v1,v2]:=K9
def PE{E D C:Operand}(H:s.eval E=v1)(G:s.eval D=v2)(I:s.eval C=v3):#[]++(#[E,D,C]:Array Operand).map s.eval++#[]=#[v1,v2,v3]:=K9
def ey{O:Vr}(he:tG s t<|pt b)(G:tG s u<|wv n)(L:x.rowIs b 24 4 f)(D:∀C,C.rowIs b 24 4 (dz<|cX n)->C=sC (sC (sC (sC x b 0<|lu n 0) b 1<|lu n 1) b 2<|lu n 2) b 3 (lu n 3)->K (s.put none undef) C):Oper.wp prog ⟨none,.store 24 (.tmp t)<|.tmp u,O,pos,af,gd⟩ s x K Q:=by have x0:=L.cell (i:=0) wq;have H:=L.cell (i:=1) wq;have J:=L.cell (i:=2) wq;have I:=L.cell (i:=3) wq;have E:=L.frozen;have h:=D _ (di L<|cX n) W;clear D L;go_simp;exact h
def xZ(h:a<M):Hd (a<2^256):=by show _<_;omega
def hi_var(r n p:Nat)(D:p=2^n)(h:r<p+p)(C:n+1<=j):r.testBit j=false:=by refine oo ?_ C;omega
def Wc(D:r=a+b)(ha:a<M)(D:b<M):Hd (∀j,257<=j->r.testBit j=false):=λ_ C=>hi_var r 256 M vF wq wq
def vp(h:r<M):Hd (∀j,256<=j->r.testBit j=false):=λ_ C=>oo (xZ h).aa C
def JU(ha:Hd<|a<M)(Q:Hd<|b<M)(w:WD):cP 120 #[wv a,wv b] w (lI w<|kQ a b):=by
 have U:=SS.start w a b;go_enter func120,ntmps120;go_wp2;have C:=Q;clear Q;refine qq (Jq9:=SS w a b) (N:=0) (D:=[(2,.pointer _),(3,.pointer _)]) (es:=[(some 6,.v<|wv a),(some 7,.l<|sh 256 a),(some 8,.v<|wv b),(some 9,.l<|sh 256 b),(some 10,.l<|sh 257<|a+b),(some 5,.l<|sh 257<|a+b)]) (P:=[]) (loads:=[0,1,2,3,4,5]) (news:=[]) [] W W U (λ_ _ h Q=>h.call Q) True.intro
  (tu W W W (λ_ _ h=>h.ra)<|cl W W W (wB a)<|tu W W W (λ_ _ h=>h.rb)<|cl W W W (wB b)<|c2s (t:=7) (u:=9) (A:=λu v=>#[u,v,iI 256]) W W W W W (LZ W) (λ_ _=>N0) (addS (xZ ha.aa)<|xZ C.aa)<|asl W W W True.intro) True.intro
  (loU<|aIn L0<|aIn L0<|aIn L0<|aIn L0 True.intro) ?_
 intro g x U V _;let⟨p,r,c,G,e,E⟩:=V 5 _ _ W W;simp only[n8,sx9];rw[e];clear V e;go_wp2_with fail
 refine(lS r _ p c wq (Wc G ha.aa C.aa) _ E).mono ?_;rintro e H⟨rfl,Q⟩;let⟨⟨x0,O,L,I⟩,J,V⟩:=qN r (cY U.rz Q)<|eB U.be Q;clear Q;go_wp2;exact gY (V _ W).1<|dZ (by rw[G.aa];unfold kQ;rw[Yu]) (V _ W).2
def lC(a b:Nat)(w:WD):cP 120 #[wv a,wv b] w (lI w<|kQ (a%M)<|b%M):=by rw[<-jJ a,<-jJ b];exact JU (Xs _ jm) (Xs _ jm) w
structure S1(w:WD)(a:Nat)(x:WD):Prop where
 ra:x.rowIs w.heap.size 24 4 (dz (cX a))
 rz:x.rowIs (w.heap.size+1) 24 4 (dz λ_=>0)
 be:Below w.heap.size w x
def S1.call(h:S1 w a x)(C:bW x y):S1 w a y:=⟨cY h.ra C,cY h.rz C,eB h.be C⟩
def S1.start(w:WD)(a:Nat):S1 w a ((w.alloc<|.cells (lW a) 24).alloc<|.cells #[iU 0,iU 0,iU 0,iU 0] 24):=⟨de (cX a) W W W W W |>.alloc _,de (λ_=>0) K2 rfl rfl rfl rfl,ai (ai (dO _ _) _) _⟩
def N7(a j:Nat)(ha:a<M)(C:j<256):(!a.testBit j)=(M-1-a).testBit j:=by rw[vF]at*;rw[(wq:2^256-1-a=2^256-(a+1)),Nat.testBit_two_pow_sub_succ ha,OsQ C,YG]
def RA(a:Nat)(ha:a<M):kQ ((M-1-a)%M) (1%M)=mV a:=by unfold kQ mV M at*;omega
def K8(ha:Hd<|a<M)(w:WD):cP 172 #[wv a] w (lI w<|mV a):=by
 have d:=S1.start w a;go_enter func172,ntmps172;go_wp2_with fail
 refine(gw a _).mono ?_;rintro e Q⟨p,rfl,g,f,c⟩;replace d:=d.call c;clear c;go_wp2_with fail
 refine(Pu a p f).mono ?_;rintro e O⟨p2,rfl,G,C,c⟩;replace d:=d.call c;clear c f g G;let⟨r,E⟩:=dP<|M-1-a;replace C:O.rowIs p2 4 _ (dY r.testBit):=C.congr λj L=>by simp only[dY];rw[E.aa,N7 a j ha.aa L]
 go_wp2_with fail
 refine(lS r _ p2 _ wq (vp (by rw[E.aa];grind)) _ C).mono ?_;rintro e R⟨rfl,c⟩;replace d:=d.call c;clear c C;go_wp2_with fail
 refine(dx 1 wq _).mono ?_;rintro e P⟨o,I,rfl,c⟩;replace d:=d.call c;clear c;go_wp2_with fail
 refine(lC r o _).mono ?_;rintro e Z⟨s,J,rfl,c⟩;replace d:=d.call c;clear c;have D:=d.rz;have H:=d.be;let⟨⟨x0,Y,X,U⟩,V⟩:=Fa D;go_wp2;refine gY (di D<|cX s) (dZ (by rw[J.aa,E.aa,I.aa,RA a ha.aa]) ?_);grind[bd]
def it(a:Nat)(w:WD):cP 172 #[wv a] w (lI w<|mV<|a%M):=by rw[<-jJ a];exact K8 (Xs _ jm) w
def SM(a b:Nat):kQ (a%M) (mV (b%M)%M)=ku (a%M) (b%M):=by grind[kQ,mV,ku]
def pP(a b:Nat)(w:WD):cP 119 #[wv a,wv b] w (lI w<|ku (a%M)<|b%M):=by
 have G:=S3.start w a b;let⟨m,C⟩:=dP<|mV<|b%M;let⟨r,E⟩:=dP<|kQ (a%M)<|m%M;go_enter func119,ntmps119;go_wp2;refine sx (Jq9:=S3 w a b) (Zq9:=w.heap.size+1+1) (q:=r) (D:=[(2,.pointer _),(3,.pointer _),(4,.pointer _)]) (es:=nV 5 [wv a,wv b,wv m,wv r]++[(none,.v undef)]) (c:=4) (loads:=[0,1,2,3]) W W W W W G (λ_ _ h H=>h.call H) (λ_ h=>h.rz) (λ_ h=>h.put r)
  (tu W W W (λ_ _ h=>h.1.ra)<|tu W W W (λ_ _ h=>h.1.rb)<|cv W W W (rv (it b) C)<|cv W W W (rv (lC a m) E) True.intro) ?_
 intro g x G H;simp only[n8,sx9];go_wp2;exact gY H<|dZ (by rw[E.aa,C.aa,SM]) G.be
theorem Si(a b k:Nat)(D:k<4)(h:cX a k=cX b k):bw a b (k+1)=bw a b k:=by have C:=FH a b k D;grind[bw]
def Sb(a b k:Nat)(E:k<4)(h:cX a k≠cX b k):(bw a b (k+1):Int)=if cX a k<cX b k then 1 else 0:=by have D:=FH a b k E;have C:=Wh a b k;omega
def WE(a b m:Nat)(C:m<=4)(h:∀j,m<=j->j<4->cX a j=cX b j):bw a b 4=bw a b m:=by
 have N:∀d,d<=4-m->bw a b (m+d)=bw a b m:=by
  intro d;induction d with
  |zero=>simp
  |succ d D=>grind[ZB,Si]
 have:=N _<|DO _;grind
def Tf(a b m:Nat)(C:m<4)(h:∀j,m+1<=j->j<4->cX a j=cX b j)(hne:cX a m≠cX b m):decide (cX a m<cX b m)=iX a b:=by rw[<-FF,WE a b _ wq h,Sb a b m C hne];grind
def QA(a b:Nat)(h:∀j,0<=j->j<4->cX a j=cX b j):iX a b=false:=by rw[<-FF,WE a b 0 wq h];grind[bw]
def jz(a b:Nat)(w:WD):cP 66 #[wv a,wv b] w (rT (.bool<|iX a b) w):=by
 go_enter func66,ntmps66;go_wp2;go_loopw[5] (λt5 wr=>∃i:Nat,i<=4/\t5=iI ((i:Int)-1)/\wr.rowIs w.heap.size 24 4 (dz<|cX a)/\wr.rowIs (w.heap.size+1) 24 4 (dz<|cX b)/\
   Hd (∀j,i<=j->j<4->cX a j=cX b j)/\bW w wr)
   (λt5 _=>(RowKit.intOf t5+1).toNat)
 case atStart=>exact⟨4,wq,W,(de _ W W W W W).alloc _,de _ K2 W W W W,λj O J=>wq,ai (ai (dO _ _) _) _⟩
 obtain⟨i,U,rfl,D,G,U,C⟩:=hrel;by_cases H:i=0
 .subst H;have E:Hd _:=QA a b U.aa;go_wp2;go_ret;exact⟨by rw[E.aa];rfl,C⟩
 obtain⟨m,rfl⟩:∃m,i=m+1:=⟨i-1,wq⟩
 rw[show(((m+1:Nat):Int)-1)=m by omega];have P:=D.cell (i:=m) wq;have L:=G.cell (i:=m) wq;simp only[dz]at P L;by_cases I:cX a m=cX b m
 .rw[<-I]at L;have HE:Hd _:=I;go_wp2;go_region;all_goals go_wp2
  all_goals go_roundw
  case rel=>exact⟨m,wq,W,D,G,λj O J=>(by rcases XJ m j with h|h;exact U.aa j h J;cases(wq:j=m);exact HE),C.drew⟩
  simp_all[RowKit.intOf]
 have V:(cX a m !=cX b m)=true:=K9
 have Q:Hd _:=Tf a b m wq U.aa I;go_wp2;go_region;all_goals go_wp2
 all_goals go_region
 all_goals go_wp2
 all_goals go_ret
 all_goals exact⟨by rw[<-Q.aa];rfl,C.drew.drew⟩
def jY(h:Bool)(w:WD):cP 189 #[.bool h] w (lI w<|jM h):=by
 have O:∀w:WD,(w.alloc _).rowIs _ 24 4 _:=λw=>de (λ_=>0) W W W W W;have C:=O w;have D:=ai (dO _ w)<|.cells #[iU 0,iU 0,iU 0,iU 0] 24;cases h
 .go_enter func189,ntmps189;go_wp2_with fail
  refine(dx 0 wq _).mono ?_;rintro e H⟨r,E,rfl,O⟩;replace C:=cY C O;replace D:=eB D O;let⟨⟨x0,I,L,J⟩,G⟩:=Fa C;go_wp2;refine gY (di C<|cX r) (dZ (by rw[E.aa];rfl) ?_);grind[bd]
 go_enter func189,ntmps189;go_wp2_with fail
 refine(dx 1 wq _).mono ?_;rintro e H⟨r,E,rfl,O⟩;replace C:=cY C O;replace D:=eB D O;let⟨⟨x0,I,L,J⟩,G⟩:=Fa C;go_wp2;refine gY (di C<|cX r) (dZ (by rw[E.aa];rfl) ?_);grind[bd]
def oL(a:Nat)(w:WD):cP 248 #[wv a] w (rT (.bool<|neg a) w):=by go_enter func248,ntmps248;go_wp2;go_ret;exact⟨by rw[<-(by show _=_;unfold cX neg M;grind:Hd<|(decide (9223372036854775808<=cX a 3))=neg a).aa];rfl,ai (dO _ _) _⟩
def Aw(a:Nat)(w:WD):cP 247 #[wv a] w (lI w<|gL<|a%M):=by
 have X:=S1.start w a;go_enter func247,ntmps247;go_wp2_with fail
 refine(oL a _).mono ?_;rintro e U⟨rfl,Y⟩;replace X:=X.call Y;have C:=X.rz;have D:=X.be;let⟨⟨x0,J,I,G⟩,H⟩:=Fa C;let⟨Q,L,R,O⟩:=cW X.ra;cases Z:neg a
 .have E:Hd _:=Z;go_wp2;refine gY (di C<|cX a) (dZ (by unfold gL;rw[gn,E.aa,iF K3,Yu]) ?_);grind[bd]
 have E:Hd _:=Z;go_wp2_with fail
 refine(it a _).mono ?_;rintro e V⟨s,P,rfl,Y⟩;replace C:=cY C Y;replace D:=eB D Y;clear x0 J I G H Y X Q L R O;let⟨⟨x0,J,I,G⟩,H⟩:=Fa C;go_wp2;refine gY (di C<|cX s) (dZ (by rw[P.aa];unfold gL;rw[gn,E.aa,At W]) ?_);grind[bd]
def RU(a:Nat)(h:cX a 0=0/\cX a 1=0/\cX a 2=0/\cX a 3=0):Hd (a%M=0):=by show _=_;let⟨E,D,C,G⟩:=h;unfold cX at E D C G;grind
def wj(a k:Nat)(C:k<4)(h:cX a k≠0):Hd (a%M≠0):=by show _≠_;unfold cX at h;unfold M;grind[k4,Je,LP,Li,Ij]
def je(a:Nat)(w:WD):cP 67 #[wv a] w (rT (.bool<|decide (a%M=0)) w):=by
 by_cases C:cX a 0=0
 .by_cases D:cX a 1=0
  .by_cases E:cX a 2=0
   .by_cases G:cX a 3=0
    .unfold wv;rw[C,D,E,G];go_enter func67,ntmps67;go_wp2;go_ret;exact⟨by rw[OsQ (RU a ⟨C,D,E,G⟩).aa];rfl,ai (dO _ _) _⟩
    have H:(cX a 3==0)=false:=K9
    unfold wv;rw[C,D,E];go_enter func67,ntmps67;go_wp2;go_ret;exact⟨by rw[W8 (wj a 3 wq G).aa];rfl,ai (dO _ _) _⟩
   have H:(cX a 2==0)=false:=K9
   unfold wv;rw[C,D];go_enter func67,ntmps67;go_wp2;go_ret;exact⟨by rw[W8 (wj a 2 wq E).aa];rfl,ai (dO _ _) _⟩
  have H:(cX a 1==0)=false:=K9
  unfold wv;rw[C];go_enter func67,ntmps67;go_wp2;go_ret;exact⟨by rw[W8 (wj a 1 wq D).aa];rfl,ai (dO _ _) _⟩
 have H:(cX a 0==0)=false:=K9
 unfold wv;go_enter func67,ntmps67;go_wp2;go_ret;exact⟨by rw[W8 (wj a 0 wq C).aa];rfl,ai (dO _ _) _⟩
def ec(a m:Nat):Nat:=if a%M<m then a%M else m
def int_lo(a:Nat)(h:cX a 1=0/\cX a 2=0/\cX a 3=0):cX a 0=((a%M:Nat):Int):=by let⟨D,C,E⟩:=h;unfold cX at*;grind
def Ga(a m k:Nat)(C:m<18446744073709551616)(E:k<4)(D:0<k)(h:cX a k≠0):Hd (ec a m=m):=by
 show _=_;unfold ec;rw[iF];unfold cX at h;unfold M;rcases k4 E with rfl|rfl|rfl|rfl
 .omega
 .omega
 .omega
 omega
def ij(a m:Nat)(J:m<1000000)(w:WD):cP 182 #[wv a,iI (m:Int)] w (rT (iI (ec a m:Int)) w):=by
 by_cases D:cX a 1=0
 .by_cases E:cX a 2=0
  .by_cases H:cX a 3=0
   .have I:=int_lo a ⟨D,E,H⟩;unfold wv;rw[I,D,E,H];have G:Hd (ec a m=if a%M<m then a%M else m):=rfl;by_cases C:a%M<m
    .rw[At C]at G;generalize a%M=r at*;go_enter func182,ntmps182;go_wp2;go_ret;exact⟨by rw[G.aa];rfl,ai (dO _ _) _⟩
    rw[iF C]at G;generalize a%M=r at*;go_enter func182,ntmps182;go_wp2;go_ret;exact⟨by rw[G.aa];rfl,ai (dO _ _) _⟩
   unfold wv;rw[D,E];go_enter func182,ntmps182;go_wp2;go_ret;exact⟨by rw[(Ga a m 3 wq wq wq H).aa];rfl,ai (dO _ _) _⟩
  unfold wv;rw[D];go_enter func182,ntmps182;go_wp2;go_ret;exact⟨by rw[(Ga a m 2 wq wq wq E).aa];rfl,ai (dO _ _) _⟩
 unfold wv;go_enter func182,ntmps182;go_wp2;go_ret;exact⟨by rw[(Ga a m 1 wq wq wq D).aa];rfl,ai (dO _ _) _⟩
theorem JB(a:Nat):ui a 0=0:=Nat.div_zero a
theorem wn(a:Nat):lM a 0=0:=rfl
theorem Ap:gL 0=0:=R5
theorem zM:mV 0=0:=R5
def L7(a:Nat):nQ a 0=0:=by grind[nQ,Ap,JB,zM]
def Oc(a:Nat):od a 0=0:=by grind[od,Ap,wn,zM]
def tbM(n i:Nat):(n%M).testBit i=(decide (i<256)&&n.testBit i):=by show(n%2^256).testBit i=_;rw[XQ]
def QF(h:n<M)(hi:256<=i):n.testBit i=false:=oo (L:=256) h hi
def ye(a b i:Nat)(ha:a<256)(hi:i<256):(mX a b).testBit i=(decide (a<=i)&&b.testBit (i-a)):=by unfold mX;rw[At ha,tbM,OsQ hi,YG,Nat.testBit_mul_two_pow]
def DT(a b i:Nat)(ha:a<256):(tV a b).testBit i=b.testBit (i+a):=by grind[tV]
def xV(a i:Nat)(ha:a<M)(hi:i<256):(zbA a).testBit i= !a.testBit i:=by unfold zbA;rw[(K2:M-1-a=2^256-(a+1)),Nat.testBit_two_pow_sub_succ ha,OsQ hi,YG]
def SA(b:Nat)(C:b<M):neg b=b.testBit 255:=by rw[qy b 255];rw[(K3:2^255=57896044618658097711785492504343953926634992332820282019728792003956564819968)];unfold neg M at*;grind
def IA(b:Nat)(n:Int)(dQ:Bool)(i:Nat):Bool:=if 0<=(i:Int)-n/\(i:Int)-n<256 then b.testBit ((i:Int)-n).toNat else dQ
def N5(a b i:Nat)(D:b<M)(hi:i<256):(mX a b).testBit i=IA b ((if a<256 then a else 256:Nat):Int) false i:=by
 by_cases C:a<256
 .rw[ye a b i C hi,At C];grind[IA]
 grind[mX,IA]
def yX(a b i:Nat)(D:b<M)(hi:i<256):(tV a b).testBit i=IA b (-((if a<256 then a else 256:Nat):Int)) false i:=by
 by_cases C:a<256
 .rw[DT a b i C,At C];unfold IA;by_cases h:i+a<256
  .grind
  rw[AQ];exact QF D wq
 grind[tV,IA]
def EO(a b i:Nat)(E:b<M)(hi:i<256):(vN a b).testBit i=IA b (-((if a<256 then a else 256:Nat):Int)) (b.testBit 255) i:=by
 unfold vN;rw[SA b E];cases h:b.testBit 255
 .rw[iF K3,yX a b i E hi]
 rw[At W];have D:zbA b<M:=by unfold zbA;omega
 rw[xV _ i (wo a D) hi,yX a _ i D hi];unfold IA;by_cases C:0<=(i:Int) - -((if a<256 then a else 256:Nat):Int)/\(i:Int) - -((if a<256 then a else 256:Nat):Int)<256
 .rw[At C,At C,xV b _ E wq,Bool.not_not]
 grind
def Al(a b i:Nat)(ha:a<32)(C:b<M)(hi:i<256):(nj a b).testBit i=(decide (i<8)&&b.testBit (8*(31-a)+i)):=by unfold nj;rw[At ha,show 256=2^8 from W,XQ,DT _ _ _ wq,Nat.add_comm i]
def LB(a b i:Nat)(ha:a<31)(C:b<M)(hi:i<256):(ni a b).testBit i=if i<8*a+8 then b.testBit i else b.testBit (8*a+7):=by
 unfold ni;rw[At ha,EO _ _ i (by grind[mX]:mX (248-8*a) b<M) hi,AV,ye _ _ _ wq wq,OsQ wq,YG];unfold IA;by_cases h:i<8*a+8
 .rw[AV,At h,ye _ _ _ wq wq,OsQ wq,YG];grind
 grind
def ID(a b:Nat)(ha:a<M)(C:b<M):iX (kQ a 57896044618658097711785492504343953926634992332820282019728792003956564819968) (kQ b 57896044618658097711785492504343953926634992332820282019728792003956564819968)=vh a b:=by unfold iX kQ vh neg M at*;grind[WZ]
def C3(a i k:Nat):(a*2^i).testBit (i+k)=a.testBit k:=K9
def sh_lt(a i k:Nat)(ha:a<M)(C:256<=k):a*2^i<2^(i+k):=by rw[Yw,YC];refine Nat.mul_lt_mul_of_pos_left ?_<|Yq _;grind[Xg,Eg]
def EJ(h:b.testBit i=true):a*(b%2^i)+a*2^i=a*(b%2^(i+1)):=by rw[vk,h,At W,Nat.mul_add]
def Rf(h:b.testBit i=false):a*(b%2^i)=a*(b%2^(i+1)):=by grind[vk]
def sh_low(a i j:Nat)(h:j<=i):(a*2^i)%2^j=0:=by
 obtain⟨d,rfl⟩:∃d,i=j+d:=⟨i-j,wq⟩
 grind[Yw,YC,ZC,Nat.mul_mod_left]
theorem NE(h:j<=i):cb o (a*2^i) j=false:=by unfold cb;rw[sh_low a i j h];exact W8 wq
def Ob(h:j<i):(o+a*2^i).testBit j=o.testBit j:=by grind[xt,NE,W8]
structure PR(w:WD)(a b p q r:Nat)(x:WD):Prop where
 rp:x.rowIs p 4 256 (dY a.testBit)
 rq:x.rowIs q 4 256 (dY b.testBit)
 hp:p<r
 hq:q<r
 hr:w.heap.size<=r
 be:Below w.heap.size w x
theorem PR.set(h:PR w a b p q r x)(j:Nat)(v:VL):PR w a b p q r (x.setCell ⟨r,j,none⟩ v):=⟨h.rp.setOther (by have:=h.hp;grind) _,h.rq.setOther (by have:=h.hq;grind) _,h.hp,h.hq,h.hr,kr h.be h.hr⟩
def zv(ha:Hd<|a<M)(Z:Hd<|b<M)(w:WD):cP 213 #[wv a,wv b] w (M0 w 512<|a*b):=by
 have m:=jA 512 wq;simp at m;have G:=ai (ai (dO _ w)<|.cells #[lu a 0,lu a 1,lu a 2,lu a 3] 24)<|.cells #[lu b 0,lu b 1,lu b 2,lu b 3] 24;have L:=de (w:=w.alloc<|.cells #[lu a 0,lu a 1,lu a 2,lu a 3] 24) (n:=w.heap.size+1) (t:=24) (cX b) K2 W W W W;go_enter func213,ntmps213;go_wp2_with fail
 refine(gw a _).mono ?_;rintro e s⟨p,rfl,_,I,l⟩;replace L:=cY L l;replace G:=eB G l;let⟨c0,c1,c2,c3⟩:=cW L;go_wp2_with fail
 refine(gw b _).mono ?_;rintro e T⟨q,rfl,_,Q,l⟩;replace I:=cY I l;replace G:=eB G l;have hs:PR w a b p q _ (T.alloc<|.cells (madeCells #[.bool false] 512) 4):=⟨I.alloc _,Q.alloc _,I.lt,Q.lt,G.size,ai G _⟩
 have C:(T.alloc _).rowIs _ 4 512 (dY (0:Nat).testBit):=bR W λj _=>K2
 go_wp2;generalize T.heap.size=r at*;go_loopw[8] (λg wr=>∃i o:Nat,i<=256/\g=iI i/\PR w a b p q r wr/\wr.rowIs r 4 512 (dY o.testBit)/\Hd (o=a*(b%2^i)))
   (λg _=>256-nI g)
 case atStart=>exact⟨0,0,wq,W,hs,C,by show _=_;grind⟩
 obtain⟨i,o,l,rfl,hs,C,V⟩:=hrel;by_cases X:i<256
 .have N:decide ((i:Int)<256)=true:=K9
  have d:=hs.rq.cell X;simp only[dY]at d;cases l:b.testBit i
  .rw[l]at d;have U:Hd _:=l;go_wp2;go_roundw;case rel=>exact⟨i+1,o,wq,N1,hs,C,by show _=_;rw[V.aa,Rf U.aa]⟩
   simp[nI];omega
  rw[l]at d;have U:Hd _:=l;let⟨H,O⟩:=dP<|a*2^i;let⟨z,P⟩:=dP<|o+H;go_wp2;go_loopw[9,10] (λt9 J l=>∃k:Nat,k<=512/\J=iI k/\t9=.bool (cb o H<|i+k)/\PR w a b p q r l/\l.rowIs r 4 512 (dY λj=>if j<i+k then z.testBit j else o.testBit j))
    (λ_ J _=>512-nI J)
  case atStart=>
   refine⟨0,wq,W,by rw[Ye,O.aa,NE<|DO _],hs,C.congr λj _=>?_⟩;simp only[dY];by_cases h:j<i+0
   .rw[At h,P.aa,O.aa,Ob wq]
   rw[iF h]
  obtain⟨k,l,rfl,rfl,hs,C⟩:=hrel;have HE:Hd _:=ZB i k 1;by_cases Y:k<256
  .have A:decide ((k:Int)<256)=true:=N3
   have l:=hs.rp.cell Y;have co:=C.cell (i:=i+k) wq;have fo:=C.frozen<|i+k;have R:=C3 a i k;rw[<-O.aa]at R;have D:=xt o H<|i+k;have E:=Cf o H<|i+k;rw[R]at D E;rw[<-P.aa]at D;have y:Hd _:=D;have f:Hd _:=E;simp only[dY,Yg,Zw]at l co;generalize o.testBit (i+k)=u at*;generalize a.testBit k=v at*;generalize cb o H (i+k)=c at*;cases u<;>cases v<;>cases c
   all_goals go_wp2
   all_goals go_roundw
   all_goals first
    |exact⟨k+1,wq,N1,by rw[<-HE.aa,f.aa];rfl,hs.set _ _,(jQ C (by rw[y.aa];rfl)).congr λj _=>R5⟩
    |(simp[nI];omega)
  have A:decide ((k:Int)<256)=false:=N3
  cases l:cb o H<|i+k
  .have F:Hd _:=l;go_wp2;go_roundw;case rel=>
    refine⟨i+1,z,wq,N1,hs,C.congr λj _=>?_,by show _=_;rw[P.aa,V.aa,O.aa,EJ U.aa]⟩;simp only[dY];by_cases h:j<i+k
    .rw[At h]
    rw[iF h,P.aa,sv o H j (by rw[O.aa];exact sh_lt a i k ha.aa wq) F.aa wq]
   simp[nI];omega
  by_cases K:i+k<512
  .have S:decide (512<=(i:Int)+k)=false:=N3
   have co:=C.cell K;have fo:=C.frozen<|i+k;have R:=C3 a i k;rw[<-O.aa,QF ha.aa wq]at R;have D:=xt o H<|i+k;have E:=Cf o H<|i+k;rw[R,l]at D E;rw[<-P.aa]at D;have y:Hd _:=D;have f:Hd _:=E;simp only[dY,Yg,Zw]at co;generalize o.testBit (i+k)=u at*;cases u;all_goals go_wp2
   all_goals go_roundw
   all_goals first
    |exact⟨k+1,wq,N1,by rw[<-HE.aa,f.aa];rfl,hs.set _ _,(jQ C (by rw[y.aa];rfl)).congr λj _=>by rw[HE.aa]⟩
    |(simp[nI];omega)
  have S:decide (512<=(i:Int)+k)=true:=N3
  go_wp2;go_roundw;case rel=>refine⟨i+1,z,wq,N1,hs,C.congr λj _=>?_,by show _=_;rw[P.aa,V.aa,O.aa,EJ U.aa]⟩;simp only[dY];rw[AV]
  simp[nI];omega
 cases(wq:i=256)
 go_wp2;refine IE W W ⟨_,o,?_,W,hs.hr,C,hs.be⟩;show _=_;rw[V.aa,WZ Z.aa]
def p4(h:i<4):i=0\/i=1\/i=2\/i=3:=wq
def nt(s:BA):BA:=if decide (2<s.size)&&((s.extract 0 2).toList==x0.toList)then s.extract 2 s.size else s
def nb(s:BA):Nat:=if decide (2<s.size)&&((s.extract 0 2).toList==x0.toList)then 16 else 10
def Ha{s t:BA}(h:bl s=bl t):s=t:=by let⟨⟨a⟩⟩:=s;let⟨⟨b⟩⟩:=t;have e:a=b:=h;rw[e]
def lk:List (Vf×Nat)->Vf->Yt
 |[],_=>none
 |(a,v)::r,l=>if l=a then some v else lk r l
def pr(o:Yt):VL:=.tuple #[.int .u8 ((o.getD 0:Nat):Int),.bool o.isSome]
def tabCmp:List (Vf×Nat):=[([76,84],16),([71,84],17),([83,76,84],18),([83,71,84],19),([69,81],20),([73,83,90,69,82,79],21),([65,78,68],22),([79,82],23),([88,79,82],24),([78,79,84],25),([66,89,84,69],26),([83,72,76],27),([83,72,82],28),([83,65,82],29)]
def tabRec:List (Vf×Nat):=[([65,68,68],1),([77,85,76],2),([83,85,66],3),([68,73,86],4),([83,68,73,86],5),([77,79,68],6),([83,77,79,68],7),([65,68,68,77,79,68],8),([77,85,76,77,79,68],9),([69,88,80],10),([83,73,71,78,69,88,84,69,78,68],11)]
def tabSur:List (Vf×Nat):=[([83,84,79,80],0),([65,68,68,82,69,83,83],48),([66,65,76,65,78,67,69],49),([67,65,76,76,69,82],51),([67,65,76,76,86,65,76,85,69],52),([67,65,76,76,68,65,84,65,76,79,65,68],53),([67,65,76,76,68,65,84,65,83,73,90,69],54),([67,65,76,76,68,65,84,65,67,79,80,89],55),([67,79,68,69,83,73,90,69],56),([67,79,68,69,67,79,80,89],57),([82,69,84,85,82,78,68,65,84,65,83,73,90,69],61),([82,69,84,85,82,78,68,65,84,65,67,79,80,89],62),([67,65,76,76],241),([82,69,84,85,82,78],243),([68,69,76,69,71,65,84,69,67,65,76,76],244),([83,84,65,84,73,67,67,65,76,76],250),([82,69,86,69,82,84],253)]
def tabKee:List (Vf×Nat):=[([80,79,80],80),([77,76,79,65,68],81),([77,83,84,79,82,69],82),([77,83,84,79,82,69,56],83),([83,76,79,65,68],84),([83,83,84,79,82,69],85),([74,85,77,80],86),([74,85,77,80,73],87),([80,67],88),([77,83,73,90,69],89),([71,65,83],90),([74,85,77,80,68,69,83,84],91),([84,76,79,65,68],92),([84,83,84,79,82,69],93),([77,67,79,80,89],94)]
def BH(k:Nat):BA:=if k<10 then⟨#[UInt8.ofNat<|48+k]⟩else⟨#[49,UInt8.ofNat<|38+k]⟩
def dup(i:Nat):BA:=⟨#[68,85,80]⟩++BH (i+1)
def swp(i:Nat):BA:=⟨#[83,87,65,80]⟩++BH (i+1)
def lgs(i:Nat):BA:=⟨#[76,79,71]⟩++BH i
def T6(l:Vf):Nat->Nat->Yt
 |0,_=>none
 |f+1,i=>if l=bl (dup i)then some (128+i)else if l=bl (swp i)then some (144+i)else T6 l f<|i+1
def YZ(l:Vf):Nat->Nat->Yt
 |0,_=>none
 |f+1,i=>if l=bl (lgs i)then some (160+i)else YZ l f<|i+1
def FN(s:BA):Yt:=(T6 (bl s) 16 0).orElse λ_=>YZ (bl s) 5 0

def vB(f:Vq):Vp:=λi=>.int .u8 (f i:Int)
def vY(n m:Nat):Nat:=n/2^(8*m)%256
def OQ(n i k:Nat)(C:k<8):lb n i/2^(8*k)%256=vY n (8*i+k):=by unfold lb vY;have e:256=2^8:=rfl;rw[Ba,e,(wq:8*(8*i+k)=64*i+8*k)];apply XY;intro j;simp only[XQ,XZ];grind
def oE(n:Nat)(hn:n<=281474976710656)(w:WD):(Instr.makeSlice 26 (iI (n:Int))<|iI (n:Int)).run prog w=.ok (sL w.heap.size n n) (w.alloc<|.cells (madeCells #[iB 0] n) 5):=run_make_row' 26 5 (iB 0) 1 N0 N0 W .i64 .i64 n wq wq w
def GG{t:Vr}{f:Vq}(D:b=w.heap.size)(h:∀j,j<n->f j=0):(w.alloc<|.cells (madeCells #[iB 0] n) t).rowIs b t n (vB f):=by subst D;exact(World.rowIs_made w _ n t).congr λj C=>by grind[vB]
def Ks{t:Vr}{f g:Vq}(h:w.rowIs b t n<|vB λi=>if k+1<=i then f i else g i){x:Int}(C:x=(f k:Int)):(w.setCell ⟨b,k,none⟩<|iB x).rowIs b t n (vB λi=>if k<=i then f i else g i):=by subst C;refine(h.set k _).congr λi _=>?_;grind[vB]
def pw(n:Nat):BA:=strOfNums<|(List.range 32).map λj=>((vY n (31-j):Nat):Int)
def qk(n:Nat):Calls prog 177 #[wv n] w λe w'=>e=.returned (.string<|pw n)/\Below w.heap.size w w':=by
 have Q:=oE 32 wq;simp at Q;go_enter func177,ntmps177;go_wp2
 go_loopw[4] (λt4 wr=>∃i:Nat,i<=4/\t4=.int .i64 i/\wr.rowIs w.heap.size 24 4 (dz<|cX n)/\
   wr.rowIs (w.heap.size+1) 5 32 (vB λj=>if 32-8*i<=j then vY n (31-j)else 0)/\Below w.heap.size w wr)
   (λt4 _=>4-nI t4)
 case atStart=>exact⟨0,wq,W,(de _ W W W W W).alloc _,GG K2 λj X=>K9,ai (ai (dO _ _) _) _⟩
 case round=>
  obtain⟨i,c,rfl,E,C,D⟩:=hrel;by_cases I:i<4
  .have d:decide ((i:Int)<4)=true:=K9
   have Z:=E.cell I;simp only[dz,wA]at Z;go_wp2
   go_loopw[5,6] (λt5 L c=>∃k:Nat,k<=8/\L=.int .i64 k/\t5=.int .u64 ((lb n i/2^(8*k):Nat):Int)/\c.rowIs w.heap.size 24 4 (dz<|cX n)/\
     c.rowIs (w.heap.size+1) 5 32 (vB λj=>if 32-(8*i+k)<=j then vY n (31-j)else 0)/\Below w.heap.size w c)
     (λ_ L _=>8-nI L)
   case atStart=>grind
   case round=>
    obtain⟨k,c,rfl,rfl,E,C,D⟩:=hrel;by_cases R:k<8
    .have f:decide ((k:Int)<8)=true:=K9
     have J:=OQ n i k R
     have O:lb n i/2^(8*k)/256=lb n i/2^(8*(k+1)):=by
      grind[Yw,ZZ]
     have Y:lb n i/2^(8*k)<18446744073709551616:=YD (YW _ _)<|IOQ _ _;generalize lb n i/2^(8*k)=v at*;obtain⟨q,c⟩:∃q:Nat,31-8*i-k=(q:Int):=⟨31-8*i-k,wq⟩;have V:Hd (32-(8*i+k)=q+1/\32-(8*i+(k+1))=q/\31-q=8*i+k):=⟨wq,wq,wq⟩;rw[V.aa.1]at C;have cb:=C.cell (wq:q<32);have H:=C.frozen q;have g:Hd ((v%256)=((vY n<|31-q):Int)):=by show _=_;grind
     go_wp2
     go_roundw
     case rel=>
      refine⟨k+1,wq,N1,by rw[<-O];go_num,E.setOther K2 _,?_,kr D K2⟩;rw[V.aa.2.1];exact Ks C g.aa
     case measure=>grind[nI]
    .obtain rfl:k=8:=wq
     go_wp2
     go_roundw
     case rel=>exact⟨i+1,wq,N1,E,C,D⟩
     case measure=>simp[nI];omega
  .obtain rfl:i=4:=wq
   have G:=run_convert_bytes_arg (P:=prog) wr 26 5 N0 N0 (w.heap.size+1) 0 32 32 ((List.range 32).map λj=>((vY n (31-j):Nat))) K2 (λj X=>by
    have h:=C.cell X
    grind[vB]) 9 N0
   have U:(convert 26 9 _).run _ wr=.ok (.string<|pw n) wr:=G;clear G;go_wp2;go_ret
   simp_all
def GM(s:BA):BA:=⟨((bl s).dropWhile (·==0)).toArray⟩
def BZ(s:BA):bl (GM s)=(bl s).dropWhile (·==0):=rfl
def byt0{s:BA}(h:0<s.size):∃(c:UInt8)(r:Vf),bl s=c::r/\c.toNat=mS s 0:=by
 match C:bl s with
 |[]=>have:(bl s).length=s.size:=rfl;grind
 |c::r=>grind[xU]
def VC{s:BA}(h:¬0<s.size):GM s=s:=by apply Ha;rw[BZ];simp_all[bl]
def MF{s:BA}(h:0<s.size)(C:mS s 0≠0):GM s=s:=by
 let⟨c,r,e,D⟩:=byt0 h;apply Ha;rw[BZ,e];have:(c==0)=false:=by rw[Xb];rintro rfl;grind
 simp_all
def lst_go{s:BA}(h:0<s.size)(C:mS s 0=0):GM (s.extract 1 s.size)=GM s:=by
 let⟨c,r,e,D⟩:=byt0 h;have E:(bl s).length=s.size:=rfl;apply Ha;rw[BZ,BZ,AX,<-E,e];have:(c==0)=true:=by rw[X1];exact UInt8.toNat_inj.1 K9
 grind[List.dropWhile,List.take]
def Iw:VL->Nat
 |.string t=>t.size
 |_=>0
def Lh(s:BA)(Q:s.size<=2000):cP 176 #[.string s] w λe H=>e=.returned (.string<|GM s)/\H=w:=by
 go_enter func176,ntmps176;go_wp2;go_loopw[0] (λP wr=>∃t:BA,P=.string t/\t.size<=2000/\Hd (GM t=GM s)/\Hd (wr=w)) (λP _=>Iw P);case atStart=>exact⟨s,W,Q,W,W⟩
 obtain⟨t,rfl,L,E,G⟩:=hrel;by_cases P:0<t.size
 .have J:=rW t 0 P;by_cases C:mS t 0=0
  .have O:Hd _:=(lst_go P C).trans E;have I:(t.extract 1 t.size).size=t.size-1:=K2
   rw[C]at J;go_wp2;go_roundw;case rel=>grind
   grind[Iw]
  have D:Hd _:=E.aa.symm.trans<|MF P C;have Q:((mS t 0:Int)==0)=false:=K9
  go_wp2;go_ret;exact⟨by rw[D.aa];rfl,G⟩
 have D:Hd _:=E.aa.symm.trans<|VC P;go_wp2;go_ret;exact⟨by rw[D.aa];rfl,G⟩
def lJ(b:UInt8):VL:=.int .u8 (b.toNat:Int)
def Bys(w:WD)(O:Nat)(v:VL)(l:Vf):=w.ownsRow O 5 1 v l.length<|l.map lJ
def cV{p:Prop}(h:p):Hd p:=h
def fJ(w:WD)(cs:Ys)(t:Vr):∀j u,cs.toList[j]?=some u->(w.alloc<|.cells cs t).cell? ((⟨w.heap.size,0,none⟩:Addr).add j)=some u:=λj u h=>by
 have e:(⟨w.heap.size,0,none⟩:Addr).add j=⟨w.heap.size,j,none⟩:=by grind[Addr.add]
 simp_all
def JC:(prog.info? 5).map (λi=>(i.zero,i.size,i.bytes))=some (some<|iB 0,1,1):=N0
def fv(h:w.ownsRow O e size v n xs)(hn:n≠0:=by omega):∃g E:Nat,v=sL g n E/\O<=g/\g<w.heap.size/\n<=E:=by
 rcases h.2 with⟨_,C⟩|⟨g,E,C,C,C,C,C,_⟩
 .omega
 grind
def qc(n m:Nat):Vf:=(List.range<|32-m).map λj=>UInt8.ofNat<|vY n<|31-j
def pl(n m:Nat):Vf:=(qc n m).dropWhile (·==0)
def Ot(n i:Nat)(hi:i<32):qc n i=qc n (i+1)++[UInt8.ofNat<|vY n i]:=by unfold qc;rw[(wq:32-i=(32-(i+1))+1),List.range_succ,XP,List.map_cons,List.map_nil,(wq:31-(32-(i+1))=i)]
def byn_lt(n i:Nat):vY n i<256:=Xs _ wq
theorem uu(n i:Nat):(UInt8.ofNat<|vY n i).toNat=vY n i:=UInt8.toNat_ofNat_of_lt'<|byn_lt n i
def Qz(n m:Nat):(pl n m).length<=32:=by grind[pl,qc,List.dropWhile_suffix,List.range,UInt8.ofNat,vY,XH,List.length_range]
def tb:prog.underlying 26=some (.slice 5):=N0
def Jv:(prog.info? 5).map (·.size)=some 1:=N0
theorem qR(l:Vf):∀v∈l.map lJ,v.oneCell'=true:=by intro v C;obtain⟨b,_,rfl⟩:=Xq.1 C;rfl
theorem T3(s:BA):List.map (λb:UInt8=>Value.int IntKind.u8 (b.toNat:Int)) s.data.toList=(bl s).map lJ:=rfl
def FV{P:Program}(w:WD)(V g o dLen E k:Nat)(s:BA)(C:Ys)(t:Vr){dT J elem:Vr}(L:P.underlying dT=some (.slice elem))(U:(P.info? elem).map (·.size)=some 1)(I:w.heap[g]?=some (.cells C t (0,0)))(U:k=Nat.min s.size dLen)(H:o+k<=C.size):(Builtin.copy_ #[dT,J] V #[.slice (some ⟨g,o,none⟩) dLen E,.string s]).run P w=.ok (goInt k) (w.setRow g (C.toList.take o++((bl s).map lJ).take k++C.toList.drop (o+k)).toArray):=by
 subst U;have D:(((bl s).map lJ).take<|Nat.min s.size dLen).length=Nat.min s.size dLen:=by grind[XB,XH,ik,Zg,Nat.min_le_left]
 have G:=run_storeCells_at P g o t _ 0 _ w I (by rw[D];simpa using H)<|λv Q=>qR _ v<|YY Q;rw[D]at G;simp only[Ye]at G;cases U:P.info? elem with
 |none=>grind
 |some i=>simp[Builtin.copy_,Zm L,Builtin.lenOf,Builtin.firstCells,sizeOf,typeInfo,U];grind[T3,Result.andThen]
def CN(w:WD)(g o C E k:Nat)(s:BA){D:Ys}(t:Vr)(I:w.heap[g]?=some (.cells D t (0,0)))(L:k=Nat.min s.size C)(G:o+k<=D.size)(J H:Vr):(Builtin.copy_ #[26,H] J #[.slice (some ⟨g,o,none⟩) C E,.string s]).run prog w=.ok (goInt k) (w.setRow g (D.toList.take o++((bl s).map lJ).take k++D.toList.drop (o+k)).toArray):=FV w J g o C E k s D t tb Jv I L G
def dH(s:BA)(p n:Nat):Vf:=((bl s).drop p).take n++List.replicate (n-(s.size-p)) 0
theorem jk(s:BA)(p n:Nat):(dH s p n).length=n:=by grind[dH,Xm,XB,X8,Yl,ik]
def rV(s:BA)(n:Nat)(h:s.size<=p):dH s p n=List.replicate n 0:=by grind[dH,Y0,ik]
theorem uZ(n:Nat):(madeCells #[iB 0] n).toList=(List.replicate n (0:UInt8)).map lJ:=by rw[List.map_replicate,List.eq_replicate_iff];unfold madeCells;refine⟨K2,λb C=>?_⟩;simp at C;obtain⟨x,_,rfl⟩:=C;rw[Nat.mod_one];rfl
def BK(s:BA)(m n k:Nat)(C:m<=s.size)(D:k=Nat.min (s.size-m) n):((bl<|s.extract m s.size).map lJ).take k++((List.replicate n (0:UInt8)).map lJ).drop k=(dH s m n).map lJ:=by
 unfold dH;rw[AX,XA (l:=List.drop m _)<|by grind[X8,ik],XP,<-List.map_take,<-List.map_drop,List.drop_replicate,D];congr 2
 .by_cases h:s.size-m<=n
  .rw[show Nat.min _ n=s.size-m from Zg h,XA<|by grind[X8,ik],XA<|by grind[X8,ik]]
  grind
 grind
def IM{l:Vf}(E:l.length=n)(D:O<=g)(C:w.heap[g]?=some (.cells (l.map lJ).toArray 5 (0,0)))(hn:n<=100000):Bys w O (sL g n n) l:=by subst E;refine⟨K2,A4 ⟨g,_,_,W,D,C,DO _,?_,K2,by rw[ZO];grind[XA]⟩⟩;grind[maxLen]
def uW{s:BA}(p n:Nat)(Y:s.size<=100000)(hn:n<=100000)(w:WD):cP 261 #[.string s,wv p,iI (n:Int)] w λe w'=>∃v,e=.returned v/\Bys w' w.heap.size v (dH s (p%M) n)/\bW w w':=by
 have H:=oE n wq;have D:=fk<|(W1.start w p).alloc<|.cells (madeCells #[iB 0] n) 5;have E:Hd (((w.alloc<|wc p).alloc<|.cells (madeCells #[iB 0] n) 5).heap[w.heap.size+1]?=some (.cells (madeCells #[iB 0] n) 5 (0,0))):=by have h:=qae (w.alloc<|wc p)<|.cells (madeCells #[iB 0] n) 5;rwa[show(w.alloc _).heap.size=w.heap.size+1 by simp]at h
 by_cases Z:p%M<=s.size
 .have R:=fk<|nu p _ wq Z;go_enter func261,ntmps261;go_wp2_with fail
  go_at_call 284;refine(R _).mono ?_;rintro e Q⟨m,G,rfl,Y⟩;have P:m<=s.size:=by rwa[G.aa]
  let⟨k,L⟩:=dP<|Nat.min (s.size-m) n;have U:k<=n:=by rw[L.aa];grind
  have C:=(Y.block _ K2).trans E.aa;have X:(madeCells #[iB 0] n).size=n:=by grind[ZI,uZ]
  have V:=CN Q _ 0 n n k _ 5 C (by rw[(show(s.extract m s.size).size=s.size-m by simp)];exact L) wq;have J:=fk (D.aa.call Y).be;have I:=fk C;clear C Y E D R Z H;go_wp2;go_ret;refine⟨_,W,IM (jk _ _ _) wq ?_ hn,below_setRow J wq _⟩;rw[qab _ _ _ _ _ _ I.aa,uZ,BK s m n k P L.aa,G.aa]
 go_enter func261,ntmps261;go_wp2_with fail
 go_at_call 284;refine((fk<|oh p s.size wq wq).aa _).mono ?_;rintro e Q⟨rfl,Y⟩;have C:=(Y.block _ K2).trans E.aa;have J:=fk (D.aa.call Y).be;have I:=fk C;clear C Y E D H;go_wp2;go_ret;refine⟨_,W,IM (jk _ _ _) wq ?_ hn,J⟩;rwa[rV _ _ wq,<-uZ,Array.toArray_toList]
def lK(l:Vf):Nat:=l.foldl (λa b=>a*256+b.toNat) 0
def Rds(w:WD)(v:VL)(l:Vf):=∃(ad:Gj)(E:Nat),v=.slice ad l.length E/\l.length<=E/\(l≠[]->∃g o:Nat,ad=some ⟨g,o,none⟩/\g<w.heap.size/\∀i (h:i<l.length),w.cell? ⟨g,o+i,none⟩=some (lJ l[i]))
def Rds.below{l:Vf}(h:Rds w v l)(L:bW w x):Rds x v l:=by let⟨J,E,G,D,H⟩:=h;refine⟨J,_,G,D,λP=>?_⟩;let⟨g,o,e,C,I⟩:=H P;exact⟨g,o,e,Xg C L.size,λi P=>(L.cell C).trans<|I i P⟩
def Bys.bD{l:Vf}(h:Bys w O v l):Rds w v l:=by
 rcases h.2 with⟨D,G⟩|⟨g,E,H,D,G,H,I,J,J,J⟩
 .exact⟨none,0,K9,wq,λJ=>absurd (YM.1 G) J⟩
 subst D;refine⟨_,_,W,I,λ_=>⟨g,0,W,qaa H,λi D=>?_⟩⟩;have C:=XX h i wq;grind
theorem QI(l:Vf)(b:UInt8):lK (l++[b])=lK l*256+b.toNat:=by grind[lK]
def pj(l:Vf)(i:Nat):Nat:=lK (l.take i)*2^(8*(l.length-i))
def AC(l:Vf)(i u:Nat)(h:i<l.length)(C:u=l.length-1-i):pj l (i+1)=pj l i+l[i].toNat*2^(8*u)/\pj l i%2^(8*(u+1))=0:=by grind[pj,XR,QI,Yw,YO,ZC,YC,Nat.mul_mod_left]
def CK(l:Vf):pj l l.length=lK l:=by grind[pj]
def Ac(l:Vf):pj l 0=0:=by unfold pj;rw[Y3];show 0*_=0;omega
def Ja(V b u:Nat)(D:b<256)(C:V%2^(8*(u+1))=0):V+b*2^(8*u)=V ||| b*2^(8*u):=by
 obtain⟨a,rfl⟩:∃a,V=2^(8*(u+1))*a:=⟨V/2^(8*(u+1)),by grind[Zu]⟩
 grind[Nat.two_pow_add_eq_or_of_lt,Yw,Nat.mul_lt_mul_of_pos_right,Yq]
def PK(b u j:Nat)(E:b<256):b*2^(8*u)/2^(64*j)%18446744073709551616=if j=u/8 then b*2^(8*(u%8))else 0:=by
 by_cases h:j=u/8
 .rw[At h,(wq:8*u=64*j+8*(u%8)),Yw,Nat.mul_left_comm,Nat.mul_div_cancel_left _<|Yq _];apply WZ;have D:b*2^(8*(u%8))<=255*2^56:=Yx wq<|Yh wq wq;omega
 rw[iF h];by_cases C:j<u/8
 .obtain⟨d,hd⟩:∃d,8*u=64*j+(64+d):=⟨8*u-64*j-64,wq⟩
  grind[Yw,Nat.mul_left_comm,Nat.mul_div_cancel_left,Yq,ZC,YC,Nat.mul_mod_right]
 rw[Yc];refine Xg (Nat.mul_lt_mul_of_pos_right E<|Yq _) ?_;rw[show 256=2^8 from W,<-Yw];exact Yh wq wq
def E2(V b u j:Nat)(D:b<256)(C:V%2^(8*(u+1))=0):cX (V+b*2^(8*u)) j=if j=u/8 then bits .or .u64 (cX V j) ((b*2^(8*(u%8)):Nat):Int)else cX V j:=by
 rw[Ja V b u D C,<-tz];have e:cX (b*2^(8*u)) j=((if j=u/8 then b*2^(8*(u%8))else 0)):=by unfold cX;rw[PK b u j D]
 rw[e];by_cases h:j=u/8
 .grind
 rw[iF h,iF h];unfold cX;rw[Zv _ _ (Xs _ wq) wq,Nat.or_zero]
def nB(l:Vf)(c:l.length<=32)(w:WD)(U:Rds w v l):cP 260 #[v] w (rT (wv<|lK l) w):=by
 obtain⟨m,E,rfl,L,V⟩:=U;go_enter func260,ntmps260;go_wp2;go_loopw[9] (λt9 wr=>∃i:Nat,i<=l.length/\t9=iI i/\wr.rowIs w.heap.size 24 4 (dz λ_=>0)/\
   wr.rowIs (w.heap.size+1) 24 4 (dz<|cX<|pj l i)/\bW w wr)
   (λt9 _=>l.length-nI t9)
 case atStart=>refine⟨0,wq,W,(de (λ_=>0) W W W W W).alloc _,?_,ai (ai (dO _ _) _) _⟩;rw[Ac];exact de _ K2 K3 K3 K3 K3
 obtain⟨i,c,rfl,I,C,D⟩:=hrel;by_cases H:i<l.length
 .obtain⟨g,o,rfl,Q,G⟩:=V K9;have q:=(D.cell Q).trans<|G i H;obtain⟨u,p⟩:∃u:Nat,l.length-1-i=(u:Int):=⟨l.length-1-i,wq⟩
  let⟨J,c⟩:=AC l i u H wq;have A:l[i].toNat<256:=l[i].toNat_lt;unfold lJ at q;generalize l[i].toNat=b at*;have P:u<32:=wq
  have R:=C.cell (i:=u/8) wq;have Z:=C.frozen<|u/8;simp only[dz]at R;go_wp2;go_region;all_goals go_wp2
  all_goals go_roundw
  case rel=>
   refine⟨i+1,wq,N1,(I.setOther K2 _).drew,?_,(D.setCell K2 _).drew⟩;refine World.rowIs.drew<|(C.set _ _).congr λj z=>?_;show(if j=u/8 then _ else _)=_;simp only[dz];rw[J,E2 _ b u j A c];by_cases h:j=u/8
   .rw[At h,At h,h];congr 2;have X:b*2^(8*(u%8))<18446744073709551616:=by have y:b*2^(8*(u%8))<=255*2^56:=Yx wq<|Yh wq wq;omega
    grind[tL,YC,WZ]
   grind
  grind[nI]
 cases(wq:i=l.length)
 rw[CK]at C;let⟨q,c1,c2,c3⟩:=cW C;let⟨⟨q,f,d,z3⟩,Y,c⟩:=qN (lK l) I D;go_wp2;refine gY (c _ W).1 ⟨W,(c _ W).2⟩
def gA(n:Nat)(f:Vp):Tn:=(List.range n).map f
theorem tH(n:Nat)(f:Vp):(gA n f).length=n:=by simp[gA]
def Ft{P:Program}{x:WD}{E:Vr}(G:x.rowIs b E n f):(loadCells ⟨b,0,none⟩ n).run P x=.ok (gA n f).toArray x:=by
 have h:=run_loadCells_list (P:=P) x _ (gA n f) (λj v D=>by
  have C:j<n:=by grind[Do,tH]
  rw[(show(⟨b,0,none⟩:Addr).add j=⟨b,j,none⟩ by grind[Addr.add]),G.cell C,<-D];grind[gA])
 rwa[tH]at h
def Ny{T D:Vr}{I:Vr}(t d:Nat)(hA:∀w,(isAgg T).run prog w=.ok true w)(E:∀w,(sizeOf T).run prog w=.ok n w)(he:tG s t<|pt b)(H:x.rowIs b D n f)(G:K (Wb s d<|.agg (gA n f).toArray) x):Oper.wp prog ⟨some d,.load T<|.tmp t,I,pos,af,gd⟩ s x K Q:=by have C:s.eval (.tmp t)=.pointer _:=he;unfold Oper.wp;simp only[execOp,C,Instr.loadAt,Instr.sureAddr,loadVar,ZU,ZV,Y2,hA,E,qad,Ft (P:=prog) H];exact G
def Aa{T H:Vr}{U:Vr}(t u:Nat)(O:∀w,(sizeOf T).run prog w=.ok n w)(hn:cs.length=n)(I:∀v∈cs,v.oneCell'=true)(he:tG s t<|pt b)(L:tG s u<|.agg cs.toArray)(V:x.rowIs b H n f)(J:K (s.put none undef)<|x.setRow b cs.toArray):Oper.wp prog ⟨none,.store T (.tmp t)<|.tmp u,U,pos,af,gd⟩ s x K Q:=by have E:s.eval (.tmp t)=.pointer _:=he;have D:s.eval (.tmp u)=.agg _:=L;let⟨c,U,P,_⟩:=V;have C:=run_storeCells_at prog b 0 H cs 0 c x U wq I;rw[XF,XF,Y3,XG,Y0 K9,YQ]at C;have G:(Value.agg cs.toArray).cells=cs.toArray:=rfl;unfold Oper.wp;simp only[execOp,E,D,Instr.storeAt,Instr.sureAddr,storeVar,ZU,ZV,Y2,O,G,YU,hn,ne_eq,not_true_eq_false,Zw,C];exact J
def Dq{P:Program}{fn:Func}{C:Ys}{T:Vr}{D:Addr}{cs:Ys}{W:WD}(G:fn.results=#[.cell a T])(ha:C.getD a undef=.pointer (some D))(hA:∀w,(isAgg T).run P w=.ok true w)(E:∀w,(sizeOf T).run P w=.ok n w)(G:(loadCells D n).run P W=.ok cs W):(results fn C).run P W=.ok (.agg cs) W:=by simp_all[results,asAddr,loadVar]
def WB(n:Nat):VL:=.agg ((qc n 0).map lJ).toArray
def vC(n:Nat)(w:WD):cP 283 #[wv n] w (rT (WB n) w):=by
 go_enter func283,ntmps283;go_wp2;go_loopw[6] (λO wr=>∃i:Nat,i<=32/\O=iI i/\wr.rowIs w.heap.size 24 4 (dz<|cX n)/\wr.rowIs (w.heap.size+1) 298 32 (vB λ_=>0)/\
   wr.rowIs (w.heap.size+1+1) 298 32 (vB λj=>if j<i then vY n (31-j)else 0)/\bW w wr)
   (λO _=>32-nI O)
 case atStart=>
  refine⟨0,wq,W,((de _ W W W W W).alloc _).alloc _,?_,?_,ai (ai (ai (dO _ _) _) _) _⟩
  .refine World.rowIs.alloc ?_ _;have h:=World.rowIs_alloc (w.alloc<|wc n) (Array.replicate 32<|iB 0) 298 (vB λ_=>0) (λi l=>by grind[vB]);rwa[(show(w.alloc<|wc n).heap.size=w.heap.size+1 by simp)]at h
  have h:=World.rowIs_alloc ((w.alloc<|wc n).alloc<|.cells (Array.replicate 32<|iB 0) 298) (Array.replicate 32<|iB 0) 298 (vB λj=>if j<0 then vY n (31-j)else 0) (λi l=>by grind[vB]);simp_all[wc,Array.replicate]
 obtain⟨i,l,rfl,H,G,C,E⟩:=hrel;by_cases L:i<32
 .have d:=dT<|(i:Int)<32;obtain⟨u,y⟩:∃u:Nat,31-i=(u:Int):=⟨31-i,wq⟩
  have m:=H.cell (i:=u/8) wq;have Y:=C.cell L;have p:=C.frozen i;have U:=OQ n (u/8) (u%8) wq;rw[(wq:8*(u/8)+u%8=u)]at U;simp only[dz,wA]at m;simp only[vB]at Y;go_wp2;refine⟨⟨i+1,wq,N1,H.setOther K9 _,G.setOther K2 _,(C.set i _).congr λj J=>?_,E.setCell K9 _⟩,by grind[nI]⟩;grind[vB]
 cases(wq:i=32)
 have d:decide (((32:Nat):Int)<32)=false:=K3
 have D:Hd (gA 32 (vB λj=>if j<32 then vY n (31-j)else 0)=(qc n 0).map lJ):=by show _=_;unfold gA qc;rw[Zd];refine Zh λj J=>?_;simp only[vB,At<|XS.1 J,Function.comp];grind[lJ,uu]
 go_upto_region 8 with fail
 refine wp_region_lit ?_;refine Z6 W λK X=>?_;refine Ny 3 23 (λw=>N0) (λw=>N0) W C<|X _ _ ?_;rw[D.aa];refine Z6 W λo R=>?_;refine Aa 2 23 (λw=>N0) R5 (qR _) W W G<|R _ _ ?_;refine wpList_nil ?_;have I:(wr.setRow (w.heap.size+1) ((qc n 0).map lJ).toArray).heap[w.heap.size+1]?=some (.cells ((qc n 0).map lJ).toArray 298 (0,0)):=by let⟨c,l,_⟩:=G;exact qab wr _ _ _ _ _ l
 have V:Hd (Below _ w<|wr.setRow (w.heap.size+1) ((qc n 0).map lJ).toArray):=below_setRow E wq _;generalize wr.setRow (w.heap.size+1) ((qc n 0).map lJ).toArray=l at*;have Z:Hd ((loadCells ⟨w.heap.size+1,0,none⟩ 32).run prog l=.ok ((qc n 0).map lJ).toArray l):=by have h:=run_loadCells_list (P:=prog) l _ ((qc n 0).map _) (λj v J=>by rw[(show(⟨w.heap.size+1,0,none⟩:Addr).add j=⟨w.heap.size+1,j,none⟩ by grind[Addr.add])];simp only[World.cell?,I];simpa using J);rwa[show((qc n 0).map _).length=32 by rfl]at h
 go_wp2;exact sp (Dq results283 W (λw=>N0) (λw=>N0) Z) W ⟨W,V⟩
def qV{P:Program}{T e:Vr}{A:Ys}(D:P.underlying T=some (.array n e))(C:∀w,(sizeOf e).run P w=.ok 1 w)(hA:∀w,(isAgg e).run P w=.ok false w)(hi:i<n)(ha:A[i]?=some v)(w:WD):(Instr.index T (.agg A)<|iI (i:Int)).run P w=.ok v w:=by simp[Instr.index,asIntOf,Zm D,C,hA,part,ha];omega
def H7:prog.underlying 298=some (.array 32 5):=N0
theorem nm:∀(l:Vf)(i:Nat),(∀j (h:j<l.length),j<i->l[j]=0)->(∀h:i<l.length,l[i]≠0)->(l.dropWhile (·==0)).length=l.length-i
 |[],i,_,_=>K2
 |b::l,0,h1,h2=>Q1
 |b::l,i+1,h1,h2=>by have h:=h1 0 K2 wq;rw[List.dropWhile_cons,(show(b==0)=true by grind),At W,nm l i (λj C D=>h1 (j+1) K9 wq)<|λD=>h2 K9,X2];omega
def O3(n j:Nat)(h:j<(qc n 0).length):(qc n 0)[j]=UInt8.ofNat (vY n<|31-j):=by simp[qc]
def WG(n i:Nat)(C:∀j,j<i->vY n (31-j)=0)(E:i<32->vY n (31-i)≠0):(pl n 0).length=32-i:=by
 have G:(qc n 0).length=32:=R5
 unfold pl;rw[nm (qc n 0) i,G]
 .intro j D G;rw[O3,C j G];rfl
 intro G e;rw[O3]at e;have:=Xl UInt8.toNat e;grind[uu]
def qe(n:Nat)(w:WD):cP 258 #[wv n] w (rT (iI ((pl n 0).length:Int)) w):=by
 have V:=W1.start w n;go_enter func258,ntmps258;go_wp2_with fail
 refine((fk<|vC n).aa _).mono ?_;rintro e O⟨rfl,X⟩;replace V:=fk (V.call X).be;unfold WB;let⟨A,H⟩:=hJ<|((qc n 0).map lJ).toArray;rw[<-H];have G:Hd (∀i,i<32->A[i]?=some (iB<|vY n<|31-i)):=λi Y=>by rw[H];simp only[Z2,qc,Zd,Xu,ZG Y,Yi,Function.comp,lJ,uu,Nat.sub_zero]
 clear H X;go_wp2;go_loopw[7] (λE wr=>∃i:Nat,i<=32/\E=iI i/\Hd (∀j,j<i->vY n (31-j)=0)/\Hd (wr=O))
   (λE _=>32-nI E)
 case atStart=>exact⟨0,wq,W,λj U=>wq,W⟩
 obtain⟨i,Y,rfl,L,R⟩:=hrel;cases R.aa;by_cases C:i<32
 .have d:=dT<|(i:Int)<32;have J:=G.aa i C;by_cases X:vY n (31-i)=0
  .rw[X]at J;have P:Hd (∀j,j<i+1->vY n (31-j)=0):=λj U=>by
    by_cases e:j=i
    .grind
    exact L j wq
   have D:=qV H7 (λw=>N0) (λw=>N0) C J;go_wp2;refine⟨⟨_,wq,N1,P,by first|exact rfl|exact AF⟩,by grind[nI]⟩
  have d2:((vY n (31-i):Int) !=0)=true:=K9
  have I:=fk<|WG n i L<|λ_=>X;have D:=qV H7 (λw=>N0) (λw=>N0) C J;go_wp2;go_ret;refine⟨?_,V.aa⟩;rw[I.aa];exact Xl (λz=>Ending.returned<|Value.int _ z) wq
 cases(wq:i=32)
 have d:decide (((32:Nat):Int)<32)=false:=K3
 have I:=fk<|WG n 32 L<|λh=>absurd h wq;go_wp2;go_ret;exact⟨by rw[I.aa];rfl,V.aa⟩
def LZQ(s:BA):Yt:=((lk tabRec<|bl s).orElse λ_=>lk tabCmp<|bl s).orElse λ_=>(lk tabSur<|bl s).orElse λ_=>(lk tabKee<|bl s).orElse λ_=>FN s
def ze(h:i<11):i=0\/i=1\/i=2\/i=3\/i=4\/i=5\/i=6\/i=7\/i=8\/i=9\/i=10:=wq

def U2:List (Vf):=((List.range 16).map λi=>bl<|dup i)++(((List.range 16).map λi=>bl<|swp i)++(List.range 5).map λi=>bl<|lgs i)
def keys:List (Vf):=(tabRec.map Prod.fst)++((tabCmp.map Prod.fst)++((tabSur.map Prod.fst)++((tabKee.map Prod.fst)++U2)))
-- names of instructions
-- an item
def aZ(s:BA)(p:Nat)(cur:Option<|Nat×Nat):List (BA×Nat):=match cur with
 |some (b,a)=>[(s.extract b p,a)]
 |none=>[]
-- aF rune of a text

def k6(h:i<6):i=0\/i=1\/i=2\/i=3\/i=4\/i=5:=wq
def hY(h:w.ownsRow O e size v n xs){p:Addr}(I:p.block<O)(u:VL):(w.setCell p u).ownsRow O e size v n xs:=by refine⟨h.1,h.2.imp id λ⟨g,E,_,G,C,H,D⟩=>⟨g,_,_,G,C,?_,D⟩⟩;grind[ZP]
def dh(h:w.ownsRow O e size v n xs)(I:bW w w'):w'.ownsRow O e size v n xs:=by refine⟨h.1,h.2.imp id λ⟨g,E,_,H,D,C,G⟩=>⟨g,_,_,H,D,?_,G⟩⟩;rwa[I.block g<|qaa C]
section
open Go.RowKit Go.Lib
end
section
open Go.RowKit Go.Lib
end

section
open Go.RowKit Go.Lib
def two(a b:VL):Vp:=λi=>if i=0 then a else b
def dt(h:w.ownsRow b e size v n xs):∃(C:Gj)(cp:Nat),v=.slice C n cp:=by
 rcases h.2 with⟨G,D⟩|⟨g,E,D,G,_⟩
 .grind
 grind
def yb{G C:Nat}{D:Tn}(h:w.ownsRow b e size v n xs)(H:w.ownsRow b' G C v' n' D)(hne:e≠G):v.ownBlock=none\/v.ownBlock≠v'.ownBlock:=by
 rcases h.2 with⟨rfl,_⟩|⟨g,E,I,rfl,_,I,_⟩
 .exact LZ W
 rcases H.2 with⟨rfl,_⟩|⟨I,I,I,rfl,_,I,_⟩
 .grind[Value.ownBlock]
 grind[Value.ownBlock]
end
structure Kb(S:Tl)(w w':WD):Prop where
 os:w'.os=w.os
 tape:w'.tape=w.tape
 output:w'.output=w.output
 size:w.heap.size<=w'.heap.size
 block:∀k,k<w.heap.size->k∉S->w'.heap[k]?=w.heap[k]?
theorem Kb.refl(S:Tl)(w:WD):Kb S w w:=⟨W,W,W,DO _,λ_ _ _=>W⟩
theorem Kb.trans{T:Tl}{a b c:WD}(h:Kb S a b)(k:Kb T b c)(E:∀i∈T,i∈S\/a.heap.size<=i):Kb S a c:=⟨k.os.trans h.os,k.tape.trans h.tape,k.output.trans h.output,By h.size k.size,λi E C=>(k.block i (Xg E h.size)<|λD=>K9).trans<|h.block i E C⟩
def Kb.mono{T:Tl}{a b:WD}(h:Kb S a b)(D:∀i∈S,i∈T):Kb T a b:=⟨h.os,h.tape,h.output,h.size,λi E C=>h.block i E<|λk=>C<|D i k⟩
theorem Kb.h{a b:WD}(h:bW a b):Kb S a b:=⟨h.os,h.tape,h.output,h.size,λi C _=>h.block i C⟩
def Kb.bK{a b:WD}(h:Kb [] a b):bW a b:=⟨h.os,h.tape,h.output,h.size,λi C=>h.block i C K2⟩
def Kb.below{a b c:WD}(h:Kb S a b)(k:bW b c):Kb S a c:=h.trans (Kb.h (S:=[]) k) K2
def Kb.alloc{a b:WD}(h:Kb S a b)(o:Obj):Kb S a (b.alloc o):=h.below<|ai (dO _ _) o
def Kb.drew{a b:WD}(h:Kb S a b):Kb S a b.drew:=⟨h.os,h.tape,h.output,h.size,h.block⟩
theorem Kb.setCell{a b:WD}(h:Kb S a b){p:Addr}(C:p.block∈S\/a.heap.size<=p.block)(u:VL):Kb S a (b.setCell p u):=h.trans (T:=[p.block]) ⟨W,W,W,K2,λk _ C=>ZP _ _ _ _ K9⟩ K9
def Kb.setRow{a b:WD}(h:Kb S a b)(C:g∈S\/a.heap.size<=g)(cs:Ys):Kb S a (b.setRow g cs):=h.trans (T:=[g]) ⟨W,W,W,K2,λk _ D=>setRow_other b g k cs K9⟩ K9
def Kb.grown{a b c:WD}{row:Yt}(h:Kb S a b)(C:b.grownBy c row)(G:∀k,row=some k->k∈S\/a.heap.size<=k):Kb S a c:=h.trans (T:=row.toList) ⟨C.os,C.tape,C.output,C.size,λk E D=>C.block k E<|λe=>D K9⟩<|λi E=>G i K9
def Kb.row{a b:WD}(h:Kb S a b){t:Vr}(D:a.rowIs g t n f)(C:g∉S):b.rowIs g t n f:=D.of_block<|h.block g D.lt C
def Kb.aD{a b:WD}(h:Kb S a b)(D:a.ownsRow O e size v n xs)(J:∀k,v.ownBlock=some k->k∉S):b.ownsRow O e size v n xs:=by
 refine⟨D.1,?_⟩;rcases D.2 with C|⟨g,cap,G,C,L,E,P⟩
 .grind
 exact A4 ⟨g,_,_,C,L,(h.block g (qaa E)<|J g (by rw[C];rfl)).trans E,P⟩
def fj(l:Tl):Tn:=l.flatMap λn=>[lu n 0,lu n 1,lu n 2,lu n 3]
def lB(l:Tl)(n:Nat):fj (l++[n])=fj l++[lu n 0,lu n 1,lu n 2,lu n 3]:=by simp[fj]
theorem mx(l:Tl):(fj l).length=l.length*4:=by
 induction l with
 |nil=>rfl
 |cons n l C=>simp[fj]at C⊢;omega
def Wds(w:WD)(O:Nat)(v:VL)(l:Tl):=w.ownsRow O 24 4 v l.length<|fj l
def dS{T:Nat}(E:w.rowIs H T N f)(C:w.ownsRow O e size v n xs)(G:T≠e:=by decide):∀k,v.ownBlock=some k->k≠H:=by
 intro k G D;subst D;let⟨c,J,_⟩:=E;rcases C.2 with⟨E,_⟩|⟨g,cap,J,E,J,J,_⟩
 .rw[E]at G;cases G
 grind[Value.ownBlock]
structure Up(S:Tl)(H o:Nat)(v':VL)(w w':WD):Prop where
 kb:Kb (H::S) w w'
 row:∀{T N f},w.rowIs H T N f->w'.rowIs H T N (λi=>if i=o then v' else f i)
def Up.bM(v':VL)(h:Kb S w x)(D:H∉S)(C:H<w.heap.size):Up S H o v' w (x.setCell ⟨H,o,none⟩ v'):=⟨(h.mono<|λi E=>IN _ E).setCell AI _,λE=>(h.row E D).set o v'⟩
def Kb.up(h:Up S H o v' w x)(k:bW x y)(C:H<w.heap.size):Up S H o v' w y:=⟨h.kb.below k,λD=>cY (h.row D) k⟩
def fC(h:w.ownsRow O e size v n xs)(hne:∀k,v.ownBlock=some k->k≠H)(o:Nat)(u:VL):(w.setCell ⟨H,o,none⟩ u).ownsRow O e size v n xs:=((Kb.refl [H] w).setCell (p:=⟨H,o,none⟩) AI u).aD h<|λk C=>K9
def LL(e:Ending):=∃(u:Vr)(pv:VL),e=.panicked [{v:=.iface u pv,recovered:=false}]
def sy:(prog.info? 24).map (λi=>(i.zero,i.size,i.bytes))=some (some<|.agg #[iU 0,iU 0,iU 0,iU 0],4,32):=N0
def Fresh(w:WD)(v v':VL):=v'.ownBlock=v.ownBlock\/∀k,v'.ownBlock=some k->w.heap.size<=k
def fh{P:Program}(w:WD)(O:Nat)(t q e:Vr)(i:TypeInfo)(z:VL)(size bytes:Nat)(p:P.underlying t=some (.slice e))(hi:P.info? e=some i)(hz:i.zero=some z)
  (D:i.size=size)(X:i.bytes=bytes)(Y:z.cells.size=size)(V:0<size)
  (v:VL)(n:Nat)(xs:Tn)(J:w.ownsRow O e size v n xs)
  (a:Addr)(m c:Nat)(news:Tn)(r:news.length=m*size)(E:∀j u,news[j]?=some u->w.cell? (a.add j)=some u)(A:∀u∈news,u.oneCell'=true)
  (U:n+m<=maxLen)(G:(n+m)*bytes<=140737488355328)(R:O<=w.heap.size):
  ∃v' d,(Builtin.append_ #[t,t] q #[v,.slice (some a) m c]).run P w=.ok v' d/\d.ownsRow O e size v' (n+m) (xs++news)/\w.grownBy d v.ownBlock/\Fresh w v v':=by
 let⟨v',d,L,ho,hg,s⟩:=run_append_own w _ t q e i z _ _ p hi hz D X Y V v n xs J a m c _ r E A U G R;refine⟨v',d,L,ho,hg,?_⟩;rcases J.2 with⟨rfl,rfl⟩|⟨g,cap,cur,rfl,hb,l,hnc,hcm,hcs,htk⟩
 .right;cases(Yo (by simpa using J.1):xs=[]);let⟨v2,w2,C,Z,T,_⟩:=run_append_own w w.heap.size t q e i z size _ p hi hz D X Y V (.slice none 0 0) 0 [] (Xy w _ e size) a m c _ r E A U G<|DO _;rw[L]at C;injection C with h b
  subst h;exact λk hk=>(Z.lt k hk).1
 .by_cases hr:n+m<=cap
  .left;subst D
   have hlt:∀j,j<news.length->n*i.size+j<cur.size:=λj hj=>by
    rw[hcs];have:(n+m)*i.size<=cap*i.size:=Yf _ hr
    grind
   have F:=run_append_room_cells w t q e i p hi g 0 n cap a m c _ r E A hr
    (λj hj=>by rw[XF,cell_of_row _ g _ _ e _ l];grind)
    (λj hj=>by simp[World.frozen?,l])
   rw[L]at F;injection F with h b
   subst h;rfl
  .right;let⟨v2,w2,C,Z,T⟩:=run_append_arg_grows w t q e i z _ bytes p hi hz D X Y V ⟨g,0,none⟩ n cap xs J.1 (J.cells W) a m c news r E wq U G;rw[L]at C;injection C with h b
   subst h;exact λk hk=>(Z.lt k hk).1
def iJ{P:Program}{o:Oper}{a:Act}{E:Prop}(V:o.guard=none)(s x:Operand)(t:Vr)(F:o.op=.call {callee:=.builtin .append,args:=#[s,x],argTypes:=#[t,t]})(O:Nat)(e:Vr)(i:TypeInfo)(z:VL)(size bytes:Nat)(A:P.underlying t=some (.slice e))(hi:P.info? e=some i)(hz:i.zero=some z)(D:i.size=size)(d:i.bytes=bytes)(p:z.cells.size=size)(Y:0<size)(v:VL)(n:Nat)(xs:Tn)(q:a.eval s=v)(L:w.ownsRow O e size v n xs)(Z:Addr)(m c:Nat)(news:Tn)(b:a.eval x=.slice (some Z) m c)(l:news.length=m*size)(J:∀j u,news[j]?=some u->w.cell? (Z.add j)=some u)(T:∀u∈news,u.oneCell'=true)(X:n+m<=maxLen)(C:(n+m)*bytes<=140737488355328)(G:O<=w.heap.size)(h:∀v' R,R.ownsRow O e size v' (n+m) (xs++news)->w.grownBy R v.ownBlock->Fresh w v v'->K (a.put o.dst v') R):if Region.wanted o (yielded I a.tmps)=true then Oper.wp P o a w K Q else E:=by rw[At<|dr V];let⟨v',R,U,k,r,r3⟩:=fh w _ t o.type e i z _ _ A hi hz D d p Y v n xs L Z m c _ l J T X C G;unfold Oper.wp;simp[execOp,F,resolve,invoke,builtin,q,b,U,Result.andThen];exact h v' R k r r3
def LJ{T:Nat}(H o n:Nat){l:Tl}(v:VL)(w:WD)(J:w.rowIs H T N f)(D:o<N)(C:f o=v)(P:Wds w O v l)(L:l.length=1024):cP 259 #[pq H o,wv n] w λe w'=>LL e/\bW w w':=by obtain⟨G,cap,rfl⟩:=dt P;rw[L]at C;have E:=((ai (dO _ w)<|wc n).cell J.lt).trans<|(J.cell D).trans<|Xl _ C;go_enter func259,ntmps259;go_wp2;exact⟨W,⟨_,_,W⟩,ai (dO _ _) _⟩
def Ur{T:Nat}(H o n:Nat){l:Tl}(v:VL)(w:WD)(c:w.rowIs H T N f)(L:o<N)(hv:f o=v)(a:T≠24)(r:Wds w O v l)(hl:l.length<1024)(hb:O<=w.heap.size):
  Calls prog 259 #[pq H o,wv n] w λe w'=>e=AG/\∃v',Wds w' O v' (l++[n])/\Fresh w v v'/\Up v.ownBlock.toList H o v' w w':=by
 have P:=c.lt;have hc:=(c.cell L).trans<|Xl _ hv;have hz:=c.frozen o;have bg:=dS c r a;have HR:=cV c;have HT:=cV a;let⟨i0,E,D,G,J⟩:=YI sy;have HI:=cV<|aIn E<|aIn D<|aIn G J;obtain⟨F,s,rfl⟩:=dt r;have hc1:=((ai (dO _ w)<|wc n).cell P).trans hc;have hne:((l.length:Int)==1024)=false:=K9
 have C:Hd (Below _ w<|(w.alloc<|wc n).drew.alloc<|wc n):=ai (ai (dO _ w) _).drew _;have t:=(C.aa.cell P).trans hc;have HS:Hd (Wds _ _ _ l):=dh r C.aa;have HZ:=cV hz;have i:=cV bg;have R:=cV P
 have b:Hd (∀j u,[Value.int .u64<|cX n 0,.int .u64<|cX n 1,.int .u64<|cX n 2,.int .u64<|cX n 3][j]?=some u->((w.alloc<|wc n).drew.alloc<|wc n).cell? ((⟨w.heap.size+1,0,none⟩:Addr).add j)=some u):=by
  have h:=fJ (w.alloc<|wc n).drew #[.int .u64<|cX n 0,.int .u64<|cX n 1,.int .u64<|cX n 2,.int .u64<|cX n 3] 24
  simp_all
 go_enter func259,ntmps259;go_wp2
 go_region_law (let⟨E,D,G,J⟩:=HI.aa;refine iJ W _ _ _ W _ 24 i0 _ 4 32 N0 E D G J W K3 (.slice F _ s) _ _ W HS.aa _ 1 1 _ W W b.aa (by intro u hu;simp at hu;rcases hu with rfl|rfl|rfl|rfl<;>rfl) (by unfold maxLen;omega) wq N3 ?_;intro v' x L V X;obtain⟨g',Y,rfl,z,A,p⟩:=fv L;have U:=V.block H (Xg R.aa C.aa.size)<|λe=>i.aa H e.symm rfl;have hcx:=(Xc U).trans t;have hzx:=(Yv U).trans<|(C.aa.frozen R.aa).trans HZ.aa;have HO:=cV L;have HG:=cV V;have m:=cV X;clear X L V U z A p E D G J)
 all_goals go_wp2
 all_goals go_end0
 all_goals(
  have Z:=(Kb.h (S:=(Value.slice F _ s).ownBlock.toList)<|ai (ai (dO _ w) _) _).drew.grown HG.aa (λk q=>LZ (by rw[q];simp));have d:H∉(Value.slice F _ s).ownBlock.toList:=λhm=>i.aa H (by simpa using hm) W
  have L:Wds x O (.slice (some ⟨g',0,none⟩) (l.length+1) Y) (l++[n]):=by unfold Wds;rw[Xm,lB];exact HO.aa
  exact⟨W,_,fC L (dS (Z.row HR.aa d) L HT.aa) o _,m.aa.imp id<|λh k q=>By C.aa.size<|h k q,Up.bM _ Z d R.aa⟩)
def tZ(H o k n E:Nat)(D:Gj)(w:WD)(G:cL w H o<|.slice D n E)(hn:n<=1024)(I:k<n):cP 273 #[pq H o,iI (k:Int)] w λe C=>e=.returned (iI ((n-1-k:Nat):Int))/\C=w:=by go_enter func273,ntmps273;go_wp2;go_ret;exact⟨Xl (λz=>Ending.returned<|Value.int _ z) wq,W⟩
def sM(H o k n E:Nat)(G:Gj)(w:WD)(I:cL w H o<|.slice G n E)(hn:n<=1024)(J:n<=k)(C:k<=1024:=by omega):cP 273 #[pq H o,iI (k:Int)] w λe D=>LL e/\D=w:=by go_enter func273,ntmps273;go_wp2;exact⟨W,⟨_,_,W⟩,W⟩
theorem Ak:∀(l:Tl)(j:Nat)(h:j<l.length)(i:Nat),i<4->(fj l)[j*4+i]?=some (iU<|cX l[j] i)
 |n::l,0,h,i,hi=>by rw[YB,XF];rcases k4 hi with rfl|rfl|rfl|rfl<;>rfl
 |n::l,j+1,h,i,hi=>by rw[show(j+1)*4+i=(j*4+i)+4 by omega];exact(Ak l j K9 i hi)
theorem CU(l m:Tl):(fj<|l++m).take (l.length*4)=fj l:=by grind[fj,mx,XA]
def Wds.cI{l m:Tl}(h:Wds w O (sL g (l++m).length E)<|l++m):Wds w O (sL g l.length E) l:=by
 refine⟨mx l,?_⟩;rcases h.2 with⟨H,J⟩|⟨I,I,I,H,J,I,L,P,Q,U⟩
 .cases H
 injection H with C G D;injection C with C;injection C with C;subst C D;refine A4 ⟨g,_,_,W,J,I,by rw[Xm]at L;omega,P,Q,?_⟩;grind[CU,Xm]
def Wds.at{l:Tl}(h:Wds w O (sL g l.length E) l)(C:j<l.length)(hn:l[j]=n):cL w g (j*4) (lu n 0)/\cL w g (j*4+1) (lu n 1)/\cL w g (j*4+2) (lu n 2)/\cL w g (j*4+3) (lu n 3):=by subst hn;have e:∀i,i<4->w.cell? _=some _:=λi D=>(XX h _ wq).trans<|Ak l j C i D;grind
def pop_ok{T:Nat}(H o n:Nat){l:Tl}(v:VL)(w:WD)(c:w.rowIs H T N f)(A:o<N)(V:f o=v)(b:T≠24)(q:Wds w O v<|l++[n])(u:l.length<1024):cP 257 #[pq H o] w λe w'=>e=.returned (wv n)/\∃Q,Wds w' O Q l/\Q.ownBlock=v.ownBlock/\Up [] H o Q w w':=by
 have P:=c.lt;obtain⟨g,E,rfl,p,y,R⟩:=fv q K2;have d:=(dS c q b) g W;rw[(show(l++[n]).length=l.length+1 by simp)]at V R;obtain⟨Zq9,J⟩:∃Zq9:WD,Hd (Zq9=w.alloc (.cells #[iU 0,iU 0,iU 0,iU 0] 24)):=⟨_,W⟩
 have C:bW w Zq9:=by rw[J.aa];grind[ai,dO]
 have G:Zq9.rowIs w.heap.size 24 4 (dz λ_=>0):=by rw[J.aa];grind[de]
 have D:=cY c C;have z:Zq9.heap.size=w.heap.size+1:=by rw[J.aa];simp
 have I:Wds Zq9 _ _ _:=dh q C;have F:=(D.cell A).trans<|Xl _ V;have b:Hd (∀w:WD,w.cell? _=some _->Calls _ _ #[.pointer _,.int _ 0] w λe w'=>e=.returned (iI l.length)/\w'=w):=λw h=>(tZ H o 0 (l.length+1) E (some ⟨g,0,none⟩) w h wq wq).mono λe w'⟨u,Z⟩=>⟨K9,Z⟩
 let⟨u,c1,c2,c3⟩:=I.at (j:=l.length) (n:=n) K2 K2;have K:=D.frozen o;let⟨⟨u,i,s,z3⟩,t⟩:=Fa G;have S:=cV I.cI;have m:=cV C;have u:=cV D;have U:=cV G;clear q c I C D G V;go_enter func257,ntmps257;go_wp2_with fail
 rw[<-J.aa];refine(b _ F).mono ?_;rintro e Y⟨rfl,rfl⟩;go_wp2;have L:Kb [w.heap.size] _ ((((((Y.setCell ⟨H,o,none⟩<|sL g l.length E).setCell ⟨w.heap.size,0,none⟩<|lu n 0).setCell ⟨w.heap.size,1,none⟩<|lu n 1).setCell ⟨w.heap.size,2,none⟩<|lu n 2).setCell ⟨w.heap.size,3,none⟩<|lu n 3).alloc<|wc n):=(((((Kb.refl _ _).setCell AI _).setCell AI _).setCell AI _).setCell AI _).alloc _;refine gY ((di (U.setOther (a:=⟨H,o,none⟩) K9<|sL g l.length E) (cX n) W W W W).alloc<|wc n) ⟨W,.slice (some _) l.length E,?_,W,?_⟩
 .exact L.aD (fC S (λk b=>by grind[Value.ownBlock]) o _) (λk b=>by grind[Value.ownBlock])
 have X:Up [] H o (sL g l.length E) w _:=Up.bM _ (Kb.h m) K2 P;exact⟨X.kb.trans L K2,λc=>L.row (X.row c) K9⟩
structure Fz where
 aC:VL
 ae:BA
 jd:VL
 ak:Nat
 ax:Nat
 value:Nat
 data:BA
 ac:Nat
 ro:Bool
 depth:Nat
 st:Tl
 mem:Vf
 ret:BA
 pc:Nat
 nx:Nat
 aG:Bool
 aE:Nat
 aa:BA
def Fz.cell(F:Fz)(X C:VL)(i:Nat):VL:=
 if i=0 then F.aC else
 if i=1 then .string F.ae else
 if i=2 then F.jd else
 if i=3+0 then lu F.ak 0 else
 if i=3+1 then lu F.ak 1 else
 if i=3+2 then lu F.ak 2 else
 if i=3+3 then lu F.ak 3 else
 if i=7+0 then lu F.ax 0 else
 if i=7+1 then lu F.ax 1 else
 if i=7+2 then lu F.ax 2 else
 if i=7+3 then lu F.ax 3 else
 if i=11+0 then lu F.value 0 else
 if i=11+1 then lu F.value 1 else
 if i=11+2 then lu F.value 2 else
 if i=11+3 then lu F.value 3 else
 if i=15 then .string F.data else
 if i=16 then .int .i64 (F.ac:Int)else
 if i=17 then .bool F.ro else
 if i=18 then .int .i64 (F.depth:Int)else
 if i=19 then X else
 if i=20 then C else
 if i=21 then .string F.ret else
 if i=22 then .int .i64 (F.pc:Int)else
 if i=23 then .int .i64 (F.nx:Int)else
 if i=24 then .bool F.aG else
 if i=25 then .int .u8 (F.aE:Int)else
 if i=26 then .string F.aa else
 undef
def jdF(ae:BA):Nat->Nat->List Bool->List Bool
 |0,_,aw=>aw
 |f+1,i,aw=>if i<ae.size then
   jdF ae f (i+1+(if 95<mS ae i/\mS ae i<=127 then mS ae i-95 else 0)) (if mS ae i=91 then aw.set i true else aw)
  else aw
def SY(ae:BA):List Bool:=jdF ae ae.size 0<|List.replicate (ae.size+1) false
def Jds(w:WD)(jd:VL)(ae:BA):=∃g E:Nat,jd=.slice (some ⟨g,0,none⟩) (ae.size+1) E/\w.rowIs g 4 (ae.size+1) (λi=>.bool<|(SY ae).getD i false)
structure Fr(O H:Nat)(F:Fz)(S:Tl)(X C:VL)(w:WD):Prop where
 row:w.rowIs H 137 27 (F.cell X C)
 st:Wds w O X F.st.reverse
 me:Bys w O C F.mem
 aH:S=H::(X.ownBlock.toList++C.ownBlock.toList)
 aV:F.st.length<=1024
 bv:F.mem.length<=65536
 aN:F.ac<=100000
 hb:O<=w.heap.size
 zr:∀i,i<4->w.cell? ⟨0,i,none⟩=some (.int .u64 0)
 aA:0<O
 bg:O<=H
 aT:F.mem.length%32=0
 jr:Jds w F.jd F.ae
def Jds.kb{J:VL}(h:Jds w J ae)(L:Kb S w w')(G:∀g N f,w.rowIs g 4 N f->g∉S):Jds w' J ae:=by let⟨g,E,I,D⟩:=h;exact⟨g,_,I,L.row D<|G _ _ _ D⟩
def tb1:(4:Nat)≠24:=K3
def tb2:(4:Nat)≠5:=K3
def tb3:(4:Nat)≠137:=K3
def jT{T D:Vr}{G:Nat}{I:Vp}(h:w.rowIs a T N f)(E:w.rowIs b D G I)(Q:T≠D):a≠b:=λe=>by subst e;let⟨c,P,_⟩:=h;let⟨L,J,_⟩:=E;grind
def Fr.bO{F:Fz}(h:Fr O H F S X C w):∀g N f,w.rowIs g 4 N f->g∉S:=by
 intro g N f I E;rw[h.aH]at E;rcases IF.1 E with D|D
 .exact jT I h.row tb3 D
 rcases Xr.1 D with G|G
 .exact dS I h.st tb1 g K9 W
 exact dS I h.me tb2 g K9 W
def sA(h:∀i,i<4->cL w 0 i (iU 0))(G:Kb S w w')(D:0∉S)(I:0<w.heap.size):∀i,i<4->cL w' 0 i (iU 0):=λi E=>(Xc (w:=w)<|G.block 0 I D).trans<|h i E
def Fr.ck{F:Fz}(h:Fr O H F S X C w):∀k∈S,O<=k:=by
 intro k G;rw[h.aH]at G;rcases IF.1 G with D|D
 .rw[D];exact h.bg
 rcases Xr.1 D with E|E
 .exact(h.st.lt k K9).1
 exact(h.me.lt k K9).1
def Fr.bu{F:Fz}(h:Fr O H F S X C w):0∉S:=λD=>by have:=h.ck 0 D;have:=h.aA;omega
def Fr.hs{F:Fz}(h:Fr O H F S X C w):0<w.heap.size:=Xg h.aA h.hb
def To(O H:Nat)(F':Fz)(S:Tl)(w w':WD):=∃S' X C,Fr O H F' S' X C w'/\Kb S w w'/\∀k∈S',k∈S\/w.heap.size<=k
theorem To.trans{I E:Fz}(h:To O H I S w w1)(k:∀S1 X C,Fr O H I S1 X C w1->To O H E S1 w1 w2):To O H E S w w2:=by
 let⟨S1,X,C,Q,D,U⟩:=h;let⟨S2,R,L,J,V,P⟩:=k S1 X C Q;refine⟨S2,_,_,J,D.trans V U,λi Y=>?_⟩;rcases P i Y with G|G
 .grind
 exact A4<|By D.size G
def Fr.to{F:Fz}(h:Fr O H F S X C w):To O H F S w w:=⟨S,X,C,h,Kb.refl _ _,λk D=>LZ D⟩
def Fr.below{F:Fz}(h:Fr O H F S X C w)(hb:bW w w'):Fr O H F S X C w':=⟨cY h.row hb,dh h.st hb,dh h.me hb,h.aH,h.aV,h.bv,h.aN,By h.hb hb.size,sA h.zr (Kb.h (S:=[]) hb) K2 h.hs,h.aA,h.bg,h.aT,h.jr.kb (Kb.h (S:=[]) hb)<|λ_ _ _ _=>K2⟩
def gC{α:Type}(r:Option<|α×Fz)(B:α->VL)(O H:Nat)(S:Tl)(w:WD)(e:Ending)(w':WD):Prop:=
 match r with
 |some (a,F')=>e=.returned (B a)/\To O H F' S w w'
 |none=>LL e/\Kb S w w'
def dR:Unit->VL:=λ_=>.tuple #[]
def dB(n:Nat)(F:Fz):Option (Unit×Fz):=if F.st.length=1024 then none else some ((),{F with st:=n::F.st})
def db(F:Fz):Option (Nat×Fz):=match F.st with
 |[]=>none
 |n::r=>some (n,{F with st:=r})
def im(c:Nat)(F:Fz):Option (Unit×Fz):=if F.ac<c then none else some ((),{F with ac:=F.ac-c})
def St(F:Fz)(X C v':VL)(st:Tl):(λi=>if i=19 then v' else F.cell X C i)=({F with st:=st}:Fz).cell v' C:=by
 funext i;by_cases h:i=19
 .subst h;rfl
 simp only[Fz.cell,iF h]
def Gd(F:Fz)(X C:VL):F.cell X C 19=X:=rfl
def mJ(F:Fz)(X C:VL)(g:Nat):(λi=>if i=16 then iI (g:Int)else F.cell X C i)=({F with ac:=g}:Fz).cell X C:=by
 funext i;by_cases h:i=16
 .subst h;rfl
 simp only[Fz.cell,iF h]
def tF:(137:Nat)≠24:=K3
def tB:(137:Nat)≠5:=K3
def tWB:(24:Nat)≠5:=K3
def Fr.fm{F:Fz}(h:Fr O H F S X C w):∀k,C.ownBlock=some k->k≠H:=dS h.row h.me tB
def Fr.fs{F:Fz}(h:Fr O H F S X C w):∀k,X.ownBlock=some k->k≠H:=dS h.row h.st tF
def Fr.sm{F:Fz}(h:Fr O H F S X C w):∀k,C.ownBlock=some k->k∉H::X.ownBlock.toList:=λk J E=>by
 rcases IF.1 E with D|D
 .exact h.fm k J D
 have I:X.ownBlock=some k:=K9
 rcases yb h.me h.st (Ne.symm tWB)with G|G
 .grind
 grind
def Fr.stack{F:Fz}{st:Tl}(h:Fr O H F S X C w)(P:st.length<=1024)(Q:Wds w' O v' st.reverse)(L:Fresh w X v')(D:Up X.ownBlock.toList H 19 v' w w'):To O H {F with st:=st} S w w':=by
 refine⟨_,v',C,⟨(St F X C v' st)▸D.row h.row,Q,D.kb.aD h.me h.sm,W,P,h.bv,h.aN,By h.hb D.kb.size,sA h.zr D.kb (λJ=>h.bu (by rw[h.aH];grind)) h.hs,h.aA,h.bg,h.aT,h.jr.kb D.kb<|λg N f P J=>h.bO g N f P (by rw[h.aH];grind)⟩,?_,?_⟩
 .rw[h.aH];exact D.kb.mono<|λi P=>K9
 intro k P;rw[h.aH];rcases IF.1 P with E|E
 .grind
 rcases Xr.1 E with G|G
 .rcases L with I|I
  .grind
  grind
 grind
def ix{F:Fz}(w:WD)(h:Fr O H F S X C w):cP 259 #[pq H 19,wv n] w (gC (dB n F) dR O H S w):=by
 unfold dB;by_cases J:F.st.length=1024
 .rw[At J];exact(LJ H 19 n X w h.row K3 W h.st K9).mono λe w'⟨D,E⟩=>⟨D,Kb.h E⟩
 rw[iF J];refine(Ur H 19 n X w h.row K3 W tF h.st (by have:=h.aV;grind) h.hb).mono λe w'⟨D,v',E,I,G⟩=>⟨D,h.stack (by have:=h.aV;grind) K9 I G⟩
variable {F F':Fz}
def pop_no{T:Nat}(H o:Nat)(G:Gj)(w:WD)(Q:w.rowIs H T N f)(I:o<N)(D:f o=.slice G 0 E):cP 257 #[pq H o] w λe w'=>LL e/\bW w w':=by
 have J:(w.alloc<|.cells #[iU 0,iU 0,iU 0,iU 0] 24).cell? _=some _:=((ai (dO _ w) _).cell Q.lt).trans<|(Q.cell I).trans<|Xl _ D;have L:=cV<|sM H o 0 0 _ G _ J wq wq;clear Q D;go_enter func257,ntmps257;go_wp2_with fail
 refine L.mono ?_;rintro e P⟨⟨u,Q,rfl⟩,rfl⟩;go_wp2;exact⟨W,⟨_,_,W⟩,ai (dO _ _) _⟩
def kO(w:WD)(h:Fr O H F S X C w):cP 257 #[pq H 19] w (gC (db F) wv O H S w):=by
 unfold db;cases Q:F.st with
 |nil=>have D:=h.st;rw[Q]at D;obtain⟨L,E,rfl⟩:=dt D;exact(pop_no H 19 L w h.row K3 W).mono λe w'⟨D,G⟩=>⟨D,Kb.h G⟩
 |cons n r=>have D:=h.st;have U:=h.aV;rw[Q]at D U;rw[List.reverse_cons]at D;refine(pop_ok H 19 n X w h.row K3 W tF D K9).mono λe w'⟨D,P,G,J,I⟩=>⟨D,h.stack K9 G (LZ J) ⟨I.kb.mono<|λi Q=>K9,I.row⟩⟩
def Fr.aD(h:Fr O H F S X C w)(G:F'.st=F.st)(D:F'.mem=F.mem)(J:F'.jd=F.jd)(I:F'.ae=F.ae)(P:F'.ac<=100000)(U:w'.rowIs H 137 27<|F'.cell X C)(Q:Kb [H] w w'):To O H F' S w w':=by refine⟨S,X,C,⟨U,by rw[G];exact Q.aD h.st<|λk Q=>by simpa using h.fs k Q,by rw[D];exact Q.aD h.me<|λk Q=>by simpa using h.fm k Q,h.aH,by rw[G];exact h.aV,by rw[D];exact h.bv,P,By h.hb Q.size,sA h.zr Q (λL=>h.bu (by rw[h.aH];grind)) h.hs,h.aA,h.bg,by rw[D];exact h.aT,by rw[J,I];exact h.jr.kb Q<|λg N f U L=>h.bO g N f U (by rw[h.aH];grind)⟩,Q.mono (λi U=>by rw[h.aH];grind),λk Q=>LZ Q⟩
def Fr.own2(h:Fr O H F S X C w)(G:F'.st=F.st)(D:F'.mem=F.mem)(J:F'.jd=F.jd)(I:F'.ae=F.ae)(P:F'.ac<=100000)(U:w'.rowIs H 137 27<|F'.cell X C)(Q:Kb [H] w w'):Fr O H F' S X C w'/\Kb S w w':=⟨⟨U,by rw[G];exact Q.aD h.st<|λk Q=>by simpa using h.fs k Q,by rw[D];exact Q.aD h.me<|λk Q=>by simpa using h.fm k Q,h.aH,by rw[G];exact h.aV,by rw[D];exact h.bv,P,By h.hb Q.size,sA h.zr Q (λL=>h.bu (by rw[h.aH];grind)) h.hs,h.aA,h.bg,by rw[D];exact h.aT,by rw[J,I];exact h.jr.kb Q<|λg N f U L=>h.bO g N f U (by rw[h.aH];grind)⟩,Q.mono (λi Q=>by rw[h.aH];grind)⟩
def Wu(c:Nat)(J:c<=100000000)(w:WD)(h:Fr O H F S X C w):cP 204 #[pt H,iI (c:Int)] w λe w'=>if F.ac<c then LL e/\Kb S w w' else e=AG/\Fr O H {F with ac:=F.ac-c} S X C w'/\Kb S w w':=by
 have G:=h.row.cell (i:=16) K3;have L:=h.row.frozen 16;rw[show F.cell X C 16=.int _ _ from W]at G;have I:=h.aN;by_cases L:F.ac<c
 .simp only[At L];go_enter func204,ntmps204;go_wp2;exact⟨W,⟨_,_,W⟩,Kb.refl _ _⟩
 simp only[iF L];have D:=cV h;go_enter func204,ntmps204;go_wp2;go_end0;refine⟨W,D.own2 W W W W K9 ?_<|(Kb.refl _ w).setCell AI _⟩;rw[<-mJ F X C _];refine(D.row.set 16 _).congr λi L=>?_;grind
def E4(c:Nat)(I:c<=100000000)(w:WD)(h:Fr O H F S X C w):cP 204 #[pt H,iI (c:Int)] w (gC (im c F) dR O H S w):=
 (Wu c I w h).mono λe w' D=>by
  unfold im;by_cases J:F.ac<c
  .rw[At J]at D⊢;exact D
  rw[iF J]at D⊢;exact⟨D.1,S,X,C,D.2.1,D.2.2,λj G=>LZ G⟩
section
variable {P:Program}
end
def xo{f:Nat}{D:Array Operand}{A:Array Vr}{O:Vr}(L:pz f)(E:#[]++D.map s.eval++#[]=vs)(G:cP f vs x Post)(H:∀e C,Post e C->(∃r,e=.returned r/\K (Wb s d r) C)\/(∃J,e=.panicked J/\Q (.panic J) s C)):Oper.wp prog ⟨some d,.call ⟨.value<|.func f,D,A⟩,O,pos,af,gd⟩ s x K Q:=by unfold Oper.wp;rw[execOp_call_go,E,L];rw[Oper.upon_enter];refine G.mono ?_;grind
abbrev zw:Obj:=.cells #[.int .u64 0,.int .u64 0,.int .u64 0,.int .u64 0] 24
def kh{E:Vr}{g:U6}(D:K (Wb s d<|pt x.heap.size)<|x.alloc zw):Oper.wp prog ⟨some d,.alloc 24,E,pos,af,g⟩ s x K Q:=by go_simp;exact D
def jU(T:Kn):=∀c c' S S' v x x',T c S v x->((c'=c/\S'=S/\bW x x')\/(c.1<c'.1/\Kb S x x'/\∀k∈S',k∈S\/x.heap.size<=k))->T c' S' v x'
def lq{T:Kn}(h:∀c D S E v x G,T c S v x->(D=c\/c.1<D.1)->Kb S x G->(∀k∈E,k∈S\/x.heap.size<=k)->T D E v G):jU T:=λc D S E v x G I J=>by grind[Kb.h]
def np(c:VL):Kn:=λ_ _ v _=>v=c
def kc{c:VL}(E:∀v D,bW x D->(some d=none->v=undef)->v=c->K (Wb s d v) D):K (Wb s d c) x:=E _ x (dO _ _) nn1 W
def Fr.aU(h:Fr O H F S X C w):∀k∈S,k<w.heap.size:=by
 intro k G;rw[h.aH]at G;rcases IF.1 G with D|D
 .rw[D];exact h.row.lt
 rcases Xr.1 D with E|E
 .exact(h.st.lt k K9).2
 exact(h.me.lt k K9).2
def Fr.kb{T:Tl}(h:Fr O H F S X C w)(I:Kb T w w')(J:∀k∈S,k∉T)(G:0∉T)(E:∀g N f,w.rowIs g 4 N f->g∉T):Fr O H F S X C w':=⟨I.row h.row<|J H (by rw[h.aH];simp),I.aD h.st<|λk D=>J k (by rw[h.aH];grind),I.aD h.me<|λk D=>J k (by rw[h.aH];grind),h.aH,h.aV,h.bv,h.aN,By h.hb I.size,sA h.zr I G h.hs,h.aA,h.bg,h.aT,h.jr.kb I E⟩
def lp(x:WD)(b n:Nat):WD:=(((x.setCell ⟨b,0,none⟩<|lu n 0).setCell ⟨b,1,none⟩<|lu n 1).setCell ⟨b,2,none⟩<|lu n 2).setCell ⟨b,3,none⟩<|lu n 3
def we(x:WD)(b n:Nat):Kb [b] x (lp x b n):=((((Kb.refl [b] x).setCell AI _).setCell AI _).setCell AI _).setCell AI _
variable {G:Fz}
def dm{T L:Vr}{E:Addr}(he:tG s t<|.pointer<|some E)(J:x.cell? E=some v)(I:K (Wb s d v) x)(hA:∀w,(isAgg T).run prog w=.ok false w:=by exact λ_=>N0):Oper.wp prog ⟨some d,.load T<|.tmp t,L,pos,af,gd⟩ s x K Q:=by
 have D:s.eval (.tmp t)=.pointer _:=he;have L:∀P,(load E).run P x=.ok v x:=λP=>by simp[go_sem,J]
 unfold Oper.wp;simp only[execOp,D,Instr.loadAt,Instr.sureAddr,loadVar,ZU,ZV,Y2,hA,Bool.false_eq_true,Zw,L];exact I
def dD{E:Vr}(he:tG s t<|pq b off)(I:cL x b off<|lu n 0)(c1:cL x b (off+1)<|lu n 1)(c2:cL x b (off+2)<|lu n 2)(c3:cL x b (off+3)<|lu n 3)(D:K (Wb s d<|wv n) x):Oper.wp prog ⟨some d,.load 24<|.tmp t,E,pos,af,gd⟩ s x K Q:=by go_simp;exact D
def badF:Fz:=⟨undef,⟨#[]⟩,undef,0,0,0,⟨#[]⟩,100001,false,0,[],[0],⟨#[]⟩,0,0,false,0,⟨#[]⟩⟩
theorem rM(h:Fr O H badF S X C w):False:=by have:=h.aN;grind[badF]
def A1{α:Type}(r:Option<|α×Fz):Fz:=match r with
 |some (_,F)=>F
 |none=>badF
def dV(r:Option<|Nat×Fz):Nat:=match r with
 |some (n,_)=>n
 |none=>0
def oY{f:Nat}{U:Array Operand}{A:Array Vr}{q:Vr}{α:Type}{r:Option<|α×Fz}{B:α->VL}(l:pz f)(Y:#[]++U.map s.eval++#[]=vs)(Z:cP f vs x<|gC r B O H S x)(P:∀u c D,r=none->Kb S x D->Q (.panic [{v:=.iface u c,recovered:=false}]) s D)(o:∀a R L I E D,r=some (a,R)->Fr O H R L I E D->Kb S x D->(∀j∈L,j∈S\/x.heap.size<=j)->K (Wb s d<|B a) D):Oper.wp prog ⟨some d,.call ⟨.value<|.func f,U,A⟩,q,pos,af,gd⟩ s x K Q:=by
 refine xo l Y Z λe D J=>?_;unfold gC at J;split at J
 .obtain⟨m,L,I,E,V,p,h⟩:=J;grind
 obtain⟨⟨u,c,rfl⟩,V⟩:=J;grind
def lZ:pz 257:=λ_ _=>N0
def pT:pz 259:=λ_ _=>N0
def qJ:pz 262:=λ_ _=>N0
def Km:pz 261:=λ_ _=>N0
def qY:pz 260:=λ_ _=>N0
structure Same(F F':Fz):Prop where
 aC:F'.aC=F.aC
 ae:F'.ae=F.ae
 jd:F'.jd=F.jd
 ak:F'.ak=F.ak
 ax:F'.ax=F.ax
 value:F'.value=F.value
 data:F'.data=F.data
 ro:F'.ro=F.ro
 ret:F'.ret=F.ret
 pc:F'.pc=F.pc
 nx:F'.nx=F.nx
 mem:F'.mem=F.mem
 ac:F'.ac=F.ac
 depth:F'.depth=F.depth
theorem Same.refl(F:Fz):Same F F:=⟨W,W,W,W,W,W,W,W,W,W,W,W,W,W⟩
def I2:100000<badF.ac:=K3
theorem fy(h:100000<G.ac\/Same F G):100000<(A1<|db G).ac\/Same F (A1<|db G):=by
 unfold db;split
 .exact LZ I2
 rcases h with h|h
 .exact LZ h
 exact A4 ⟨h.aC,h.ae,h.jd,h.ak,h.ax,h.value,h.data,h.ro,h.ret,h.pc,h.nx,h.mem,h.ac,h.depth⟩
theorem gV(h:100000<G.ac\/Same F G)(n:Nat):100000<(A1<|dB n G).ac\/Same F (A1<|dB n G):=by
 unfold dB;split
 .exact LZ I2
 rcases h with h|h
 .exact LZ h
 exact A4 ⟨h.aC,h.ae,h.jd,h.ak,h.ax,h.value,h.data,h.ro,h.ret,h.pc,h.nx,h.mem,h.ac,h.depth⟩
def Pc(l:Vf):Kn:=λ_ S v x=>∃b,Bys x b v l/\∀k,v.ownBlock=some k->k∉S
def qD{l:Vf}:jU (Pc l):=lq λ_ _ S L v x P⟨b,I,E⟩_ U V=>⟨b,U.aD I E,λk D J=>(V k J).elim (E k D) (λh=>by have:=(I.lt k D).2;omega)⟩
def Va{I:Vr}{E:BA}(he:tG s t<|.string E)(D:K (Wb s d<|iI (E.size:Int)) x):Oper.wp prog ⟨some d,.call ⟨.builtin .len,#[.tmp t],#[9]⟩,I,pos,af,gd⟩ s x K Q:=by go_simp;exact D
def ltq9(h:i<9):i=0\/i=1\/i=2\/i=3\/i=4\/i=5\/i=6\/i=7\/i=8:=wq
def WS(h:i<10):i=0\/i=1\/i=2\/i=3\/i=4\/i=5\/i=6\/i=7\/i=8\/i=9:=wq
def zZ(h:i<12):i=0\/i=1\/i=2\/i=3\/i=4\/i=5\/i=6\/i=7\/i=8\/i=9\/i=10\/i=11:=wq
def rR{o:Oper}(D:∀t c,env t=some c->s.tmps.getD t undef=c)(he:(execOp (pG env s) o).run prog x=.ok (.value v) x')(E:K (s.put o.dst v) x'):Oper.wp prog o s x K Q:=by grind[tY,Oper.wp,Oper.upon_value]
def PhF(O H:Nat)(G:Nat->Fz)(S:Tl)(w:WD)(k:Nat)(x:WD):=∃S' X C,Fr O H (G k) S' X C x/\Kb S w x/\∀j∈S',j∈S\/w.heap.size<=j
def PhF.bel{G:Nat->Fz}(k:Nat)(x x':WD)(h:PhF O H G S w k x)(L:bW x x'):PhF O H G S w k x':=by let⟨D,X,C,I,E,J⟩:=h;exact⟨D,X,C,I.below L,E.below L,J⟩
def PhF.bn{G:Nat->Fz}(h:Fr O H (G 0) S X C w):PhF O H G S w 0 w.drew:=⟨S,X,C,h.below (dO _ w).drew,(Kb.refl S w).drew,λj D=>LZ D⟩
def zax{α:Type}{r:Option<|α×Fz}{B:α->VL}{G:Nat->Fz}{c:VL}{o:Oper}{f:FuncId}(V:PhF O H G S w p x)(y:∀t c,env t=some c->s.tmps.getD t undef=c)(z:∀I X C,Fr O H (G p) I X C x->cP f args x (gC r B O H I x))(he:(execOp (pG env s) o).run prog x=.ok (.enter f args) x)(T:G (p+1)=A1 r)(L:∀a U,r=some (a,U)->B a=c)(J:r=none->∀u n x',Kb S w x'->Q (.panic [{v:=.iface u n,recovered:=false}]) s x')(F:∀S1 Z P S2 E D x',Fr O H (G p) S1 Z P x->Fr O H (G<|p+1) S2 E D x'->Kb S1 x x'->(∀j∈S2,j∈S1\/x.heap.size<=j)->PhF O H G S w (p+1) x'->K (s.put o.dst c) x'):Oper.wp prog o s x K Q:=by
 let⟨I,X,C,Y,R,g⟩:=V;cases b:r with
 |none=>
  refine o6 y (z I X C Y) (he:=he) (λv x' h=>?_) (λl x' h=>?_)<|λx' h=>?_
  .rw[b]at h;let⟨⟨u,n,e⟩,_⟩:=h;cases e
  .rw[b]at h;let⟨⟨u,n,e⟩,k⟩:=h;injection e with e;rw[e];exact J b u n x'<|R.trans k g
  rw[b]at h;let⟨⟨u,n,e⟩,_⟩:=h;cases e
 |some q=>
  let⟨a,U⟩:=q;refine o6 y (z I X C Y) (he:=he) (λv x' h=>?_) (λl x' h=>?_)<|λx' h=>?_
  .rw[b]at h;let⟨e,S2,E,D,A,m,d⟩:=h;injection e with e;rw[e,L a U b];have k0:Fr O H (G<|p+1) S2 E D x':=by rwa[T,b]
   refine F I X C S2 E D x' Y k0 m d ⟨S2,E,D,k0,R.trans m g,λj N=>?_⟩
   .rcases d j N with e|e
    .grind
    exact A4<|By R.size e
  .rw[b]at h;let⟨e,_⟩:=h;cases e
  rw[b]at h;let⟨e,_⟩:=h;cases e
def gz{α:Type}{r:Option<|α×Fz}{B:α->VL}{G:Nat->Fz}{c:VL}{o:Oper}{f:FuncId}(I:PhF O H G S w p x)(U:∀t c,env t=some c->s.tmps.getD t undef=c)(V:∀J X C,Fr O H (G p) J X C x->cP f args x (gC r B O H J x))(L:G (p+1)=A1 r)(E:∀a P,r=some (a,P)->B a=c)(D:r=none->∀u Y x',Kb S w x'->Q (.panic [{v:=.iface u Y,recovered:=false}]) s x')(R:∀x',PhF O H G S w (p+1) x'->K (s.put o.dst c) x')(he:(execOp (pG env s) o).run prog x=.ok (.enter f args) x:=by kernel_rfl):Oper.wp prog o s x K Q:=zax I U V he L E D λ_ _ _ _ _ _ x' _ _ _ _ h=>R x' h
variable {et:Vr}
section
open Go.Maps Go.ChangeMaps
def xi:VL->Option (DataW VL×List MemPlace):=λv=>some (.held v,[])
def MapV(P:Program)(kt:Vr)(x:WD)(b n:Nat)(f:VL->Option VL):=∃D:DataW VL,x.ownsMap P kt xi b n D/\∀v l,keyOf P kt v=some l->Maps.has D l=(f v).isSome/\∀z,D.atKey l (.held z)=.held ((f v).getD z)
section
variable {P:Program}{t:Vr}{f g:VL->Option VL}
def MapV.bS(P:Program)(kt:Vr)(w:WD):MapV P kt (w.alloc<|.map #[] 0) w.heap.size 0 (λ_=>none):=⟨.map [],World.ownsMap_made _ _ _ _,λ_ _ _=>⟨W,λ_=>W⟩⟩
def MapV.lt(h:MapV P kt x b n f):b<x.heap.size:=by let⟨D,C,_⟩:=h;exact C.lt
def MapV.block(h:MapV P kt x b n f)(L:y.heap[b]?=x.heap[b]?):MapV P kt y b n f:=by let⟨D,⟨H,cl,G,C,J,E⟩,I⟩:=h;exact⟨D,⟨H,cl,L.trans G,C,J,E⟩,I⟩
def MapV.is(h:MapV P kt x b n f):∃C cl,x.heap[b]?=some (.map C cl):=by let⟨D,⟨C,cl,H,E,J,G⟩,I⟩:=h;grind
def MapV.mono(h:MapV P kt x b n f)(hn:n<=m):MapV P kt x b m f:=by let⟨D,E,C⟩:=h;exact⟨D,E.mono hn,C⟩
def MapV.aQ(h:MapV P kt x b n f)(K:Keyed P kt)(H:P.underlying t=some (.map kt et)){z:VL}(hz:∀w,(zeroValue et).run P w=.ok z w){N:VL}(I:keyOf P kt N=some kl):(Instr.lookup t (.map<|some b) N false).run P x=.ok ((f N).getD z) x:=by let⟨D,G,E⟩:=h;obtain⟨v,J,J,C⟩:=G.lookup K H (hz x) W I;rw[(E _ kl I).2 z]at C;injection C with C;grind
def MapV.store(h:MapV P kt x b n f)(K:Keyed P kt)(E:P.underlying t=some (.map kt et))(hn:n<maxLen){N:VL}(B:VL)(O:keyOf P kt N=some kl):∃y g,(Instr.mapUpdate t (.map<|some b) N B).run P x=.ok () y/\MapV P kt y b (n+1) g/\g N=some B/\(∀v,v≠N->g v=f v)/\x.mapTurned y b:=by
 classical
 let⟨D,G,H⟩:=h;let⟨y,U,J,E⟩:=G.store K E hn O<|show xi B=some _ from W;refine⟨y,λv=>if v=N then some _ else f v,U,⟨_,J,λv l Q=>?_⟩,At W,λv L=>iF L,E⟩;by_cases e:v=N
 .subst e;cases(hV (Q.symm.trans O):l=kl);dsimp only;rw[At W];exact⟨has_put_same G.isMap (K.key O) _,λz=>atKey_put_same G.isMap (K.key O) _ _⟩
 have C:l≠kl:=λI=>e (K.inj Q (by rw[I];exact O));dsimp only;rw[iF e];exact⟨(has_put_other C _).trans (H v l Q).1,λz=>(atKey_put_other C _ _).trans<|(H v l Q).2 z⟩
def MapV.drop(h:MapV P kt x b n f)(K:Keyed P kt)(C:P.underlying t=some (.map kt et)){N:VL}(O:keyOf P kt N=some kl)(Q:Vr):∃y g,(Builtin.delete_ #[t,kt] Q #[.map<|some b,N]).run P x=.ok (.tuple #[]) y/\MapV P kt y b n g/\g N=none/\(∀v,v≠N->g v=f v)/\x.mapTurned y b:=by
 classical
 let⟨D,G,J⟩:=h;let⟨y,U,H,C⟩:=G.drop K C O Q;refine⟨y,λv=>if v=N then none else f v,U,⟨_,H,λv l Q=>?_⟩,At W,λv I=>iF I,C⟩;by_cases e:v=N
 .subst e;cases(hV (Q.symm.trans O):l=kl);dsimp only;rw[At W];grind[has_del_same,atKey_del_same]
 have E:l≠kl:=λL=>e<|K.inj Q K9;dsimp only;rw[iF e];grind[has_del_other,trans,atKey_del_other]
def Qq{D:DataW VL}(h:x.ownsMap P kt xi b n D):∃C,D=.map C/\∀p∈C,∃v,keyOf P kt v=some p.1:=by obtain⟨C,cl,G,E,H,rfl⟩:=h;refine⟨_,W,?_⟩;exact keys_perm (List.Perm.symm<|WideShapes.sorted_perm _)<|fit_keys E
def MapV.len(h:MapV P kt x b n f)(K:Keyed P kt)(I:P.underlying t=some (.map kt et))(O:Vr):∃s:Nat,(Builtin.len_ #[t] O #[.map<|some b]).run P x=.ok (iI (s:Int)) x/\s<=n/\(s=0↔∀v l,keyOf P kt v=some l->f v=none):=by
 let⟨D,C,H⟩:=h;refine⟨_,C.len I O,C.size_le,?_⟩;obtain⟨J,rfl,L⟩:=Qq C;constructor
 .intro O v l hl;have e:=Yo O;simp_all[Maps.has]
 intro O;cases J with
 |nil=>rfl
 |cons p r=>let⟨v,E⟩:=L p K2;have G:=(H v _ E).1;rw[O v _ E,Maps.has_eq]at G;simp[WideAt.sameKey_self<|K.key E]at G
def An{x y:WD}{b:Nat}(h:x.mapTurned y b):y.os=x.os/\y.tape=x.tape/\y.output=x.output/\x.heap.size<=y.heap.size/\∀k,k<x.heap.size->k≠b->y.heap[k]?=x.heap[k]? :=by have:=h.grown;exact⟨this.os,this.tape,this.output,this.size,λk D C=>this.block k D<|λe=>C<|hV e⟩
end
end
end
section
variable {v:VL}{x:WD}
def WC:laidOutB prog=true:=N0
def wd_row:(24:Vr)<prog.types.size:=Xd N0
def Q0:(match prog.underlying 24 with|some (.array _ _)|some (.struct _)=>true|_=>false)=true:=N0
def wd_law:WideMaps.KeyLaw prog 24:=deep_law_laid WC (m:=3) wq wd_row N0 Q0
def wd_keyed:Keyed prog 24:=Keyed.of_law wd_law
def cl_row:(217:Vr)<prog.types.size:=Xd N0
def Tx:(match prog.underlying 217 with|some (.array _ _)|some (.struct _)=>true|_=>false)=true:=N0
def cl_law:WideMaps.KeyLaw prog 217:=deep_law_laid WC (m:=4) wq cl_row N0 Tx
def D5:Keyed prog 217:=Keyed.of_law cl_law
def w7:prog.cellsOf 24=4:=N0
def Wj:prog.keyType 24=true:=N0
def uG:∃m,prog.types.size=m+2:=⟨prog.types.size-2,R5⟩
def TB(n i:Nat):(Lit.int .u64<|cX n i).wf=true:=by have C:=qP n i;have D:=ud n i;grind[Lit.wf,IntKind.min,IntKind.max,IntKind.signed,IntKind.bits]
def BB(v:VL):Option (List Lit):=match v with
  |.int .u64 a=>if (Lit.int .u64 a).wf=true then some [.int .u64 a]else none
  |_=>none
def ub{l:List Lit}(h:BB v=some l):∃a,v=iU a/\(Lit.int .u64 a).wf=true:=by unfold BB at h;grind
def Iu(n i:Nat):BB (.int .u64<|cX n i)=some [.int .u64<|cX n i]:=At<|TB n i
def xO(d:Nat)(v:VL):prog.keyLits (d+1) 22 [v]=BB v:=by
 unfold Program.keyLits BB;rw[underlying22];cases v<;>try rfl
 rename_i k a;cases k<;>simp
def Bj(d:Nat)(E D C v3:VL):prog.keyLits (d+2) 24 [E,D,C,v3]=((List.range 4).mapM λi=>prog.keyLits (d+1) 22<|([E,D,C,v3].drop<|i*1).take 1).map List.flatten:=R5
def rI(n:Nat):∃l,keyOf prog 24 (wv n)=some l:=by
 let⟨m,C⟩:=uG;unfold keyOf;rw[underlying24];simp only[Wj,Value.formed,underlying24,w7,YG];rw[C,At R5];show∃l,Option.map _ (prog.keyLits (m+1+2) 24 [.int .u64<|cX n 0,.int .u64<|cX n 1,.int .u64<|cX n 2,.int .u64<|cX n 3])=some l;rw[Bj];simp[List.range,List.range.loop,xO,Iu]
def xf{b:Nat}(h:wv a=wv b):a%M=b%M:=by
 have C:gN a b=true:=by grind[uE]
 exact Xd C
def Ms{Q C D a3:Int}(H:(Lit.int .u64 Q).wf=true)(G:(Lit.int .u64 C).wf=true)(E:(Lit.int .u64 D).wf=true)(I:(Lit.int .u64 a3).wf=true):∃n,Value.agg #[iU Q,iU C,iU D,iU a3]=wv n:=by
 simp[Lit.wf,IntKind.min,IntKind.max,IntKind.signed,IntKind.bits]at H G E I;refine⟨Q.toNat+C.toNat*2^64+D.toNat*2^128+a3.toNat*2^192,?_⟩;have J:Q=cX (Q.toNat+C.toNat*2^64+D.toNat*2^128+a3.toNat*2^192) 0:=by grind[cX]
 have L:C=cX (Q.toNat+C.toNat*2^64+D.toNat*2^128+a3.toNat*2^192) 1:=by grind[cX]
 have P:D=cX (Q.toNat+C.toNat*2^64+D.toNat*2^128+a3.toNat*2^192) 2:=by grind[cX]
 have O:a3=cX (Q.toNat+C.toNat*2^64+D.toNat*2^128+a3.toNat*2^192) 3:=by unfold cX;rw[Ij];omega
 grind
theorem r7{l:Lit}(h:keyOf prog 24 v=some l):∃n,v=wv n:=by
 let⟨m,G⟩:=uG;unfold keyOf at h;rw[underlying24]at h;simp only[Wj,YG]at h;split at h
 case isFalse=>cases h
 rename_i P;cases v with
 |agg cs=>
  simp only[Value.formed,underlying24,w7,X1]at P;let⟨E⟩:=cs
  match E,P with
  |[v0,v1,v2,v3],_=>
   rw[G]at h;have h:Option.map _ (prog.keyLits (m+1+2) 24 [v0,v1,v2,v3])=some l:=h;rw[Bj]at h;simp only[List.range,List.range.loop,List.mapM_cons,List.mapM_nil,List.drop_zero,List.take_succ_cons,Y3,ZO,List.drop_succ_cons,xO]at h;cases Q:BB v0 with
   |none=>grind
   |some x0=>
   cases U:BB v1 with
   |none=>grind
   |some O=>
   cases V:BB v2 with
   |none=>grind
   |some I=>
   cases X:BB v3 with
   |none=>simp_all
   |some H=>
   obtain⟨Y,rfl,C⟩:=ub Q;obtain⟨J,rfl,Q⟩:=ub U;obtain⟨L,rfl,U⟩:=ub V;obtain⟨a3,rfl,D⟩:=ub X;exact Ms C Q U D
 |_=>simp[Value.formed,underlying24]at P
def AM(w:WD)(b n:Nat)(f:Nat->Option VL):=∃g,MapV prog 24 w b n g/\∀m,g (wv m)=f m
section
variable {f g:Nat->Option VL}
def AM.bS(w:WD):AM (w.alloc<|.map #[] 0) w.heap.size 0 (λ_=>none):=⟨_,MapV.bS _ _ w,λ_=>W⟩
def AM.lt(h:AM x b n f):b<x.heap.size:=by let⟨g,C,_⟩:=h;exact C.lt
def AM.is(h:AM x b n f):∃D cl,x.heap[b]?=some (.map D cl):=by let⟨g,C,_⟩:=h;exact C.is
def AM.block(h:AM x b n f)(E:y.heap[b]?=x.heap[b]?):AM y b n f:=by let⟨g,D,C⟩:=h;exact⟨g,D.block E,C⟩
def AM.mono(h:AM x b n f)(hn:n<=m):AM x b m f:=by let⟨g,D,C⟩:=h;exact⟨g,D.mono hn,C⟩
def AM.congr(h:AM x b n f)(e:∀m,g m=f m):AM x b n g:=by let⟨E,D,C⟩:=h;exact⟨E,D,λm=>(C m).trans (e m).symm⟩
def AM.aQ{t et:Vr}(h:AM x b n f)(E:prog.underlying t=some (.map 24 et)){z:VL}(hz:∀w,(zeroValue et).run prog w=.ok z w)(k:Nat):(Instr.lookup t (.map<|some b) (wv k) false).run prog x=.ok ((f k).getD z) x:=by let⟨g,D,C⟩:=h;let⟨l,G⟩:=rI k;rw[D.aQ wd_keyed E hz G,C]
def AM.store{t et:Vr}(h:AM x b n f)(D:prog.underlying t=some (.map 24 et))(hn:n<maxLen)(k:Nat)(B:VL):∃y,(Instr.mapUpdate t (.map<|some b) (wv k) B).run prog x=.ok () y/\AM y b (n+1) (λm=>if m%M=k%M then some B else f m)/\x.mapTurned y b:=by
 let⟨g,G,C⟩:=h;let⟨l,P⟩:=rI k;let⟨y,I,Q,L,E,H,O⟩:=G.store wd_keyed D hn B P;refine⟨y,Q,⟨I,L,λm=>?_⟩,O⟩;by_cases e:m%M=k%M
 .dsimp only;rw[At e,iL e,E]
 dsimp only;rw[iF e,H _<|λJ=>e<|xf J,C]
def AM.drop{t et:Vr}(h:AM x b n f)(D:prog.underlying t=some (.map 24 et))(k:Nat)(P:Vr):∃y,(Builtin.delete_ #[t,24] P #[.map<|some b,wv k]).run prog x=.ok (.tuple #[]) y/\AM y b n (λm=>if m%M=k%M then none else f m)/\x.mapTurned y b:=by
 let⟨g,G,C⟩:=h;let⟨l,Q⟩:=rI k;let⟨y,I,U,L,E,H,O⟩:=G.drop wd_keyed D Q P;refine⟨y,U,⟨I,L,λm=>?_⟩,O⟩;by_cases e:m%M=k%M
 .dsimp only;rw[At e,iL e,E]
 dsimp only;rw[iF e,H _<|λJ=>e<|xf J,C]
def AM.len{t et:Vr}(h:AM x b n f)(E:prog.underlying t=some (.map 24 et))(H:Vr):∃s:Nat,(Builtin.len_ #[t] H #[.map<|some b]).run prog x=.ok (iI (s:Int)) x/\s<=n/\(s=0↔∀m,f m=none):=by
 let⟨g,D,G⟩:=h;let⟨s,I,J,C⟩:=D.len wd_keyed E H;refine⟨s,I,J,C.trans ⟨λh m=>?_,λh v l H=>?_⟩⟩
 .obtain⟨l,H⟩:=rI m;grind
 grind[r7]
end
def kT:prog.underlying 89=some (.map 24 95):=N0
def oq:prog.underlying 93=some (.map 24 24):=N0
abbrev accC(ai:Nat)(ae:BA)(X:VL):Ys:=#[lu ai 0,lu ai 1,lu ai 2,lu ai 3,.string ae,X]
abbrev iu(ai:Nat)(ae:BA)(X:VL):VL:=.agg<|accC ai ae X
abbrev Ib:VL:=.agg #[.int .u64 0,.int .u64 0,.int .u64 0,.int .u64 0,.string ⟨#[]⟩,.map none]
def kE(w:WD):(zeroValue 95).run prog w=.ok Ib w:=N0
def xu(w:WD):(zeroValue 24).run prog w=.ok (.agg #[iU 0,iU 0,iU 0,iU 0]) w:=N0
section
variable {o:Oper}{a:Act}
def gH(J:o.guard=none){m x v:Operand}(t:Vr)(E:o.op=Op.mapUpdate t m x v){et:Vr}(H:prog.underlying t=some (.map 24 et))(b n:Nat)(f:Nat->Option VL)(P:a.eval m=.map (some b))(C:AM w b n f)(hn:n<maxLen)(k:Nat)(B:VL)(O:a.eval x=wv k)(R:a.eval v=B)(L:∀w',AM w' b (n+1) (λm=>if m%M=k%M then some B else f m)->w.mapTurned w' b->wpList prog I Q rest (a.put o.dst undef) w'):wpList prog I Q (o::rest) a w:=by refine Z6 J λU G=>?_;let⟨w',D,V,Y⟩:=C.store H hn k B;unfold Oper.wp;simp[execOp,E,P,O,R,D,Result.andThen];exact G _ _<|L w' V Y
def kW(J:o.guard=none){m x:Operand}(t:Vr)(E:o.op=Op.call {callee:=Callee.builtin Builtin.delete,args:=#[m,x],argTypes:=#[t,24]}){et:Vr}(H:prog.underlying t=some (.map 24 et))(b n:Nat)(f:Nat->Option VL)(P:a.eval m=.map (some b))(C:AM w b n f)(O:a.eval x=wv k)(L:∀w',AM w' b n (λm=>if m%M=k%M then none else f m)->w.mapTurned w' b->wpList prog I Q rest (a.put o.dst<|.tuple #[]) w'):wpList prog I Q (o::rest) a w:=by refine Z6 J λR G=>?_;let⟨w',D,U,V⟩:=C.drop H k o.type;unfold Oper.wp;simp[execOp,E,resolve,invoke,builtin,P,O,D,Result.andThen];exact G _ _<|L w' U V
end
def jx(h:x.mapTurned y b):Kb [b] x y:=by let⟨E,C,H,D,G⟩:=An h;exact⟨E,C,H,D,λk L J=>G k L K9⟩
def AM.kb{f:Nat->Option VL}(h:AM x b n f)(D:Kb S x y)(C:b∉S):AM y b n f:=h.block<|D.block b h.lt C
def NoSlots(w:WD)(X:VL):=X=.map none\/∃b n f,X=.map (some b)/\AM w b n f/\∀m,f m=none
def SomeSlots(w:WD)(X:VL):=∃b n f,X=.map (some b)/\n<9223372036854775807/\AM w b n f/\¬∀m,f m=none
theorem Lj(s:BA):s.toList.isEmpty=decide (s=⟨#[]⟩):=by
 rw[Go.ByteArray.toList_eq,Z9,Yz,List.isEmpty_iff];constructor
 .intro h;cases s with
  |mk d=>simp_all
 grind
def J8(h:NoSlots w X)(C:Vr):(Builtin.len_ #[93] C #[X]).run prog w=.ok (iI 0) w:=by
 rcases h with rfl|⟨b,n,f,rfl,h,D⟩
 .rfl
 obtain⟨s,D,_,D⟩:=h.len oq C;grind
def FM(h:SomeSlots w X)(D:Vr):∃s:Nat,(Builtin.len_ #[93] D #[X]).run prog w=.ok (iI (s:Int)) w/\((s:Int)==0)=false:=by obtain⟨b,n,f,rfl,C,h,E⟩:=h;obtain⟨s,E,_,E⟩:=h.len oq D;grind
def xd(h:n%M=0):gN n 0=true:=by grind[gN]
def CS(h:n%M≠0):gN n 0=false:=by grind[gN]
abbrev putW(w:WD)(aj amt:Nat)(ae:BA)(X:VL):WD:=(w.alloc<|wc aj).alloc<|.cells (accC amt ae X) 95
def qs(w:WD)(aj amt:Nat)(ae:BA)(X:VL):bW w (putW w aj amt ae X):=ai (ai (dO _ w) _) _
def Zr(w:WD):=(w.cell? ⟨0,0,none⟩=some (.int .u64 0)/\w.cell? ⟨0,1,none⟩=some (.int .u64 0)/\w.cell? ⟨0,2,none⟩=some (.int .u64 0)/\w.cell? ⟨0,3,none⟩=some (.int .u64 0))/\0<w.heap.size
def Zr.kb(h:Zr w)(G:Kb S w w')(E:0∉S):Zr w':=by have e:=G.block 0 h.2 E;let⟨⟨H,D,C,z3⟩,z4⟩:=h;exact⟨⟨(Xc e).trans H,(Xc e).trans D,(Xc e).trans C,(Xc e).trans z3⟩,Xg z4 G.size⟩
def Zr.below(h:Zr w)(C:bW w w'):Zr w':=h.kb (Kb.h (S:=[]) C) K2
def NoSlots.kb(h:NoSlots w X)(E:Kb S w w')(C:∀k,X=.map (some k)->k∉S):NoSlots w' X:=by
 rcases h with rfl|⟨b,n,f,rfl,h,D⟩
 .exact LZ W
 exact A4 ⟨b,n,f,W,h.kb E<|C b W,D⟩
def SomeSlots.kb(h:SomeSlots w X)(G:Kb S w w')(C:∀k,X=.map (some k)->k∉S):SomeSlots w' X:=by obtain⟨b,n,f,rfl,D,h,E⟩:=h;exact⟨b,n,f,W,D,h.kb G<|C b W,E⟩
def emp_f{s:BA}(h:s≠⟨#[]⟩):s.toList.isEmpty=false:=by grind[Lj]
def Od{f:Nat->Option VL}(X:VL)(w:WD)(h:AM w b n f)(P:amt%M=0)(U:NoSlots w X)(hz:Zr w):cP 81 #[.map<|some b,wv aj,iu amt ⟨#[]⟩ X] w λe w'=>e=AG/\AM w' b n (λm=>if m%M=aj%M then none else f m)/\Kb [b] w w':=by have C:=qs w aj amt ⟨#[]⟩ X;have G:Hd (AM _ b n f):=h.kb (Kb.h (S:=[]) C) K2;let⟨⟨V,O,L,z3⟩,_⟩:=hz.below C;have V:=J8<|U.kb (Kb.h (S:=[]) C) K2;have D:=pJ amt;rw[xd P]at D;have E:=cV C;go_enter func81,ntmps81;go_wp2_with(first|(at_delete;refine kW rfl 89 rfl kT b n f rfl G rfl ?_;intro J H P)|go_in);go_wp2;refine sp (ZW W _ _ _) W ?_;exact⟨W,H,(Kb.h E).trans (jx P) K2⟩
def VV{f:Nat->Option VL}(X:VL)(w:WD)(h:AM w b n f)(hn:n<maxLen)(U:amt%M≠0)(hz:Zr w):cP 81 #[.map<|some b,wv aj,iu amt ae X] w λe w'=>e=AG/\AM w' b (n+1) (λm=>if m%M=aj%M then some (iu amt ae X)else f m)/\Kb [b] w w':=by have D:=qs w aj amt ae X;have G:Hd (AM _ b n f):=h.kb (Kb.h (S:=[]) D) K2;let⟨⟨V,P,O,z3⟩,_⟩:=hz.below D;have C:=pJ amt;rw[CS U]at C;have E:=cV D;have J:=cV hn;go_enter func81,ntmps81;go_wp2_with(first|(at_mapUpdate;refine gH rfl 89 rfl kT b n f rfl G J _ (iu _ _ X) rfl rfl ?_;intro L H U)|go_in);go_wp2;go_end0;exact⟨W,H,(Kb.h E).trans (jx U) K2⟩
def QG{f:Nat->Option VL}(X:VL)(w:WD)(h:AM w b n f)(hn:n<maxLen)(V:amt%M=0)(L:ae≠⟨#[]⟩)(hz:Zr w):cP 81 #[.map<|some b,wv aj,iu amt ae X] w λe w'=>e=AG/\AM w' b (n+1) (λm=>if m%M=aj%M then some (iu amt ae X)else f m)/\Kb [b] w w':=by have D:=qs w aj amt ae X;have G:Hd (AM _ b n f):=h.kb (Kb.h (S:=[]) D) K2;let⟨⟨Y,R,P,z3⟩,_⟩:=hz.below D;have C:=pJ amt;rw[xd V]at C;have U:=emp_f L;have E:=cV D;have J:=cV hn;go_enter func81,ntmps81;go_wp2_with(first|(at_mapUpdate;refine gH rfl 89 rfl kT b n f rfl G J _ (iu _ _ X) rfl rfl ?_;intro O H V)|go_in);go_wp2;go_end0;exact⟨W,H,(Kb.h E).trans (jx V) K2⟩
def JW{f:Nat->Option VL}(X:VL)(w:WD)(h:AM w b n f)(hn:n<maxLen)(U:amt%M=0)(V:SomeSlots w X)(hz:Zr w):cP 81 #[.map<|some b,wv aj,iu amt ⟨#[]⟩ X] w λe w'=>e=AG/\AM w' b (n+1) (λm=>if m%M=aj%M then some (iu amt ⟨#[]⟩ X)else f m)/\Kb [b] w w':=by have C:=qs w aj amt ⟨#[]⟩ X;have H:Hd (AM _ b n f):=h.kb (Kb.h (S:=[]) C) K2;let⟨⟨Y,R,P,z3⟩,_⟩:=hz.below C;let⟨s,Y,E⟩:=FM (V.kb (Kb.h (S:=[]) C) K2) 3;have D:=pJ amt;rw[xd U]at D;have G:=cV C;have L:=cV hn;go_enter func81,ntmps81;go_wp2_with(first|(at_mapUpdate;refine gH rfl 89 rfl kT b n f rfl H L _ (iu _ _ X) rfl rfl ?_;intro O J U)|go_in);go_wp2;go_end0;exact⟨W,J,(Kb.h G).trans (jx U) K2⟩
end
section
variable {v:VL}
structure Acc where
 ai:Nat
 ae:BA
 ar:Vq
def Acc.no(a:Acc):=a.ai%M=0/\a.ae=⟨#[]⟩/\∀k,a.ar k%M=0
def gh(s:Vq)(k:Nat):Option VL:=if s k%M=0 then none else some<|wv<|s k
def SlotsOk(w:WD)(n ab:Nat)(s:Vq)(v:VL):=(v=.map none/\∀k,s k%M=0)\/∃b,v=.map (some b)/\b≠ab/\AM w b n (gh s)
def SlotsOk.kb{s:Vq}(h:SlotsOk w n ab s v)(I:Kb S w w')(G:∀k,v=.map (some k)->k∉S)(D:n<=m):SlotsOk w' m ab s v:=by
 rcases h with h|⟨b,C,E,H⟩
 .exact LZ h
 exact A4 ⟨b,C,E,(H.kb I<|G b C).mono D⟩
def SlotsOk.is{s:Vq}(h:SlotsOk w n ab s v):∃o,v=.map o:=by
 rcases h with⟨e,_⟩|⟨b,e,_⟩
 .grind
 grind
structure AccsX(ab n:Nat)(A:Nat->Acc)(sb:Vp)(aj:Nat)(w:WD):Prop where
 map:∃f,AM w ab n f/\∀m,m%M≠aj%M->((A m).no->f m=none)/\(¬(A m).no->f m=some (iu (A m).ai (A m).ae (sb m)))
 aK:∀m,m%M≠aj%M->¬(A m).no->SlotsOk w n ab (A m).ar (sb m)
 inj:∀m m' b,m%M≠aj%M->m'%M≠aj%M->¬(A m).no->¬(A m').no->sb m=.map (some b)->sb m'=.map (some b)->m%M=m'%M
 aO:∀m m',m%M=m'%M->A m=A m'/\sb m=sb m'
structure Accs(ab n:Nat)(A:Nat->Acc)(sb:Vp)(w:WD):Prop where
 map:∃f,AM w ab n f/\∀m,((A m).no->f m=none)/\(¬(A m).no->f m=some (iu (A m).ai (A m).ae (sb m)))
 aK:∀m,¬(A m).no->SlotsOk w n ab (A m).ar (sb m)
 inj:∀m m' b,¬(A m).no->¬(A m').no->sb m=.map (some b)->sb m'=.map (some b)->m%M=m'%M
 aO:∀m m',m%M=m'%M->A m=A m'/\sb m=sb m'
def Accs.x{A:Nat->Acc}(h:Accs ab n A sb w)(aj:Nat):AccsX ab n A sb aj w:=⟨by let⟨f,D,C⟩:=h.map;grind,λm _=>h.aK m,λm m' b _ _=>h.inj m m' b,h.aO⟩
def fZ(ab:Nat)(A:Nat->Acc)(sb:Vp)(k:Nat):=k=ab\/∃m,¬(A m).no/\sb m=.map (some k)
def Accs.kb{A:Nat->Acc}(h:Accs ab n A sb w)(H:Kb S w w')(D:∀k∈S,¬fZ ab A sb k):Accs ab n A sb w':=by refine⟨?_,λm C=>(h.aK m C).kb H (λk e H=>D k H<|A4 ⟨m,C,e⟩)<|DO _,h.inj,h.aO⟩;let⟨f,G,E⟩:=h.map;exact⟨f,G.kb H<|λH=>D _ H<|LZ W,E⟩
def AccsX.kb{A:Nat->Acc}(h:AccsX ab n A sb aj w)(J:Kb S w w')(H:ab∉S)(G:∀m k,m%M≠aj%M->¬(A m).no->sb m=.map (some k)->k∉S):AccsX ab n A sb aj w':=by refine⟨?_,λm D C=>(h.aK m D C).kb J (λk e=>G m k D C e)<|DO _,h.inj,h.aO⟩;let⟨f,I,E⟩:=h.map;exact⟨f,I.kb J H,E⟩
def Accs.lt{A:Nat->Acc}(h:Accs ab n A sb w)(E:fZ ab A sb k):k<w.heap.size:=by
 rcases E with rfl|⟨m,D,C⟩
 .obtain⟨f,D,_⟩:=h.map;exact D.lt
 rcases h.aK m D with⟨e,_⟩|⟨b,e,_,E⟩
 .grind
 rw[e]at C;injection C with C;injection C with C;subst C;exact E.lt
def fQ{α:Type}(A:Nat->α)(aj:Nat)(a:α):Nat->α:=λm=>if m%M=aj%M then a else A m
theorem jC{α:Type}{A:Nat->α}{a:α}(h:m%M=aj%M):fQ A aj a m=a:=At h
theorem iV{α:Type}{A:Nat->α}{a:α}(h:m%M≠aj%M):fQ A aj a m=A m:=iF h
def qL{α:Type}{A:Nat->α}(aj:Nat){a:α}(e:m%M=m'%M)(h:A m=A m'):fQ A aj a m=fQ A aj a m':=by grind[fQ]
theorem AccsX.put{A:Nat->Acc}{a:Acc}{G:Nat->Option VL}(h:AccsX ab n A sb aj w)(U:SlotsOk w n ab a.ar X)(V:∀m b,m%M≠aj%M->¬(A m).no->sb m=.map (some b)->X≠.map (some b))(V:Kb [ab] w w'){f:Nat->Option VL}(Y:AM w ab n f)(Q:∀m,m%M≠aj%M->((A m).no->f m=none)/\(¬(A m).no->f m=some (iu (A m).ai (A m).ae<|sb m)))(R:AM w' ab (n+1) G)(hne:∀m,m%M≠aj%M->G m=f m)(P:∀m,m%M=aj%M->(a.no->G m=none)/\(¬a.no->G m=some (iu a.ai a.ae X))):Accs ab (n+1) (fQ A aj a) (fQ sb aj X) w':=by
 have E:∀{s v b},SlotsOk w n ab s v->v=.map (some b)->b∉[ab]:=λU e=>by
  rcases U with⟨H,_⟩|⟨b,H,Y,_⟩
  .grind
  grind
 refine⟨⟨G,R,λm=>?_⟩,λm C=>?_,λm m' b L J H D=>?_,λm m' e=>⟨qL _ e (h.aO m m' e).1,qL _ e (h.aO m m' e).2⟩⟩
 .by_cases e:m%M=aj%M
  .grind[jC]
  grind[iV]
 .by_cases e:m%M=aj%M
  .rw[jC e,jC e];exact U.kb V (λk D=>E U D)<|ZN _
  rw[iV e]at C;rw[iV e,iV e];exact(h.aK m e C).kb V (λk D=>E (h.aK m e C) D)<|ZN _
 by_cases O:m%M=aj%M
 .by_cases I:m'%M=aj%M
  .omega
  grind[jC,iV,absurd]
 by_cases I:m'%M=aj%M
 .grind[jC,iV,absurd]
 rw[iV O]at H L;rw[iV I]at D J;exact h.inj m m' b O I L J H D
def BT{A:Nat->Acc}(a:Acc)(X:VL)(w:WD)(h:AccsX ab n A sb aj w)(c:SlotsOk w n ab a.ar X)(d:∀m b,m%M≠aj%M->¬(A m).no->sb m=.map (some b)->X≠.map (some b))(hn:n<1000000000000)(hz:Zr w):cP 81 #[.map<|some ab,wv aj,iu a.ai a.ae X] w λe w'=>e=AG/\Accs ab (n+1) (fQ A aj a) (fQ sb aj X) w'/\Kb [ab] w w':=by
 have E:n<maxLen:=by grind[maxLen]
 let⟨f,Z,I⟩:=h.map;have some':∀{e w'},¬a.no->(e=AG/\AM w' ab (n+1) (λm=>if m%M=aj%M then some (iu a.ai a.ae X)else f m)/\Kb [ab] w w')->(e=AG/\Accs ab (n+1) (fQ A aj a) (fQ sb aj X) w'/\Kb [ab] w w'):=by rintro e w' J⟨P,L,D⟩;refine⟨P,h.put c d D Z I L (λm G=>iF G)<|λm G=>⟨λH=>absurd H J,λ_=>At G⟩,D⟩
 by_cases Y:a.ai%M=0
 .by_cases H:a.ae=⟨#[]⟩
  .by_cases hk:∀k,a.ar k%M=0
   .have R:NoSlots w X:=by
     rcases c with⟨e,_⟩|⟨b,e,_,D⟩
     .exact LZ e
     exact A4 ⟨b,n,_,e,D,λm=>At<|hk m⟩
    rw[H];refine(Od X w Z Y R hz).mono ?_;rintro e w'⟨P,L,D⟩;exact⟨P,h.put c d D Z I (L.mono<|ZN _) (λm G=>iF G)<|λm G=>⟨λ_=>At G,λO=>absurd ⟨Y,H,hk⟩ O⟩,D⟩
   have U:SomeSlots w X:=by
    rcases c with⟨e,c⟩|⟨b,e,_,D⟩
    .exact absurd c hk
    refine⟨b,n,_,e,wq,D,λV=>hk λk=>?_⟩;have Q:=V k;unfold gh at Q;split at Q
    .assumption
    cases Q
   have C:=@some';rw[H]at C⊢;exact(JW X w Z E Y U hz).mono λe w' h=>C (λh=>hk h.2.2) h
  exact(QG X w Z E Y H hz).mono λe w' h=>some' (λh=>H h.2.1) h
 exact(VV X w Z E Y hz).mono λe w' h=>some' (λh=>Y h.1) h
def GF(h:a%M=b%M){c:BA}{s:VL}:iu a c s=iu b c s:=by have e:=iL h;grind
def AccsX.mono{A:Nat->Acc}(h:AccsX ab n A sb aj w)(hn:n<=m):AccsX ab m A sb aj w:=⟨by let⟨f,D,C⟩:=h.map;exact⟨f,D.mono hn,C⟩,λk D C=>(h.aK k D C).kb (Kb.refl [] w) K2 hn,h.inj,h.aO⟩
def Accs.mono{A:Nat->Acc}(h:Accs ab n A sb w)(hn:n<=m):Accs ab m A sb w:=⟨by let⟨f,D,C⟩:=h.map;exact⟨f,D.mono hn,C⟩,λk C=>(h.aK k C).kb (Kb.refl [] w) K2 hn,h.inj,h.aO⟩
def Accs.bL{A:Nat->Acc}(h:Accs ab n A sb w)(aj:Nat){f:Nat->Option VL}(H:∀m,((A m).no->f m=none)/\(¬(A m).no->f m=some (iu (A m).ai (A m).ae<|sb m))):∃X,(f aj).getD Ib=iu (A aj).ai (A aj).ae X/\SlotsOk w n ab (A aj).ar X/\(∀m b,m%M≠aj%M->¬(A m).no->sb m=.map (some b)->X≠.map (some b))/\(∀b,X=.map (some b)->fZ ab A sb b):=by
 by_cases C:(A aj).no
 .refine⟨_,?_,LZ ⟨W,C.2.2⟩,λm b _ _ _ e=>(by cases e),λb e=>(by cases e)⟩;rw[(H _).1 C,C.2.1,GF<|show(A _).ai%M=0%M from C.1];rfl
 refine⟨_,?_,h.aK _ C,λm b E D e G=>E<|h.inj m _ b D C e G,λb e=>A4 ⟨_,C,e⟩⟩;grind
abbrev b2(w:WD)(a c:Nat):WD:=(w.alloc<|wc a).alloc<|wc c
def xG{A:Nat->Acc}(aj v:Nat)(w:WD)(h:Accs ab n A sb w)(hn:n<1000000000000)(hz:Zr w):cP 206 #[.map<|some ab,wv aj,wv v] w λe w'=>e=AG/\(∃X,(∀b,X=.map (some b)->fZ ab A sb b)/\Accs ab (n+1) (fQ A aj {A aj with ai:=v}) (fQ sb aj X) w')/\Kb [ab] w w':=by
 have U:Below _ w (b2 w aj v):=ai (ai (dO _ w) _) _;let⟨f,Y,D⟩:=h.map;let⟨X,Q,I,R,J⟩:=h.bL aj D;have E:=(Y.kb (Kb.h (S:=[]) U) K2).aQ kT kE aj;rw[Q]at E;have V:Hd (∀x,Kb [] w x->Calls _ 81 #[.map _,wv _,iu v (A _).ae X] x _):=λx G=>BT {A _ with ai:=v} X x ((h.x _).kb G K2 K2) (I.kb G K2<|DO _) R hn<|hz.kb G K2;have HE:=cV J;obtain⟨o,rfl⟩:=I.is;generalize(A aj).ai=bl at*;generalize(A aj).ae=cd at*;go_enter func206,ntmps206;go_wp2_with fail
 have C:Kb [] w ((b2 w aj v).alloc<|Obj.cells #[lu v 0,lu v 1,lu v 2,lu v 3,.string cd,.map o] 95):=(((Kb.refl [] w).alloc _).alloc _).alloc _;refine(V _ C).mono ?_;rintro e H⟨rfl,O,L⟩;have P:Hd ((∃X,(∀b,X=.map (some b)->fZ ab A sb b)/\Accs ab _ (fQ A _ {A _ with ai:=v}) (fQ sb _ X) H)/\Kb [ab] w H):=⟨⟨_,HE,O⟩,(C.mono K2).trans L K2⟩
 go_wp2;go_end0;exact⟨W,P⟩
variable {A:Nat->Acc}{x:WD}{bl:Nat}
def lE(s:Vq)(k v:Nat):Vq:=λm=>if m%M=k%M then v else s m
def zO(s:Vq)(k v:Nat)(C:v%M≠0)(m:Nat):gh (lE s k v) m=if m%M=k%M then some (wv v)else gh s m:=by unfold gh lE;grind
def Ab(s:Vq)(k v:Nat)(C:v%M=0)(m:Nat):gh (lE s k v) m=if m%M=k%M then none else gh s m:=by unfold gh lE;grind
abbrev b3(w:WD)(a c d:Nat):WD:=((w.alloc<|wc a).alloc<|wc c).alloc<|wc d
abbrev b4(w:WD)(a c d bl:Nat)(cd:BA)(o:Yt):WD:=(b3 w a c d).alloc<|.cells #[lu bl 0,lu bl 1,lu bl 2,lu bl 3,.string cd,.map o] 95
def xY(w:WD)(a c d:Nat):bW w (b3 w a c d):=ai (ai (ai (dO _ w) _) _) _
def vq{H:Vq}(h:Accs ab n A sb w)(hn:n<900000000000)(hz:Zr w)(O:Kb S w x)(ha:AM x b (n+1)<|gh H)(I:∀k∈S,k=b)(G:b≠ab)(J:0≠b)(E:∀m,m%M≠aj%M->¬(A m).no->sb m≠.map (some b)):cP 81 #[.map<|some ab,wv aj,iu (A aj).ai (A aj).ae<|.map<|some b] x λe w'=>e=AG/\Accs ab (n+2) (fQ A aj {A aj with ar:=H}) (fQ sb aj<|.map<|some b) w'/\Kb [ab] x w':=by exact BT _ _ x (((h.x _).kb O (λD=>G (I _ D).symm)<|λm k D C e O=>E m D C K9).mono<|ZN n) (A4 ⟨b,W,G,ha⟩) (λm k D C e L=>E m D C<|e.trans L.symm) wq<|hz.kb O<|λD=>J<|I _ D
def ND(w:WD):(binOp .eql 93 (.map none)<|.map none).run prog w=.ok (.bool true) w:=N0
def Qw(b:Nat)(w:WD):(binOp .eql 93 (.map<|some b)<|.map none).run prog w=.ok (.bool false) w:=N0
def sI{o:Yt}(E:Kb S (b4 w a c d bl cd o) x)(D:w.heap.size∉S)(C:w.heap.size+1+1+1∉S):
  (x.cell? ⟨w.heap.size,0,none⟩=some (lu a 0)/\x.cell? ⟨w.heap.size,1,none⟩=some (lu a 1)/\x.cell? ⟨w.heap.size,2,none⟩=some (lu a 2)/\x.cell? ⟨w.heap.size,3,none⟩=some (lu a 3))/\
  (x.cell? ⟨w.heap.size+1+1+1,0,none⟩=some (lu bl 0)/\x.cell? ⟨w.heap.size+1+1+1,1,none⟩=some (lu bl 1)/\x.cell? ⟨w.heap.size+1+1+1,2,none⟩=some (lu bl 2)/\x.cell? ⟨w.heap.size+1+1+1,3,none⟩=some (lu bl 3)/\x.cell? ⟨w.heap.size+1+1+1,4,none⟩=some (.string cd)/\x.cell? ⟨w.heap.size+1+1+1,5,none⟩=some (.map o)):=by
 have G:∀i,x.cell? _=(b4 w a c d bl cd o).cell? ⟨w.heap.size,i,none⟩:=λi=>Xc<|E.block _ N3 D
 have H:∀i,x.cell? ⟨_,i,none⟩=(b4 w a c d bl cd o).cell? _:=λi=>Xc<|E.block _ K2 C
 simp only[G,H];simp[go_sem]
abbrev II(w:WD):Nat:=w.heap.size+1+1+1+1
abbrev b5(w:WD)(a c d bl:Nat)(cd:BA):WD:=(b4 w a c d bl cd<|some<|II w).alloc<|.map #[] 0
def T8(w:WD)(a c d bl:Nat)(cd:BA):AM (b5 w a c d bl cd) (II w) 0 (λ_=>none):=by have h:=AM.bS<|b4 w a c d bl cd<|some<|II w;simp_all
def Wz(S:Tl)(w:WD)(a c d bl:Nat)(cd:BA):Kb S w (b5 w a c d bl cd):=(((((Kb.refl S w).alloc _).alloc _).alloc _).alloc _).alloc _
def PO{s:Vq}(h:∀k,s k%M=0)(m:Nat):gh s m=none:=At<|h m
def Accs.bA(h:Accs ab n A sb w)(C:¬(A m).no)(e:sb m=.map (some b)):b<w.heap.size:=h.lt<|A4 ⟨m,C,e⟩
def Eb(v:Nat)(w:WD)(h:Accs ab n A sb w)(hn:n<900000000000)(hz:Zr w){f:Nat->Option VL}(l:AM w ab n f)(o:(f aj).getD Ib=iu (A aj).ai (A aj).ae (.map none))(X:∀k,(A aj).ar k%M=0):cP 207 #[.map<|some ab,wv aj,wv N,wv v] w λe w'=>e=AG/\Accs ab (n+2) (fQ A aj {A aj with ar:=lE (A aj).ar N v}) (fQ sb aj<|.map<|some<|II w) w'/\Kb [ab] w w':=by
 have G:=(l.kb (Kb.h (S:=[])<|xY w aj N v) K2).aQ kT kE aj;rw[o]at G;have Y:Hd (∀x,Kb [II w] (b5 w aj N v (A aj).ai (A aj).ae) x->AM x (II w) (n+1) (gh<|lE (A aj).ar N v)->cP 81 #[.map<|some ab,wv aj,iu (A aj).ai (A aj).ae<|.map<|some<|II w] x λe w'=>e=AG/\Accs ab (n+2) (fQ A aj {A aj with ar:=lE (A aj).ar N v}) (fQ sb aj<|.map<|some<|II w) w'/\Kb [ab] x w'):=by intro x l p;have U:=h.lt<|LZ W;exact vq h hn hz ((Wz [] w _ _ v _ _).trans l<|λi q=>A4 K9) p K2 K9 K2 (λm s E e=>by have:=h.bA E e;grind)
 have Z:Hd _:=λm=>PO X m;generalize l:fQ A aj {A aj with ar:=lE (A aj).ar N v}=Uq9 at*;generalize(A aj).ai=bl at*;generalize(A aj).ae=cd at*;generalize(A aj).ar=sl at*;let⟨⟨l,K,T,z3⟩,_⟩:=hz.below<|ai (dO _ w)<|wc aj;have V:=@run_makeMap prog;have R:=ND;have D:=pJ v;have L:=cV<|T8 w aj N v bl cd;have H:=cV<|Wz [ab] w aj N v bl cd;by_cases I:v%M=0;case' pos=>rw[xd I]at D
 case' neg=>rw[CS I]at D
 all_goals
  have P:=cV I;go_enter func207,ntmps207;go_wp2_with(first|((first|(at_delete;refine kW rfl 93 rfl oq (II w) 0 _ rfl L rfl ?_)|(at_mapUpdate;refine gH rfl 93 rfl oq (II w) 0 _ rfl L (by unfold maxLen;show 0<_;omega:Hd<|0<maxLen).aa _ (wv v) rfl rfl ?_));intro J O u;have C:Hd (AM J _ (n+1) (gh<|lE sl N v)/\Kb _ (b5 w _ _ v bl cd) J):=⟨(O.mono wq).congr<|λm=>Eq.trans (by first|exact Ab sl N v P m|exact zO sl N v P m)<|by rw[Z.aa m],jx u⟩;obtain⟨⟨l,c1,c2,c3⟩,l,F,d2,z,l,t⟩:=sI (((Kb.refl [] _).alloc _).mono K2 |>.trans C.2 (λi q=>LZ q)) K9 K2;clear O u)|fail);refine(Y _ C.2 C.1).mono ?_;rintro e Q⟨rfl,y,g⟩;have j:Hd (Accs ab _ Uq9 _ Q/\Kb _ w Q):=⟨y,(H.trans C.2<|λi q=>K9).trans g K2⟩
  go_wp2;go_end0;exact⟨W,j⟩
def Nq(S:Tl)(w:WD)(a c d bl:Nat)(cd:BA)(o:Yt):Kb S w (b4 w a c d bl cd o):=((((Kb.refl S w).alloc _).alloc _).alloc _).alloc _
def Fm(v:Nat)(w:WD)(h:Accs ab n A sb w)(hn:n<900000000000)(hz:Zr w){f:Nat->Option VL}(q:AM w ab n f)(p:(f aj).getD Ib=iu (A aj).ai (A aj).ae (.map<|some b))(l:AM w b n<|gh (A aj).ar)(G:b≠ab)(H:∀m,m%M≠aj%M->¬(A m).no->sb m≠.map (some b))(I:0≠b):cP 207 #[.map<|some ab,wv aj,wv N,wv v] w λe w'=>e=AG/\Accs ab (n+2) (fQ A aj {A aj with ar:=lE (A aj).ar N v}) (fQ sb aj<|.map<|some b) w'/\Kb [ab,b] w w':=by
 have J:=(q.kb (Kb.h (S:=[])<|xY w aj N v) K2).aQ kT kE aj;rw[p]at J;have Z:Hd (∀x,Kb [b] (b4 w aj N v (A aj).ai (A aj).ae<|some b) x->AM x b (n+1) (gh<|lE (A aj).ar N v)->cP 81 #[.map<|some ab,wv aj,iu (A aj).ai (A aj).ae<|.map<|some b] x λe w'=>e=AG/\Accs ab (n+2) (fQ A aj {A aj with ar:=lE (A aj).ar N v}) (fQ sb aj<|.map<|some b) w'/\Kb [ab] x w'):=by intro x q y;exact vq h hn hz ((Nq _ w _ _ v _ _ _).trans q<|λi q=>LZ q) y K2 G I H
 have Q:=cV<|l.kb (Nq [] w aj N v (A aj).ai (A aj).ae<|some b) K2;generalize u:fQ A aj {A aj with ar:=lE (A aj).ar N v}=Uq9 at*;have X:=l.lt;generalize(A aj).ai=bl at*;generalize(A aj).ae=cd at*;generalize(A aj).ar=sl at*;let⟨⟨l,F,K,z3⟩,_⟩:=hz.below<|ai (dO _ w)<|wc aj;have Y:=Qw b;have E:=pJ v;have L:=cV<|Nq [ab,b] w aj N v bl cd<|some b;have o:Hd (n<maxLen):=by unfold maxLen;show n<_;omega
 have D:Hd (w.heap.size∉[b]/\w.heap.size+1+1+1∉[b]):=⟨K9,K9⟩
 by_cases O:v%M=0;case' pos=>rw[xd O]at E
 case' neg=>rw[CS O]at E
 all_goals
  have U:=cV O;go_enter func207,ntmps207;go_wp2_with(first|((first|(at_delete;refine kW rfl 93 rfl oq b n _ rfl Q rfl ?_)|(at_mapUpdate;refine gH rfl 93 rfl oq b n _ rfl Q o _ (wv v) rfl rfl ?_));intro P R u;have C:Hd (AM P b (n+1) (gh<|lE sl N v)/\Kb _ (b4 w _ _ v bl cd _) P):=⟨(R.mono wq).congr (λm=>by first|exact Ab sl N v U m|exact zO sl N v U m),jx u⟩;obtain⟨⟨l,c1,c2,c3⟩,k,l,d2,T,s,t⟩:=sI C.2 D.1 D.2;clear R u)|fail);refine(Z _ C.2 C.1).mono ?_;rintro e V⟨rfl,z,g⟩;have j:Hd (Accs ab _ Uq9 _ V/\Kb _ w V):=⟨z,(L.trans C.2<|λi q=>LZ K9).trans g<|λi q=>LZ K9⟩
  go_wp2;go_end0;exact⟨W,j⟩
def zr_no(hz:Zr w){f:Nat->Option VL}(h:AM w b n f):0≠b:=λe=>by subst e;let⟨D,cl,C⟩:=h.is;let⟨⟨E,_⟩,_⟩:=hz;simp[World.cell?,C]at E
def DL(aj:Nat)(v:Nat)(w:WD)(h:Accs ab n A sb w)(hn:n<900000000000)(hz:Zr w):cP 207 #[.map<|some ab,wv aj,wv N,wv v] w λe C=>e=AG/\(∃X,(∀b,X=.map (some b)->fZ ab A sb b\/w.heap.size<=b)/\Accs ab (n+2) (fQ A aj {A aj with ar:=lE (A aj).ar N v}) (fQ sb aj X) C)/\∃S,Kb S w C/\∀k∈S,fZ ab A sb k:=by
 let⟨f,Z,H⟩:=h.map;let⟨X,J,Q,R,L⟩:=h.bL aj H;rcases Q with⟨rfl,V⟩|⟨b,rfl,U,Y⟩
 .refine(Eb v w h hn hz Z J V).mono ?_;rintro e C⟨G,E,I⟩;exact⟨G,⟨_,λb e=>A4 K9,E⟩,_,I,λk V=>LZ K9⟩
 refine(Fm v w h hn hz Z J Y U (λm P D e=>R m b P D e W)<|zr_no hz Y).mono ?_;rintro e C⟨G,E,I⟩;refine⟨G,⟨_,λO e=>LZ<|L O e,E⟩,_,I,λk V=>?_⟩;simp at V;rcases V with rfl|rfl
 .exact LZ W
 grind
end
section
variable {tv:Tn}{v:VL}
structure Chg where
 kind:Nat
 aj:Nat
 key:Nat
 bA:Nat
structure LogE where
 aj:Nat
 aM:Tl
 data:BA
structure TS where
 aw:Nat->Acc
 aP:Nat->Vq
 ch:List Chg
 ay:List LogE
structure TV where
 ab:Nat
 pb:Nat
 n:Nat
 sb:Vp
 cv:VL
 lv:VL
 tv:Tn
abbrev xI(kind a N:Nat):Ys:=#[.int .i64 (kind:Int),.int .u64<|cX a 0,.int .u64<|cX a 1,.int .u64<|cX a 2,.int .u64<|cX a 3,.int .u64<|cX N 0,.int .u64<|cX N 1,.int .u64<|cX N 2,.int .u64<|cX N 3]
abbrev gS(kind a N:Nat):VL:=.agg<|xI kind a N
def ME(c:Chg):Tn:=[.int .i64 (c.kind:Int),lu c.aj 0,lu c.aj 1,lu c.aj 2,lu c.aj 3,lu c.key 0,lu c.key 1,lu c.key 2,lu c.key 3,lu c.bA 0,lu c.bA 1,lu c.bA 2,lu c.bA 3]
def EA(l:List Chg):Tn:=l.flatMap ME
def wI(l:LogE)(t:VL):Tn:=[lu l.aj 0,lu l.aj 1,lu l.aj 2,lu l.aj 3,t,.string l.data]
def qM:List LogE->Tn->Tn
 |l::r,t::s=>wI l t++qM r s
 |_,_=>[]
def Low(w:WD)(O:Nat)(lv:VL)(tv:Tn)(L:List LogE):=tv.length=L.length/\w.ownsRow O 112 6 lv L.length (qM L tv)/\∀(i:Nat) l t,L[i]?=some l->tv[i]?=some t->Wds w O t l.aM
abbrev Dj(tv:Tn):=tv.Pairwise λt t'=>∀k,t.ownBlock=some k->t'.ownBlock≠some k
def Lo(w:WD)(O:Nat)(lv:VL)(tv:Tn)(L:List LogE):=tv.length=L.length/\w.ownsRow O 112 6 lv L.length (qM L tv)/\(∀(i:Nat) l t,L[i]?=some l->tv[i]?=some t->Wds w O t l.aM)/\Dj tv
def Lo.kb{L:List LogE}(h:Lo w O lv tv L)(G:Kb S w w')(E:∀k,lv.ownBlock=some k->k∉S)(D:∀t∈tv,∀k,t.ownBlock=some k->k∉S):Lo w' O lv tv L:=⟨h.1,G.aD h.2.1 E,λi l t H C=>G.aD (h.2.2.1 i l t H C)<|D t<|Xe C,h.2.2.2⟩
def zh(V:TV)(i:Nat):VL:=if i=0 then .map (some V.ab)else if i=1 then .map (some V.pb)else if i=2 then V.cv else V.lv
def PM(w:WD)(pb n:Nat)(p:Nat->Vq):=∃g,MapV prog 217 w pb n g/\∀a k,(g<|gS 2 a k).getD (wv 0)=wv (p a k)
def PM.kb{p:Nat->Vq}(h:PM w pb n p)(G:Kb S w w')(E:pb∉S):PM w' pb n p:=by let⟨g,C,D⟩:=h;exact⟨g,C.block<|G.block pb C.lt E,D⟩
def PM.lt{p:Nat->Vq}(h:PM w pb n p):pb<w.heap.size:=by let⟨g,C,D⟩:=h;exact C.lt
def PM.is{p:Nat->Vq}(h:PM w pb n p):∃D cl,w.heap[pb]?=some (.map D cl):=by let⟨g,C,E⟩:=h;exact C.is
def PM.mono{p:Nat->Vq}(h:PM w pb n p)(hn:n<=m):PM w pb m p:=by let⟨g,D,C⟩:=h;exact⟨g,D.mono hn,C⟩
structure Tr(O U:Nat)(T:TS)(V:TV)(w:WD):Prop where
 row:w.rowIs U 131 4 (zh V)
 aw:Accs V.ab V.n T.aw V.sb w
 aP:PM w V.pb V.n T.aP
 ch:w.ownsRow O 220 13 V.cv T.ch.length (EA T.ch)
 lo:Lo w O V.lv V.tv T.ay
 zr:Zr w
 hb:O<=w.heap.size
 aA:0<O
 pn:¬fZ V.ab T.aw V.sb V.pb
def bi(U:Nat)(T:TS)(V:TV)(k:Nat):=k=U\/fZ V.ab T.aw V.sb k\/k=V.pb\/V.cv.ownBlock=some k\/V.lv.ownBlock=some k\/∃t∈V.tv,t.ownBlock=some k
def Tr.kb{T:TS}{V:TV}(h:Tr O U T V w)(H:Kb S w w')(D:∀k∈S,¬bi U T V k)(G:0∉S):Tr O U T V w':=
 ⟨H.row h.row<|λC=>D _ C<|LZ W,h.aw.kb H<|λk C I=>D k C<|A4<|LZ I,h.aP.kb H<|λC=>D _ C<|A4<|A4<|LZ W,
  H.aD h.ch (λk e C=>D k C<|A4<|A4<|A4<|LZ e),h.lo.kb H (λk e C=>D k C<|A4<|A4<|A4<|A4<|LZ e)<|λt E k e C=>D k C<|A4<|A4<|A4<|A4<|A4 ⟨t,E,e⟩,
  h.zr.kb H G,By h.hb H.size,h.aA,h.pn⟩
def Tr.below{T:TS}{V:TV}(h:Tr O U T V w)(C:bW w w'):Tr O U T V w':=h.kb (Kb.h (S:=[]) C) K2 K2
def xX(T:TS)(kind a N:Nat):Nat:=if kind=0 then(T.aw a).ai else if kind=1 then(T.aw a).ar N else T.aP a N
def Kj(s:Vq)(k:Nat):(gh s k).getD (.agg #[iU 0,iU 0,iU 0,iU 0])=wv (s k):=by
 unfold gh;by_cases h:s k%M=0
 .rw[At h,iL<|show s k%M=0%M from h];rfl
 grind
def zK{s:Vq}(h:SlotsOk w n ab s v)(k:Nat):(Instr.lookup 93 v (wv k) false).run prog w=.ok (wv<|s k) w:=by
 rcases h with⟨rfl,C⟩|⟨b,rfl,_,D⟩
 .obtain⟨l,hl⟩:=rI k;have:=Maps.look_nil false wd_keyed oq (xu w) hl;rw[iL<|show s k%M=0%M from C k];unfold wv;grind[dK]
 rw[D.aQ oq xu k,Kj]
def NW(b:Nat)(c:BA)(o:Yt)(w:WD):(Instr.field 95 (iu b c<|.map o) 0).run prog w=.ok (wv b) w:=N0
def acc_f1(b:Nat)(c:BA)(o:Yt)(w:WD):(Instr.field 95 (iu b c<|.map o) 1).run prog w=.ok (.string c) w:=N0
def acc_f2(b:Nat)(c:BA)(o:Yt)(w:WD):(Instr.field 95 (iu b c<|.map o) 2).run prog w=.ok (.map o) w:=N0
abbrev g2(w:WD)(kind a N:Nat):WD:=((w.alloc<|.cells (xI kind a N) 217).alloc<|.cells #[.int .u64 0,.int .u64 0,.int .u64 0,.int .u64 0] 24).drew
def xe(w:WD)(kind a N:Nat):bW w (g2 w kind a N):=(ai (ai (dO _ w) _) _).drew
def zL{T:TS}{V:TV}(a N:Nat)(w:WD)(h:Tr O U T V w):cP 202 #[pt U,gS 0 a N] w (rT (wv (T.aw a).ai) w):=by have C:=h.below<|xe w 0 a N;let⟨f,P,D⟩:=C.aw.map;let⟨X,G,H,L,J⟩:=C.aw.bL a D;have E:=P.aQ kT kE a;rw[G]at E;have P:=rc C.row 0;rw[show zh V 0=.map _ from W]at P;obtain⟨o,rfl⟩:=H.is;generalize(T.aw a).ai=bl at*;generalize(T.aw a).ae=cd at*;have I:=NW bl cd o;go_enter func202,ntmps202;go_wp2;go_region;go_wp2;refine sp (by simp[results,results202,go_sem]) W ⟨W,(ai (ai (dO _ w) _) _).drew⟩
def vJ{T:TS}{V:TV}(a N:Nat)(w:WD)(h:Tr O U T V w):cP 202 #[pt U,gS 1 a N] w (rT (wv<|(T.aw a).ar N) w):=by have C:=h.below<|xe w 1 a N;let⟨f,Q,D⟩:=C.aw.map;let⟨X,I,G,P,L⟩:=C.aw.bL a D;have E:=Q.aQ kT kE a;rw[I]at E;have Q:=rc C.row 0;rw[show zh V 0=.map _ from W]at Q;obtain⟨o,rfl⟩:=G.is;have H:=zK G N;generalize(T.aw a).ar N=r at*;generalize(T.aw a).ai=bl at*;generalize(T.aw a).ae=cd at*;have J:=acc_f2 bl cd o;go_enter func202,ntmps202;go_wp2;go_region;go_wp2;refine sp (by simp[results,results202,go_sem]) W ⟨W,(ai (ai (dO _ w) _) _).drew⟩
end
section
variable {A:Nat->Acc}{v:VL}{T T1:TS}{V:TV}{x:WD}
def jK(T:TS)(kind a N v:Nat):TS:=if kind=0 then{T with aw:=fQ T.aw a {T.aw a with ai:=v}}else if kind=1 then{T with aw:=fQ T.aw a {T.aw a with ar:=lE (T.aw a).ar N v}}else{T with aP:=λb k=>if b%M=a%M/\k%M=N%M then v else T.aP b k}
def Accs.isMap(h:Accs ab n A sb w)(G:fZ ab A sb k):∃E cl,w.heap[k]?=some (.map E cl):=by
 rcases G with rfl|⟨m,D,C⟩
 .obtain⟨f,D,_⟩:=h.map;exact D.is
 rcases h.aK m D with⟨e,_⟩|⟨b,e,_,G⟩
 .grind
 rw[e]at C;injection C with C;injection C with C;subst C;exact G.is
def iD(D:w.ownsRow O e size v n xs)(H:∃C cl,w.heap[k]?=some (.map C cl)):v.ownBlock≠some k:=λh=>by
 let⟨C,cl,G⟩:=H;rcases D.2 with⟨H,_⟩|⟨g,E,I,H,_,I,_⟩
 .rw[H]at h;cases h
 grind[Value.ownBlock]
def gx{T:Nat}(H:w.rowIs b T Nq9 f)(G:∃C cl,w.heap[k]?=some (.map C cl)):b≠k:=λe=>by subst e;let⟨C,cl,E⟩:=G;let⟨c,D,_⟩:=H;grind
def qA(hz:Zr w)(E:∃C cl,w.heap[k]?=some (.map C cl)):0≠k:=λe=>by subst e;let⟨C,cl,D⟩:=E;let⟨⟨E,_⟩,_⟩:=hz;simp[World.cell?,D]at E
def Lo.tv{tv:Tn}{L:List LogE}(h:Lo w O lv tv L){t:VL}(C:t∈tv):∃l,Wds w O t l:=by let⟨i,D,e⟩:=XU C;exact⟨_,h.2.2.1 i _ t (iN (by rw[<-h.1];exact D:i<L.length)) K9⟩
def TTo(O U:Nat)(T:TS)(V:TV)(T':TS)(m:Nat)(w w':WD):=∃V' S,Tr O U T' V' w'/\V'.n<=V.n+m/\Kb S w w'/\(∀k∈S,bi U T V k)/\(∀k,bi U T' V' k->bi U T V k\/w.heap.size<=k)/\V'.ab=V.ab
def Tr.to(h:Tr O U T V w)(C:bW w w'):TTo O U T V T 0 w w':=⟨V,[],h.below C,DO _,Kb.h C,K2,λk C=>LZ C,W⟩
def TTo.pre(L:bW w x)(h:TTo O U T V T1 m x w1):TTo O U T V T1 m w w1:=by let⟨G,S,H,D,J,E,I,C⟩:=h;refine⟨G,S,H,D,(Kb.h L).trans J<|λi P=>LZ P,E,λk P=>(I k P).imp id<|λh=>By L.size h,C⟩
def TTo.below(h:TTo O U T V T1 m w x)(L:bW x w1):TTo O U T V T1 m w w1:=by let⟨G,S,H,D,J,E,I,C⟩:=h;exact⟨G,S,H.below L,D,J.below L,E,I,C⟩
def Tr.cx{E:Acc}(h:Tr O U T V w)(Q:Kb S w w')(C:∀k∈S,fZ V.ab T.aw V.sb k)(hn:V.n<=n')(J:∀b,X=.map (some b)->fZ V.ab T.aw V.sb b\/w.heap.size<=b)(hA:Accs V.ab n' (fQ T.aw a E) (fQ V.sb a X) w'):Tr O U {T with aw:=fQ T.aw a E} {V with n:=n',sb:=fQ V.sb a X} w'/\∀k,bi U {T with aw:=fQ T.aw a E} {V with n:=n',sb:=fQ V.sb a X} k->bi U T V k\/w.heap.size<=k:=by
 have I:∀k,fZ V.ab (fQ T.aw a E) (fQ V.sb a X) k->fZ V.ab T.aw V.sb k\/w.heap.size<=k:=by
  intro k Q;rcases Q with rfl|⟨m,H,G⟩
  .exact LZ (LZ W)
  by_cases e:m%M=a%M
  .grind[jC]
  rw[iV e]at H G;exact LZ<|A4 ⟨m,H,G⟩
 have D:∀k∈S,∃P cl,w.heap[k]?=some _:=λk Q=>h.aw.isMap<|C k Q;refine⟨⟨Q.row h.row<|λe=>gx h.row (D _ e) W,hA,(h.aP.kb Q<|λe=>h.pn<|C _ e).mono hn,Q.aD h.ch<|λk e C=>iD h.ch (D k C) e,h.lo.kb Q (λk e C=>iD h.lo.2.1 (D k C) e) (λt L k e C=>by let⟨l,Y⟩:=h.lo.tv L;exact iD Y (D k C) e),h.zr.kb Q<|λe=>qA h.zr (D _ e) W,By h.hb Q.size,h.aA,λe=>?_⟩,λk Q=>?_⟩
 .rcases I _ e with e|e
  .exact h.pn e
  have:=h.aP.lt;grind
 rcases Q with e|e|e
 .exact LZ (LZ e)
 .rcases I _ e with e|e
  .exact LZ (A4<|LZ e)
  omega
 exact LZ<|A4<|A4 e
def AFQ(a v:Nat)(h:Tr O U T V w)(hn:V.n<900000000000):cP 206 #[.map<|some V.ab,wv a,wv v] w λe w'=>e=AG/\TTo O U T V (jK T 0 a 0 v) 2 w w':=by refine(xG a v w h.aw wq h.zr).mono ?_;rintro e w'⟨G,⟨X,E,I⟩,C⟩;let⟨H,D⟩:=h.cx C (λk J=>LZ<|by simpa using J) (ZN _) (λb e=>LZ<|E b e) I;exact⟨G,_,_,H,K2,C,λk J=>A4<|LZ<|LZ K9,D,W⟩
def KJ(a N v:Nat)(h:Tr O U T V w)(hn:V.n<900000000000):cP 207 #[.map<|some V.ab,wv a,wv N,wv v] w λe w'=>e=AG/\TTo O U T V (jK T 1 a N v) 2 w w':=by refine(DL a v w h.aw hn h.zr).mono ?_;rintro e w'⟨H,⟨X,G,J⟩,S,C,D⟩;let⟨I,E⟩:=h.cx C D (X7 _ 2) G J;exact⟨H,_,S,I,K2,C,λk L=>A4<|LZ<|D k L,E,W⟩
abbrev p2(w:WD)(kind a N v:Nat):WD:=((w.alloc<|.cells (xI kind a N) 217).alloc<|wc v).drew
def nP(w:WD)(kind a N v:Nat):bW w (p2 w kind a N v):=(ai (ai (dO _ w) _) _).drew
theorem xR(a N v:Nat)(w:WD)(h:Tr O U T V w)(hn:V.n<900000000000):cP 159 #[pt U,gS 0 a N,wv v] w λe w'=>e=AG/\TTo O U T V (jK T 0 a N v) 2 w w':=by
 have D:=h.below<|nP w 0 a N v;have H:=cV<|AFQ a v D hn;have G:=cV<|nP w 0 a N v;have J:=rc D.row 0;rw[show zh V 0=.map _ from W]at J;have I:Hd (jK T 0 a N v=jK T 0 a 0 v):=rfl;go_enter func159,ntmps159;go_wp2
 go_region_with (refine H.mono ?_;rintro e w1⟨rfl,C⟩)
 all_goals(
  have E:Hd (TTo O U T V (jK T 0 a N v) 2 w w1):=by rw[I.aa];exact C.pre G
  go_wp2;go_end0;exact⟨W,E⟩)
theorem sW(a N v:Nat)(w:WD)(h:Tr O U T V w)(hn:V.n<900000000000):cP 159 #[pt U,gS 1 a N,wv v] w λe w'=>e=AG/\TTo O U T V (jK T 1 a N v) 2 w w':=by
 have D:=h.below<|nP w 1 a N v;have H:=cV<|KJ a N v D hn;have G:=cV<|nP w 1 a N v;have I:=rc D.row 0;rw[show zh V 0=.map _ from W]at I;go_enter func159,ntmps159;go_wp2
 go_region_with (refine H.mono ?_;rintro e w1⟨rfl,C⟩)
 all_goals(
  have E:Hd (TTo O U T V (jK T 1 a N v) 2 w w1):=C.pre G;go_wp2;go_end0;exact⟨W,E⟩)
def Jo:pz 202:=λ_ _=>N0
def Ua:(prog.info? 220).map (λi=>(i.zero,i.size,i.bytes))=some (some<|.agg #[iI 0,iU 0,iU 0,iU 0,iU 0,iU 0,iU 0,iU 0,iU 0,iU 0,iU 0,iU 0,iU 0],13,104):=N0
def ty_ch:prog.underlying 129=some (.slice 220):=N0
def iZ(T:TS)(kind a N v:Nat):TS:=jK {T with ch:=T.ch++[⟨kind,a,N,xX T kind a N⟩]} kind a N v
def O1(l:List Chg)(c:Chg):EA (l++[c])=EA l++ME c:=by simp[EA]
def trC_cv(V:TV)(v':VL):(λi=>if i=2 then v' else zh V i)=zh {V with cv:=v'}:=by grind[zh]
def GB:(220:Nat)≠112:=K3
def tCh_Wd:(220:Nat)≠24:=K3
def xH:(131:Nat)≠220:=K3
def yO:(131:Nat)≠112:=K3
def BR:(131:Nat)≠24:=K3
def Tr.cG{c':List Chg}(h:Tr O U T V w)(E:Up V.cv.ownBlock.toList U 2 v' w w')(J:w'.ownsRow O 220 13 v' c'.length<|EA c')(d:Fresh w V.cv v')(P:∀k,V.cv.ownBlock=some k->O<=k):Tr O U {T with ch:=c'} {V with cv:=v'} w'/\TTo O U T V {T with ch:=c'} 0 w w':=by
 have L:∀k∈U::V.cv.ownBlock.toList,k=U\/V.cv.ownBlock=some k:=λk Z=>K9
 have I:∀k,(∃Y cl,w.heap[k]?=some _)->k∉U::V.cv.ownBlock.toList:=λk C Z=>by
  rcases L k Z with e|e
  .exact gx h.row C e.symm
  exact iD h.ch C e
 have D:∀{e size n v xs b},w.ownsRow b e size v n xs->131≠e->220≠e->∀k,v.ownBlock=some k->k∉U::V.cv.ownBlock.toList:=λJ G Q k Z C=>by
  rcases L k C with e|e
  .exact dS h.row J G k Z e
  rcases yb h.ch J Q with H|H
  .grind
  grind
 have R:0∉U::V.cv.ownBlock.toList:=λC=>by
  rcases L 0 C with e|e
  .have G:=rc h.row 0;rw[<-e]at G;rw[h.zr.1.1]at G;cases G
  have:=P 0 e;have:=h.aA;omega
 have c:Tr O U {T with ch:=c'} {V with cv:=v'} w':=by refine⟨?_,h.aw.kb E.kb<|λk Z C=>I k (h.aw.isMap C) Z,h.aP.kb E.kb<|I _ h.aP.is,J,h.lo.kb E.kb (D h.lo.2.1 yO GB) (λt X=>by let⟨l,f⟩:=h.lo.tv X;exact D f BR tCh_Wd),h.zr.kb E.kb R,By h.hb E.kb.size,h.aA,h.pn⟩;rw[<-trC_cv];exact E.row h.row
 refine⟨c,_,_,c,DO _,E.kb,λk Z=>?_,λk Z=>?_,W⟩
 .rcases L k Z with e|e
  .exact LZ e
  exact A4<|A4<|A4<|LZ e
 rcases Z with e|e|e|e|e
 .exact LZ (LZ e)
 .exact LZ (A4<|LZ e)
 .exact LZ (A4<|A4<|LZ e)
 .rcases d with H|H
  .exact LZ (A4<|A4<|A4<|LZ<|H▸e)
  exact A4<|H k e
 exact LZ<|A4<|A4<|A4<|A4 e
def OI{v:Nat}(E:Kb S (p2 w kind a N v) x)(D:w.heap.size∉S)(C:w.heap.size+1∉S):
  (x.cell? ⟨w.heap.size,0,none⟩=some (.int .i64 (kind:Int))/\x.cell? ⟨w.heap.size,1,none⟩=some (lu a 0)/\x.cell? ⟨w.heap.size,2,none⟩=some (lu a 1)/\x.cell? ⟨w.heap.size,3,none⟩=some (lu a 2)/\x.cell? ⟨w.heap.size,4,none⟩=some (lu a 3)/\
   x.cell? ⟨w.heap.size,5,none⟩=some (lu N 0)/\x.cell? ⟨w.heap.size,6,none⟩=some (lu N 1)/\x.cell? ⟨w.heap.size,7,none⟩=some (lu N 2)/\x.cell? ⟨w.heap.size,8,none⟩=some (lu N 3))/\
  (x.cell? ⟨w.heap.size+1,0,none⟩=some (lu v 0)/\x.cell? ⟨w.heap.size+1,1,none⟩=some (lu v 1)/\x.cell? ⟨w.heap.size+1,2,none⟩=some (lu v 2)/\x.cell? ⟨w.heap.size+1,3,none⟩=some (lu v 3)):=by
 have G:∀i,x.cell? _=(p2 w _ a _ v).cell? ⟨w.heap.size,i,none⟩:=λi=>Xc<|E.block _ N3 D
 have H:∀i,x.cell? ⟨_,i,none⟩=(p2 w _ a _ v).cell? _:=λi=>Xc<|E.block _ K2 C
 simp only[G,H];simp[go_sem]
def NC(h:i<4):i=0\/i=1\/i=2\/i=3:=wq
theorem ltq3(h:i<3):i=0\/i=1\/i=2:=wq
theorem nD(a:Addr)(j:Nat):(a.add j).block=a.block:=by grind[Addr.add]
def Lv{E:Vr}(he:tG s t<|.agg #[iI (kind:Int),lu aj 0,lu aj 1,lu aj 2,lu aj 3,lu N 0,lu N 1,lu N 2,lu N 3,lu r 0,lu r 1,lu r 2,lu r 3])(D:K (Wb s d<|sL x.heap.size 1 1)<|x.alloc<|.cells #[iI (kind:Int),lu aj 0,lu aj 1,lu aj 2,lu aj 3,lu N 0,lu N 1,lu N 2,lu N 3,lu r 0,lu r 1,lu r 2,lu r 3] 220):Oper.wp prog ⟨some d,.buildSlice 129 1 #[(0,.tmp t)],E,pos,af,gd⟩ s x K Q:=by
 have C:s.tmps[t]?.getD undef=.agg #[iI kind,lu aj 0,lu aj 1,lu aj 2,lu aj 3,lu N 0,lu N 1,lu N 2,lu N 3,lu r 0,lu r 1,lu r 2,lu r 3]:=Q1
 go_simp;exact D
def Fe{u:VL}{H:Vr}(E:tG s t1<|pq b off)(D:tG s t2<|.slice ad n c)(G:cL x b off u)(I:x.frozen? ⟨b,off,none⟩=false)(C:K (s.put none undef)<|x.setCell ⟨b,off,none⟩<|.slice ad n c):Oper.wp prog ⟨none,.store 129 (.tmp t1)<|.tmp t2,H,pos,af,gd⟩ s x K Q:=by go_simp;exact C
def mq{P:Program}{l t:Vr}(O:Nat)(e:Vr)(i:TypeInfo)(z:VL)(size bytes:Nat)(A:P.underlying t=some (.slice e))(hi:P.info? e=some i)(hz:i.zero=some z)(D:i.size=size)(Z:i.bytes=bytes)(p:z.cells.size=size)(Y:0<size)(v:VL)(n:Nat)(f:Tn)(a:tG s t1 v)(J:x.ownsRow O e size v n f)(ad:Addr)(m c:Nat)(news:Tn)(F:tG s t2<|.slice (some ad) m c)(q:news.length=m*size)(H:∀j u,news[j]?=some u->x.cell? (ad.add j)=some u)(S:∀u∈news,u.oneCell'=true)(X:n+m<=maxLen)(C:(n+m)*bytes<=140737488355328)(G:O<=x.heap.size)(h:∀R L,L.ownsRow O e size R (n+m) (f++news)->x.grownBy L v.ownBlock->Fresh x v R->K (Wb s d R) L):Oper.wp P ⟨some d,.call ⟨.builtin .append,#[.tmp t1,.tmp t2],#[t,t]⟩,l,pos,af,none⟩ s x K Q:=by have y:=iJ (I:=#[]) (o:=⟨some d,.call _,l,pos,af,none⟩) (Q:=Q) (E:=True) W (.tmp t1) (.tmp t2) t W _ e i z _ _ A hi hz D Z p Y v n f a J ad m c _ F q H S X C G h;rwa[At<|dr W]at y
def CellAt(x:WD)(cb kind aj N:Nat):=x.cell? ⟨cb,0,none⟩=some (.int .i64 (kind:Int))/\x.cell? ⟨cb,1,none⟩=some (lu aj 0)/\x.cell? ⟨cb,2,none⟩=some (lu aj 1)/\x.cell? ⟨cb,3,none⟩=some (lu aj 2)/\x.cell? ⟨cb,4,none⟩=some (lu aj 3)/\
   x.cell? ⟨cb,5,none⟩=some (lu N 0)/\x.cell? ⟨cb,6,none⟩=some (lu N 1)/\x.cell? ⟨cb,7,none⟩=some (lu N 2)/\x.cell? ⟨cb,8,none⟩=some (lu N 3)
def mZ{x:WD}(h:x.cell? ⟨b,o,none⟩=some v):b<x.heap.size:=by
 cases e:x.heap[b]? with
 |none=>simp[World.cell?,e]at h
 |some C=>exact(WY.1 e).1
def CellAt.below{x:WD}{cb:Nat}(h:CellAt w cb kind aj N)(L:bW w x):CellAt x cb kind aj N:=by let⟨C,X,Y,I,D,J,E,G,H⟩:=h;have P:=mZ C;have e:∀i,x.cell? ⟨cb,i,none⟩=w.cell? _:=λi=>L.cell P;exact⟨(e 0).trans C,(e 1).trans X,(e 2).trans Y,(e 3).trans I,(e 4).trans D,(e 5).trans J,(e 6).trans E,(e 7).trans G,(e 8).trans H⟩
def PhS(O U:Nat)(V:TV)(c':List Chg)(w:WD):Nat->X4
 |0,x=>bW w x
 |1,x=>bW w x
 |2,x=>bW w x
 |3,x=>Kb V.cv.ownBlock.toList w x
 |_,x=>∃v',x.ownsRow O 220 13 v' c'.length (EA c')/\Fresh w V.cv v'/\Up V.cv.ownBlock.toList U 2 v' w x
def Cx{c':List Chg}{x:WD}(h:PhS O U V c' w k x)(C:k<=2):bW w x:=by
 match k,C,h with
 |0,_,h=>exact h
 |1,_,h=>exact h
 |2,_,h=>exact h
def RelS(U:Nat)(V:TV):Nat->WD->X4
 |0,x,x'=>bW x x'
 |1,x,x'=>bW x x'
 |2,x,x'=>True
 |_,x,x'=>Kb [U] x x'
def OneL(c:Chg):Kp:=λp v x=>∃q,v=.slice (some ⟨q,0,none⟩) 1 1/\(p<=2->q<x.heap.size/\∀(j:Nat) u,(ME c)[j]?=some u->x.cell? ((⟨q,0,none⟩:Addr).add j)=some u)
def NewL(O:Nat)(V:TV)(c':List Chg)(w:WD):Kp:=λ_ v x=>x.ownsRow O 220 13 v c'.length (EA c')/\Fresh w V.cv v
def I8(h:Tr O U T V w):U∉V.cv.ownBlock.toList:=λC=>dS h.row h.ch xH U K9 W
def set_r1{cb:Nat}{Q:Y6}{a:Act}(h:Tr O U T V w)(hl:T.ch.length<1000000000)(X:∀x,bW w x->cP 202 #[pt U,.agg #[iI (kind:Int),lu aj 0,lu aj 1,lu aj 2,lu aj 3,lu N 0,lu N 1,lu N 2,lu N 3]] x (rT (wv r) x))(Y:CellAt w cb kind aj N)(h0:bW w w.drew)(A:([6,7,8,9,10,11,12,13,14,15,16,17,18,19]:Tl).all (λd=>decide (d<a.tmps.size))=true)(c0:tG a 0<|pt U)(c4:tG a 4<|pt cb)(S:∀(x:WD)(R:VL)(m:VL),(PhS O U V (T.ch++[⟨kind,aj,N,r⟩]) w) 4 x->(OneL ⟨kind,aj,N,r⟩) 4 R x->(NewL O V (T.ch++[⟨kind,aj,N,r⟩]) w) 4 m x->Q .normal (dQ a [(6,pt U),(7,pt U),(8,pt U),(9,pq U 2),(10,V.cv),(11,.agg #[iI (kind:Int),lu aj 0,lu aj 1,lu aj 2,lu aj 3,lu N 0,lu N 1,lu N 2,lu N 3]),(12,pt U),(13,.agg #[iI (kind:Int),lu aj 0,lu aj 1,lu aj 2,lu aj 3,lu N 0,lu N 1,lu N 2,lu N 3]),(14,wv r),(15,.agg #[iI (kind:Int),lu aj 0,lu aj 1,lu aj 2,lu aj 3,lu N 0,lu N 1,lu N 2,lu N 3,lu r 0,lu r 1,lu r 2,lu r 3]),(16,R),(17,m),(18,pt U),(19,pq U 2)]) x):(ym f154 1).wp prog Q a w:=by
 refine nZ (PhS O U V (T.ch++[⟨kind,aj,N,r⟩]) w) (RelS U V) [(0,pt U),(4,pt cb)] [(some 6,.v<|pt U),(some 7,.v<|pt U),(some 8,.v<|pt U),(some 9,.v<|pq U 2),(some 10,.v<|V.cv),(some 11,.v<|.agg #[iI (kind:Int),lu aj 0,lu aj 1,lu aj 2,lu aj 3,lu N 0,lu N 1,lu N 2,lu N 3]),(some 12,.v<|pt U),(some 13,.v<|.agg #[iI (kind:Int),lu aj 0,lu aj 1,lu aj 2,lu aj 3,lu N 0,lu N 1,lu N 2,lu N 3]),(some 14,.v<|wv r),(some 15,.v<|.agg #[iI (kind:Int),lu aj 0,lu aj 1,lu aj 2,lu aj 3,lu N 0,lu N 1,lu N 2,lu N 3,lu r 0,lu r 1,lu r 2,lu r 3]),(some 16,.l<|OneL ⟨kind,aj,N,r⟩),(some 17,.l<|NewL O V (T.ch++[⟨kind,aj,N,r⟩]) w),(some 18,.v<|pt U),(some 19,.v<|pq U 2),(none,.v undef)] [8,10,11,14] [4,5,7] (ha:=⟨N0,A,(eR c0<|eR c4 rfl),N0⟩) h0
  ⟨(λC hv G=>by refine eK Jo (xa (hv rfl)<|hv rfl) (X _ C) ?_;rintro e y⟨rfl,J⟩;have C:Below _ w _:=C;exact⟨_,rfl,G _ y (C.trans<|J.mono C.size) J nn1 rfl⟩
  ),(@λs x E hl K C hv G=>by have C:Below _ w x:=C;have J:Below _ x (x.alloc<|.cells #[iI kind,lu aj 0,lu aj 1,lu aj 2,lu aj 3,lu N 0,lu N 1,lu N 2,lu N 3,lu r 0,lu r 1,lu r 2,lu r 3] 220):=ai (dO _ x) _;have hL:=fJ x #[iI kind,lu aj 0,lu aj 1,lu aj 2,lu aj 3,lu N 0,lu N 1,lu N 2,lu N 3,lu r 0,lu r 1,lu r 2,lu r 3] 220;exact Lv (hv rfl) (G _ _ (C.trans<|J.mono C.size) J nn1 ⟨_,rfl,λ_=>⟨K2,hL⟩⟩)
  ),(@λs x E hl K C hv G=>by
   have z:=(hl 16 _ rfl)
   let⟨q,e16,hq⟩:=z;let⟨hq1,hq2⟩:=hq wq;have C:Below _ w x:=C;let⟨i0,hi0,W,hz1,hz2⟩:=YI Ua;refine mq _ _ i0 _ 13 _ ty_ch hi0 W hz1 hz2 rfl K3 _ _ _ (hv rfl) (dh h.ch C) _ 1 1 _ e16 rfl hq2 (by intro u hu;simp[ME]at hu;rcases hu with rfl|rfl|rfl|rfl|rfl|rfl|rfl|rfl|rfl|rfl|rfl|rfl|rfl<;>rfl) (by unfold maxLen;omega) wq (By h.hb C.size) ?_;intro v' y P hg hf;have ho2:y.ownsRow O 220 13 v' (T.ch++[(⟨kind,aj,N,r⟩:Chg)]).length (EA<|T.ch++[(⟨kind,aj,N,r⟩)]):=by rwa[O1,Xm]
   exact G v' y ((Kb.h C).grown hg<|λk hk=>LZ (by rw[hk];simp)) AF nn1 ⟨ho2,hf.imp id<|λh k hk=>By C.size<|h k hk⟩
  ),(@λs x E hl K C hv G=>by
   have h17:=(hl 17 _ rfl)
   let⟨P,hf⟩:=h17;generalize e17:s.tmps.getD 17 undef=v17 at P hf;have C:Kb _ w x:=C;have hr:=C.row h.row<|I8 h;have H:=dS hr P xH;obtain⟨ad,cp,rfl⟩:=dt P;exact Fe (hv rfl) e17 (rc hr _) (hr.frozen 2) (G _ _ ⟨_,fC P H 2 _,hf,Up.bM _ C (I8 h) h.row.lt⟩ ((Kb.refl _ x).setCell AI _) (λ_=>rfl) rfl)
  ),AF⟩
  ⟨(λD C hv G=>by have k2:=rc (h.below<|Cx C (by have:=D 2 11;omega)).row 2;rw[show zh V 2=V.cv from rfl]at k2;exact dm (hv rfl) k2 (kq G)
  ),(@λk s x hk L E hl K D C hv G=>by let⟨q0,q1,q2,q3,q4,q5,q6,q7,q8⟩:=Y.below (Cx C (by have:=D 1 10;omega));have e4:=@hv 4 _ rfl;clear hv hl L D E;go_simp;exact(kq G)
  ),(@λk s x hk L E hl K D C hv G=>by let⟨q0,q1,q2,q3,q4,q5,q6,q7,q8⟩:=Y.below (Cx C (by have:=D 0 8;omega));have e4:=@hv 4 _ rfl;clear hv hl L D E;go_simp;exact(kq G)
  ),AF⟩
  (Ej<|aIn (λp v x x' H Z C hrel I=>by
   let⟨q,e,hq⟩:=I;have f:p≠1:=λe2=>H (by rw[e2];rfl);refine⟨q,e,λhp3=>?_⟩;cases(wq:p=0)
   let⟨h1,h2⟩:=hq wq;have J:Below _ x x':=hrel;exact⟨Xg h1 J.size,λj u hj=>(J.cell (by rw[nD];exact h1)).trans<|h2 j u hj⟩)
  (aIn (λp v x x' H Z C hrel I=>by
   have f:p≠2:=λe2=>H (by rw[e2];rfl);rcases NC Z with rfl|rfl|rfl|rfl
   .exact⟨dh I.1 hrel,I.2⟩
   .exact⟨dh I.1 hrel,I.2⟩
   .exact absurd rfl f
   have hk:Kb _ w x:=C;have hr:=hk.row h.row<|I8 h;exact⟨Kb.aD hrel I.1<|λk F=>by simpa using dS hr I.1 xH k F,I.2⟩)
  trivial)) ?_
 intro g x C hT;exact S x _ _ C (hT 10 _ _ rfl)<|hT 11 _ _ rfl
variable {T2:TS}{V1:TV}
def TTo.comp(L:V1.n<=V.n+m)(C:Kb S w w1)(P:∀k∈S,bi U T V k)(Q:∀k,bi U T1 V1 k->bi U T V k\/w.heap.size<=k)(E:V1.ab=V.ab)(k:TTo O U T1 V1 T2 m' w1 w2):TTo O U T V T2 (m+m') w w2:=by
 let⟨H,S2,D,J,G,k4,I,k6⟩:=k;refine⟨H,S++S2.filter (λk=>decide (k<w.heap.size)),D,wq,(C.mono<|λi X=>Xw _ X).trans G<|λi X=>?_,λi X=>?_,λi X=>?_,k6.trans E⟩
 .grind
 .grind
 rcases I i X with e|e
 .grind
 exact A4<|By C.size e
def Kb.cT(h:Kb S w x):Kb S w.drew x:=⟨h.os,h.tape,h.output,h.size,h.block⟩
def FD(kind aj N v:Nat)(w:WD)(h:Tr O U T V w)(l:r=xX T kind aj N)(b:T.ch.length<1000000000)(D:∀x,Tr O U T V x->cP 202 #[pt U,gS kind aj N] x (rT (wv r) x))(E:∀Q J x,Tr O U Q J x->J.n<=V.n->cP 159 #[pt U,gS kind aj N,wv v] x λe w'=>e=AG/\TTo O U Q J (jK Q kind aj N v) 2 x w'):cP 154 #[pt U,gS kind aj N,wv v] w λe w'=>e=AG/\TTo O U T V (iZ T kind aj N v) 2 w w':=by
 go_enter func154,ntmps154;go_wp2;have X:Below _ w ((w.alloc<|.cells (xI kind aj N) 217).alloc<|wc v):=ai (ai (dO _ w) _) _;have H:=h.below X;have I:CellAt ((w.alloc<|.cells (xI kind aj N) 217).alloc<|wc v) w.heap.size kind aj N:=by unfold CellAt;simp[go_sem]
 refine set_r1 H b (λx A=>D x<|H.below A) I (dO _ _).drew W W W ?_;rintro x d K⟨s,o,c,R⟩ - -;have C:∀k,V.cv.ownBlock=some k->O<=k/\k<w.heap.size:=λk b=>h.ch.lt k b;let⟨q,G⟩:=H.cG R o c<|λk b=>(C k b).1;obtain⟨⟨k0,t,b,b,k4,b,k6,i,k8⟩,b,b,b,b⟩:=OI R.kb.cT (λP=>by
  rcases IF.1 P with e|e
  .have:=h.row.lt;omega
  .have:=(C _<|by simpa using e).2;omega) (λP=>by
  rcases IF.1 P with e|e
  .have:=h.row.lt;omega
  have:=(C _<|by simpa using e).2;omega)
 let⟨V1,S1,Z,F,f,j,Y,g⟩:=G;have b:=cV<|E _ V1 x Z wq;have p:Hd (∀y,TTo O U {T with ch:=T.ch++[⟨kind,aj,N,r⟩]} V1 (jK {T with ch:=T.ch++[⟨kind,aj,N,r⟩]} kind aj N v) 2 x y->TTo O U T V (iZ T kind aj N v) 2 w y):=by intro y L;unfold iZ;rw[<-l];exact TTo.pre X<|TTo.comp F f j Y g L
 simp only[n8];simp;go_wp2_with fail
 refine b.mono ?_;rintro e y⟨rfl,L⟩;have z:=cV<|p y L;go_wp2;go_end0;exact⟨W,z⟩
def Lb(aj N v:Nat)(w:WD)(h:Tr O U T V w)(H:T.ch.length<1000000000)(hn:V.n<900000000000):cP 154 #[pt U,gS 0 aj N,wv v] w λe w'=>e=AG/\TTo O U T V (iZ T 0 aj N v) 2 w w':=FD 0 aj N v w h W H (λx C=>zL aj N x C)<|λG D x C E=>xR aj N v x C wq
def DK(v:Nat)(w:WD)(h:Tr O U T V w)(H:T.ch.length<1000000000)(hn:V.n<900000000000):cP 154 #[pt U,gS 1 aj N,wv v] w λe w'=>e=AG/\TTo O U T V (iZ T 1 aj N v) 2 w w':=FD 1 aj N v w h W H (λx C=>vJ aj N x C)<|λG D x C E=>sW aj N v x C wq
abbrev zc:Obj:=.cells #[.int .u64 0,.int .u64 0,.int .u64 0,.int .u64 0] 24
def yJ(w:WD):eI (w.alloc zc) w.heap.size 0:=de _ W W W W W
def nh(X:Nat)(w:WD)(h:Tr O U T V w):cP 156 #[pt U,wv X] w (rT (wv (T.aw X).ai) w):=by
 have H:Below _ w ((w.alloc<|wc X).alloc zc):=ai (ai (dO _ w) _) _;have D:=cV<|zL X 0 _<|h.below H;have G:=cV H;have I:Hd (eI ((w.alloc<|wc X).alloc zc) (w.heap.size+1) 0):=by have:=yJ<|w.alloc<|wc X;simp_all
 generalize(T.aw X).ai=bl at*;unfold gS xI at D;simp only[dK]at D;go_enter func156,ntmps156;go_wp2_with fail
 refine D.mono ?_;rintro e J⟨rfl,X⟩;have C:=cY I X;have E:Hd _:=G.aa.trans<|X.mono G.size;let⟨⟨x0,R,Q,L⟩,P⟩:=Fa C;go_wp2;refine gY (di C<|cX bl) ⟨W,bd E wq⟩
abbrev r3(w:WD)(a b:Nat):WD:=((w.alloc<|wc a).alloc<|wc b).alloc zc
def QK(w:WD)(a b:Nat):bW w (r3 w a b):=ai (ai (ai (dO _ w) _) _) _
def yW(J:Nat)(I:J<=255)(w:WD)(hz:Zr w):cP 155 #[iB (J:Int),wv a,wv b] w (rT (wv<|ep J (a%M) (b%M) 0) w):=by
 have D:=cV<|tR J I a b 0<|r3 w a b;have G:=cV<|QK w a b;have L:Hd (eI (r3 w a b) (w.heap.size+1+1) 0):=by have:=yJ<|(w.alloc<|wc a).alloc<|wc b;rw[show((w.alloc _).alloc _).heap.size=w.heap.size+1+1 by simp]at this;exact this
 let⟨⟨c,X,R,z3⟩,_⟩:=hz.below<|ai (dO _ w)<|wc a;unfold wv at D;simp only[dK]at D;rw[show 0%M=0 from W]at D;generalize ny J=c at*;generalize ep J (a%M) (b%M) 0=c at*;go_enter func155,ntmps155;go_wp2_with fail
 refine D.mono ?_;rintro e H⟨r,d,rfl,c⟩;have E:Hd _:=G.aa.trans<|c.mono G.size;have C:=cY (cY L c)<|ai (dO _ H)<|wc r;let⟨⟨x0,Z,Y,P⟩,Q⟩:=Fa C;go_wp2;refine gY (di C<|cX r) ⟨by rw[d.aa],bd (ai E _) wq⟩
variable {bl:Nat}
def yR:pz 156:=λ_ _=>N0
def yH:pz 155:=λ_ _=>N0
def xW:pz 154:=λ_ _=>N0
def PhM(R:X4)(w:WD):Nat->X4
 |0,x=>bW w x
 |1,x=>bW w x
 |2,x=>bW w x
 |_,x=>R x
def qH{R:X4}(h:PhM R w k x)(C:k<=2):bW w x:=by
 match k,C,h with
 |0,_,h=>exact h
 |1,_,h=>exact h
 |2,_,h=>exact h
abbrev gM{d:Nat}(_:0<=d):Nat:=d
def mv(hn:(r=1/\o=3/\q=6/\d=0)\/(r=2/\o=1/\q=7/\d=9)){v j m:Nat}{R:X4}{a:Act}(u:eI w j amt)(h:eI w m fr)(X:∀x,bW w x->cP 156 #[pt U,wv fr] x λe H=>e=.returned (wv bl)/\bW x H)(P:∀x,bW w x->cP 155 #[iB (o:Int),wv bl,wv amt] x λe H=>e=.returned (wv v)/\bW x H)(L:∀x,bW w x->cP 154 #[pt U,.agg #[iI 0,lu fr 0,lu fr 1,lu fr 2,lu fr 3,iU 0,iU 0,iU 0,iU 0],wv v] x λe H=>e=AG/\R H)(p:bW w w.drew)(Y:([8+d,9+d,10+d,11+d,12+d,13+d,14+d,15+d,16+d]:Tl).all (λd=>decide (d<a.tmps.size))=true)(c:tG a 0<|pt U)(c5:tG a 5<|pt j)(c6:tG a q<|pt m)(Z:∀(x:WD),(PhM R w) 3 x->Q .normal (dQ a [(8+d,pt U),(9+d,wv fr),(10+d,.agg #[iI 0,lu fr 0,lu fr 1,lu fr 2,lu fr 3,iU 0,iU 0,iU 0,iU 0]),(11+d,pt U),(12+d,wv fr),(13+d,wv bl),(14+d,wv amt),(15+d,wv v),(16+d,Value.tuple #[])]) x):(ym f94 r).wp prog Q a w:=by
 have b:0<=d:=In _;have l:0<=q:=In _;rcases hn with⟨rfl,rfl,rfl,rfl⟩|⟨rfl,rfl,rfl,rfl⟩;all_goals
  refine nZ (PhM R w) (λ_ _ _=>True) [(0,.pointer _),(5,.pointer _),(gM l,.pointer _)] [(some<|8+gM b,.v _),(some<|9+gM b,.v _),(some<|10+gM b,.v _),(some<|11+gM b,.v _),(some<|12+gM b,.v _),(some<|13+gM b,.v _),(some<|14+gM b,.v _),(some<|15+gM b,.v _),(some<|16+gM b,.v _)] [5,7,8] [1,4,6] (ha:=⟨N0,Y,(eR c<|eR c5<|eR c6 W),N0⟩) p
   ⟨(λC D E=>by refine eK yR (xa (D W)<|D W) (X _ C) ?_;rintro e y⟨rfl,f⟩;have C:Below _ w _:=C;exact⟨_,W,E _ y (C.trans<|f.mono C.size) AF nn1 W⟩
   ),(λC D E=>by refine eK yH (PE W (D W)<|D W) (P _ C) ?_;rintro e y⟨rfl,f⟩;have C:Below _ w _:=C;exact⟨_,W,E _ y (C.trans<|f.mono C.size) AF nn1 W⟩
   ),(λC D E=>by refine eK xW (PE (D W) (D W)<|D W) (L _ C) ?_;rintro e y⟨rfl,z⟩;exact⟨_,W,E _ y z AF nn1 W⟩
   ),AF⟩
   ⟨(λG C D E=>by let⟨O,I,V,J⟩:=cW (cY h<|qH C (by have:=G 2 8;omega));exact dD (D W) O I V J (kq E)
   ),(λG C D E=>by let⟨O,I,V,J⟩:=cW (cY h<|qH C (by have:=G 0 5;omega));exact dD (D W) O I V J (kq E)
   ),(λG C D E=>by let⟨O,I,V,J⟩:=cW (cY u<|qH C (by have:=G 1 7;omega));exact dD (D W) O I V J (kq E)
   ),AF⟩
   (nl W) ?_
  intro g x C b;exact Z x C
def Tr.lt(h:Tr O U T V w)(D:bi U T V k):k<w.heap.size:=by
 rcases D with e|e|e|e|e|⟨t,C,e⟩
 .rw[e];exact h.row.lt
 .exact h.aw.lt e
 .rw[e];exact h.aP.lt
 .exact(h.ch.lt k e).2
 .exact(h.lo.2.1.lt k e).2
 let⟨l,D⟩:=h.lo.tv C;exact(D.lt k e).2
def nN(T:TS)(amt fr:Nat):TS:=iZ T 0 fr 0<|ep 3 ((T.aw fr).ai%M) (amt%M) 0
def moveB(T:TS)(amt Z:Nat):TS:=iZ T 0 Z 0<|ep 1 ((T.aw Z).ai%M) (amt%M) 0
def fU(T:TS)(amt fr Z:Nat):TS:=moveB (nN T amt fr) amt Z
def yf(C:Nat){v:Nat}(w:WD)(h:Tr O U T V w)(D:T.ch.length<1000000000)(hn:V.n<900000000000):cP 154 #[pt U,.agg #[iI 0,lu C 0,lu C 1,lu C 2,lu C 3,iU 0,iU 0,iU 0,iU 0],wv v] w λe w'=>e=AG/\TTo O U T V (iZ T 0 C 0 v) 2 w w':=by have E:=Lb C 0 v w h D hn;unfold gS xI at E;grind[dK]
def Um{v:Nat}:(iZ T kind a N v).ch.length=T.ch.length+1:=by grind[iZ,jK]
def Nt(amt fr Z:Nat)(h:Tr O U T V w)(b:T.ch.length<999999990)(hn:V.n<899999999990):cP 94 #[pt U,wv amt,wv fr,wv Z] w λe w'=>e=AG/\TTo O U T V (fU T amt fr Z) 4 w w':=by
 go_enter func94,ntmps94;go_wp2;have Y:=xY w amt fr Z;have H:=h.below Y;have b:eI (b3 w _ fr Z) _ amt:=cY (cY (jf w _)<|ai (dO _ _) _)<|ai (dO _ _) _;have g:eI (b3 w amt fr Z) (w.heap.size+1) fr:=by have:=cY (jf (w.alloc<|wc amt) fr)<|ai (dO _ _)<|wc Z;simp_all
 have rt:eI (b3 w amt fr Z) (w.heap.size+1+1) Z:=by have:=jf ((w.alloc<|wc amt).alloc<|wc fr) Z;simp_all
 refine mv (LZ ⟨W,W,W,W⟩) (R:=λx=>TTo O U T V (nN T amt fr) 2 (b3 w amt fr Z) x) b g (λx E=>nh fr x<|H.below E) (λx E=>yW 3 wq x (H.below E).zr) ?_ (dO _ _).drew W W W W ?_
 .intro x E;exact(yf fr x (H.below E) wq wq).mono λe w'⟨Q,X⟩=>⟨Q,TTo.pre E X⟩
 intro x L;obtain⟨m,S1,I,j,J,P,d,f⟩:TTo _ U T V _ 2 _ x:=L;have C:∀k,w.heap.size<=k->k∉S1:=λk c p=>by have:=h.lt<|P k p;omega
 have G:eI x _ Z:=J.row rt<|C _ wq;have z:(nN T amt fr).ch.length=T.ch.length+1:=Um;simp only[n8];simp;go_wp2;refine mv (A4 ⟨W,W,W,W⟩) (R:=λy=>TTo O U (nN T amt fr) m (fU T amt fr Z) 2 x y) (J.row b<|C _<|DO _) G (λy D=>nh Z y<|I.below D) (λy D=>yW 1 wq y (I.below D).zr) ?_ (dO _ _).drew W W W W ?_
 .intro y D;exact(yf Z y (I.below D) wq wq).mono λe w'⟨Q,X⟩=>⟨Q,TTo.pre D X⟩
 intro y L;have o:Hd (TTo _ U T V _ 4 w y):=TTo.pre Y<|TTo.comp j J P d f L;clear L I j J P d f C G b g rt Y H h;simp only[n8];simp;go_wp2;go_end0;exact⟨W,o⟩
end
section
variable {F F' F2:Fz}{Fk:Nat->Fz}{x:WD}
abbrev Ek:=VL ⊕ Kn
abbrev Ek.v(c:VL):Ek:=.inl c
abbrev Ek.l(T:Kn):Ek:=.inr T
def Ek.kn:Ek->Kn
 |.inl c=>np c
 |.inr T=>T
abbrev NB:=List<|Yt×Ek
def Fr.uni{O H:Nat}{S:Tl}{X C:VL}(h:Fr O H F S X C w)(E:Fr O H F' S' sv' mv' w):S'=S/\sv'=X/\mv'=C:=by have G:X=sv':=hV<|(rc h.row 19).symm.trans<|rc E.row 19;have J:C=mv':=hV<|(rc h.row 20).symm.trans<|rc E.row 20;subst G J;exact⟨E.aH.trans h.aH.symm,W,W⟩
section
variable (O H:Nat) (Fk:Nat->Fz)
def kpF(T:Kn):Kp:=λp v x=>∀S X C,Fr O H (Fk p) S X C x->T (p,C) S v x
def Ek.en:Ek->En
 |.inl c=>.inl c
 |.inr T=>.inr<|kpF O H Fk T
def OK(es:NB):Es:=es.map λp=>(p.1,p.2.en O H Fk)
def SK(T:Kp):=(∀p v x x' S X C S' sv' mv',Fr O H (Fk p) S X C x->Fr O H (Fk<|p+1) S' sv' mv' x'->Kb S x x'->(∀k∈S',k∈S\/x.heap.size<=k)->T p v x->T (p+1) v x')/\∀p v x x' S X C,Fr O H (Fk p) S X C x->bW x x'->T p v x->T p v x'
end
def elK(I:Vm)(es:NB)(o:Oper)(t:Nat):Option Kn:=match LR I t o.after.toList with
 |some j=>match es[j]? with
  |some (_,.inr T)=>some T
  |_=>none
 |none=>none
def sk{O H:Nat}{Fk:Nat->Fz}{T:Kn}(h:jU T):SK O H Fk (kpF O H Fk T):=
 ⟨λp v x Y S X C S' sv' mv' G E Z V L S2 R J U=>by
  obtain⟨rfl,rfl,rfl⟩:=E.uni U;exact h _ _ _ _ _ _ _ (L _ _ _ G)<|A4 ⟨YS _,Z,V⟩,λp v x Y S X C G E L S2 R J U=>by
  obtain⟨rfl,rfl,rfl⟩:=(G.below E).uni U;exact h _ _ _ _ _ _ _ (L _ _ _ G)<|LZ ⟨W,W,E⟩⟩
theorem AllOb.map{α β:Type}{I:Vm}{es:List<|Yt×α}{f:α->β}{G:Nat->Nat->Oper->Yt->α->Prop}{J:Nat->Nat->Oper->Yt->β->Prop}(h:∀p i o d E,G p i o d E->J p i o d (f E)):∀{l:Tl}{p:Nat},AllOb I es G p l->AllOb I (es.map λq=>(q.1,f q.2)) J p l
 |[],_,_=>trivial
 |_::_,_,h1=>⟨wm λo d E V R=>by rw[Xu]at R;let⟨⟨Z,L⟩,U,Y⟩:=Y1.1 R;cases Y;exact h _ _ o _ L<|AllOb.hd h1 o _ L V U,AllOb.map h h1.2⟩
section
variable (I:Vm) (D:Td) (es:NB) (P:Tl) (O H:Nat) (Fk:Nat->Fz) (S0:Tl) (w0:WD) (df:List Deferred) (Q:Y6)
def LoadF(i:Nat)(o:Oper)(d:Yt)(E:Ek):=
 ∀{s:Act}{x:WD}{k:Nat}{S1:Tl}{sv1 mv1:VL}{_:Kb S0 w0 x}{_:∀p c,P[p]?=some c->qU I 3 c i=true->k<=p}{_:∀t T,elK I es o t=some T->T (k,mv1) S1 (s.tmps.getD t undef) x}{K:K6}(_:Fr O H (Fk k) S1 sv1 mv1 x)
  (_:∀{t c},pg I D (OK O H Fk es) o t=some c->s.tmps.getD t undef=c),(∀v x',bW x x'->(d=none->v=undef)->E.kn (k,mv1) S1 v x'->K (s.put d v) x')->Oper.wp prog o s x K Q
def CallF(p:Nat)(o:Oper)(d:Yt)(E:Ek):=
 ∀(s:Act)(x:WD)(S1:Tl)(sv1 mv1:VL),Fr O H (Fk p) S1 sv1 mv1 x->Kb S0 w0 x->(∀j∈S1,j∈S0\/w0.heap.size<=j)->s.defers=df->
  (∀t c,pg I D (OK O H Fk es) o t=some c->s.tmps.getD t undef=c)->(∀t T,elK I es o t=some T->T (p,mv1) S1 (s.tmps.getD t undef) x)->
  ∀K:K6,(∀v S' sv' mv' x',Fr O H (Fk<|p+1) S' sv' mv' x'->Kb S1 x x'->(∀j∈S',j∈S1\/x.heap.size<=j)->(d=none->v=undef)->E.kn (p+1,mv') S' v x'->K (s.put d v) x')->Oper.wp prog o s x K Q
end
section
variable {es:NB}
def ns{E:Ek}{v:VL}(U:Fr O H (Fk k) S X C x)(h:E.kn (k,C) S v x):(E.en O H Fk).kp k v x:=by
 cases E with
 |inl c=>exact h
 |inr T=>intro S2 L J G;obtain⟨rfl,rfl,rfl⟩:=U.uni G;exact h
def el_k{o:Oper}{s:Act}(E:Fr O H (Fk k) S X C x)(G:∀t T,zz I (OK O H Fk es) o t=some T->T k (s.tmps.getD t undef) x)(t:Nat)(T:Kn)(h:elK I es o t=some T):T (k,C) S (s.tmps.getD t undef) x:=by
 refine G t (kpF O H Fk T) ?_ _ _ _ E;unfold elK at h;unfold zz OK;cases E:LR I t o.after.toList with
 |none=>simp[E]at h
 |some j=>rw[E]at h;simp only[Xu];grind[Ek.en]
def fG{Q:Y6}{id:Nat}{a:Act}(Fk:Nat->Fz)(h:Fr O H (Fk 0) S X C w)(D:Td)(es:NB)(P loads:Tl)(R:Co (λ_=>SK O H Fk) (OK O H Fk es) 0)(Y:AllOb I es (λp _=>CallF I D es O H Fk S w a.defers Q p) 0 P)(V:AllOb I es (λ_=>LoadF I D es P O H Fk S w Q) 0 loads)(z:∀(g:Vp) x S' sv' mv',Fr O H (Fk P.length) S' sv' mv' x->Kb S w x->(∀j∈S',j∈S\/w.heap.size<=j)->(∀(i:Nat)(d:Yt)(T:Kn),es[i]?=some (d,.l T)->T (P.length,mv') S' (g i) x)->Q .normal (dQ a<|se g (OK O H Fk es) 0) x)(ha:Gr I a D (OK O H Fk es) P loads [] []:=by exact⟨N0,R5,R5,N0⟩):(Code.region id I true).wp prog Q a w:=by exact jB _ (λx=>dO _ x) (PhF O H Fk S w) (λp _ x U=>∀S1 J G,Fr O H (Fk p) S1 J G x->∃S' sv' mv',Fr O H (Fk<|p+1) S' sv' mv' U/\Kb S1 x U/\∀j∈S',j∈S1\/x.heap.size<=j) D _ P loads [] K2 K2 (PhF.bn h) PhF.bel (Y.map λp i o d E h1 s x b u K⟨S1,J,G,L,Z,y⟩hv q=>h1 s x S1 J G L Z y b @hv (el_k L u) K λv S' sv' mv' U m A N r f5=>q v U ⟨S',sv',mv',m,Z.trans A y,λj hj=>(N j hj).elim (y j) λe=>A4<|By Z.size e⟩ (λS2 sv2 mv2 f=>by obtain⟨rfl,rfl,rfl⟩:=L.uni f;exact⟨_,_,_,m,A,N⟩) r<|ns m f5) (V.map λ_ i o d E h1 k s x _ _ b u K b⟨S1,J,G,L,Z,y⟩hv q=>@h1 s x k S1 J G Z (λp c r e2=>b p c r e2) (el_k L u) K L hv λv U m A N=>q v U m A<|ns (L.below m) N) (λi d T n p s x U _ _⟨S1,J,G,L,Z,y⟩b t=>by let⟨S',sv',mv',m,A,N⟩:=b _ _ _ L;exact(Ej R i d T n).1 p _ x U _ _ _ _ _ _ L m A N t) (λi d T n p v x U⟨S1,J,G,L,Z,y⟩b t=>(Ej R i d T n).2 p v x U _ _ _ L b t) (λg x⟨S1,J,G,L,Z,y⟩b=>z g x S1 J G L Z y λi d T n=>b i d (kpF O H Fk T) (by simp[OK,n,Ek.en]) _ _ _ L) ha
end
def pM{f O H:Nat}{U:Array Operand}{A:Array Vr}{q:Vr}{α:Type}{r:Option<|α×Fz}{B:α->VL}{S:Tl}{c:VL}(b:pz f)(o:#[]++U.map s.eval++#[]=vs)(z:cP f vs x<|gC r B O H S x)(Y:F2=A1 r)(J:∀a F',r=some (a,F')->B a=c)(G:r=none->∀u l E,Kb S x E->Q (.panic [{v:=.iface u l,recovered:=false}]) s E)(h:∀v S' sv' mv' E,Fr O H F2 S' sv' mv' E->Kb S x E->(∀j∈S',j∈S\/x.heap.size<=j)->(some d=none->v=undef)->(Ek.v c).kn (p,mv') S' v E->K (Wb s d v) E):Oper.wp prog ⟨some d,.call ⟨.value<|.func f,U,A⟩,q,pos,af,gd⟩ s x K Q:=oY b o z (λu l E b q=>G b u l E q) λy F' S2 R L E b Z V m=>h _ S2 R L E (by rw[Y,b];exact Z) V m nn1<|J y F' b
theorem iA(k:Nat):(Builtin.zeroCells #[iB 0] k).toList=(List.replicate k (0:UInt8)).map lJ:=by rw[List.map_replicate,List.eq_replicate_iff];unfold Builtin.zeroCells;refine⟨K2,λb C=>?_⟩;simp at C;obtain⟨x,_,rfl⟩:=C;rw[Nat.mod_one];rfl
theorem kz(k:Nat):(Builtin.zeroCells #[iB 0] k).size=k:=by grind[ZI,iA]
def qO:prog.underlying 3=some (.int .i64):=N0
def kR{P:Program}(w:WD)(t L d e:Vr)(i:TypeInfo){z:VL}(kq:IntKind){kn:IntKind}(R:P.underlying t=some (.slice e))(J:P.underlying L=some (.int kn))(hi:P.info? e=some i)(hz:i.zero=some z)(c:i.size=1)(g:Nat){C D:Nat}{E:Ys}(U:w.heap[g]?=some (.cells E e (0,0)))(Y:E.size=D)(V:∀v∈(Builtin.zeroCells z.cells k).toList,v.oneCell'=true)(I:(Builtin.zeroCells z.cells k).size=k)(Z:0<k)(b:C+k<=D)(Q:k*i.bytes<=281474976710656)(X:k<=9223372036854775807):(Builtin.append_ #[t,L] d #[sL g C D,.int kq (k:Nat)]).run P w=.ok (sL g (C+k) D) (w.setRow g (E.toList.take C++(Builtin.zeroCells z.cells k).toList++E.toList.drop (C+k)).toArray):=by
 have H:¬(281474976710656<(k:Int)*i.bytes):=by rw[<-Int.natCast_mul];omega
 have G:=run_storeCells_at P g C e _ 0 _ w U (by rw[ZI,I];omega) V;rw[ZI,I]at G;simp only[Ye]at G;simp[Builtin.append_,Zm R,Zm J,sizeOf,typeInfo,zeroValue,hi,hz,c,asInt,asIntOf,(show IntKind.i64.wrap k=k by rw[IntKind.wrap_i64];omega),b,(show¬((k:Int)<0) by omega),(show k≠0 by omega),H,Addr.add_lit,G]
def oX(w:WD)(k:Nat)(v:VL)(l:Vf)(P:Bys w O v l)(U:0<k)(V:l.length+k<=100000)(f:O<=w.heap.size)(X:Vr):∃v' L,(Builtin.append_ #[26,3] X #[v,iI (k:Int)]).run prog w=.ok v' L/\Bys L O v' (l++List.replicate k 0)/\w.grownBy L v.ownBlock/\Fresh w v v':=by
 let⟨i,c,d,o,Q⟩:=YI JC;have G:(iB 0).cells=#[.int _ 0]:=rfl;have D:(l++List.replicate k 0).length=l.length+k:=K2
 rcases P.2 with⟨rfl,m⟩|⟨g,E,Y,rfl,b,h,V,Z,V,V⟩
 .obtain rfl:l=[]:=YM.1 m;have C:=Lib.run_append_nil_zeros w 26 3 X 5 i _ .i64 _ tb qO c d k U wq wq K9;rw[G]at C;have I:=grownCap_ge w k 0 5;refine⟨_,_,C,⟨K2,A4 ⟨_,_,_,?_,f,qae _ _,wq,grownCap_le_maxLen w k 0 5<|by grind[maxLen],?_,?_⟩⟩,⟨W,W,W,K2,λj H _=>YH _ _ j H⟩,A4 λk U=>by grind[Value.ownBlock]⟩
  .simp
  .grind[Array.size_append,kz]
  grind[Array.toList_append,iA]
 rw[ZO]at V;have R:l.length=(l.map lJ).length:=K2
 by_cases m:l.length+k<=E
 .have C:=kR w 26 3 X 5 i .i64 tb qO c d o g h (wq:Y.size=E) (by grind[iA,qR]) (by grind[kz]) U m K9 wq;rw[G,iA,V]at C;refine⟨_,_,C,⟨K2,A4 ⟨g,_,_,by rw[D],b,qab w g _ _ _ _ h,wq,Z,?_,?_⟩⟩,⟨W,W,W,K2,λj H J=>setRow_other w g j _<|λe=>J (by rw[e];rfl)⟩,LZ W⟩
  .grind
  grind
 have C:=Lib.run_append_grow_zeros w 26 3 X 5 i _ .i64 _ tb qO c d _ _ E _
  (run_firstCells_some _ _ l.length ⟨g,0,_⟩ _ _ _ K9<|λj u H=>P.cells W j u H) k U wq wq wq K9 (growslice_fits wq K9)
 rw[G]at C;have I:=grownCap_ge w (l.length+k) E 5;refine⟨_,_,C,⟨K2,A4 ⟨_,_,_,by rw[D],f,qae _ _,wq,grownCap_le_maxLen w (l.length+k) E 5<|by grind[maxLen],?_,?_⟩⟩,⟨W,W,W,K2,λj H _=>YH _ _ j H⟩,A4 λk U=>by grind[Value.ownBlock]⟩
 .grind[Array.size_append,kz]
 rw[D,ZO,XP,Array.toList_append,Array.toList_append,iA,iA];grind
variable {S1:Tl}{F1:Fz}{v:VL}
def QU(F:Fz)(X C v':VL)(m:Vf):(λi=>if i=20 then v' else F.cell X C i)=({F with mem:=m}:Fz).cell X v':=by
 funext i;by_cases h:i=20
 .subst h;rfl
 simp only[Fz.cell,iF h]
def Fr.ms(h:Fr O H F S X C w):∀k,X.ownBlock=some k->k∉H::C.ownBlock.toList:=λk J E=>by
 rcases IF.1 E with D|D
 .exact h.fs k J D
 have I:C.ownBlock=some k:=K9
 rcases yb h.st h.me tWB with G|G
 .grind
 grind
def Fr.memory{m:Vf}(h:Fr O H F S X C w)(Q:m.length<=65536)(E:m.length%32=0)(U:Bys w' O v' m)(P:Fresh w C v')(D:Up C.ownBlock.toList H 20 v' w w'):To O H {F with mem:=m} S w w':=by
 refine⟨_,X,v',⟨(QU F X C v' m)▸D.row h.row,D.kb.aD h.st h.ms,U,W,h.aV,Q,h.aN,By h.hb D.kb.size,sA h.zr D.kb (λL=>h.bu (by rw[h.aH];grind)) h.hs,h.aA,h.bg,E,h.jr.kb D.kb<|λg N f Q L=>h.bO g N f Q (by rw[h.aH];grind)⟩,?_,?_⟩
 .rw[h.aH];exact D.kb.mono<|λi Q=>K9
 intro k Q;rw[h.aH];rcases IF.1 Q with G|G
 .grind
 rcases Xr.1 G with I|I
 .grind
 rcases P with J|J
 .grind
 grind
def To.pre(P:Kb S w w1)(Q:∀k∈S1,k∈S\/w.heap.size<=k)(k:To O H F2 S1 w1 w2):To O H F2 S w w2:=by
 let⟨S2,L,I,E,G,J⟩:=k;refine⟨S2,_,_,E,P.trans G Q,λi Q=>?_⟩;rcases J i Q with D|D
 .grind
 exact A4<|By P.size D
def dw(n:Nat):Nat:=(n+31)/32
def jH(needed:Nat)(F:Fz):Option (Unit×Fz):=
 if needed<=dw F.mem.length then some ((),F)else match im (3*(needed-dw F.mem.length)) F with
  |none=>none
  |some (_,F1)=>some ((),{F1 with mem:=F1.mem++List.replicate (32*(needed-dw F.mem.length)) 0})
def wY{u:Unit}(h:im c F=some (u,F1)):F1.mem=F.mem/\F1.st=F.st/\c<=F.ac:=by grind[im]
def Old(C:VL)(m:Vf)(x:WD):=∀g len E,C=.slice (some ⟨g,0,none⟩) len E->g<x.heap.size/\∀i (h:i<m.length),x.cell? ⟨g,i,none⟩=some (lJ m[i])
def Old.of{m m':Vf}(h:Bys w O C<|m++m'):Old C m w:=by
 intro g len E e;subst e;obtain⟨D,G⟩:len=(m++m').length/\True:=by
  rcases h.2 with⟨D,G⟩|⟨I,I,I,D,_⟩
  .cases D
  grind
 subst D;refine⟨(h.lt g W).2,λi I=>?_⟩;rw[XX h i K9,XP,Xv K9,Xu,iN I];rfl
def Old.me(h:Fr O H F S X C w):Old C F.mem w:=Old.of (m':=[]) (by rw[YQ];exact h.me)
def Old.kb{m:Vf}(h:Old C m w)(J:Kb S w x)(I:∀k,C.ownBlock=some k->k∉S):Old C m x:=by intro g len E e;let⟨D,G⟩:=h g _ _ e;exact⟨Xg D J.size,λi L=>(Xc<|J.block g D<|I g (by rw[e];rfl)).trans<|G i L⟩
def Old.below{m:Vf}(h:Old C m w)(D:bW w x):Old C m x:=h.kb (Kb.h (S:=[]) D) K2
def yZ(w w':WD)(v':VL)(l:Vf)(Q:Bys w O v l)(b:0<k)(T:l.length+k<=100000)(V:Vr)(d:(Builtin.append_ #[26,3] V #[v,iI (k:Int)]).run prog w=.ok v' w'):v'.ownBlock=v.ownBlock\/Kb [] w w':=by
 let⟨i,Z,h,A,R⟩:=YI JC;have U:(iB 0).cells=#[.int _ 0]:=rfl;rcases Q.2 with⟨rfl,m⟩|⟨g,E,Y,rfl,y,q,z,o,p,f⟩
 .right;cases(YM.1 m:l=[]);have D:=Lib.run_append_nil_zeros w 26 3 V 5 i _ .i64 _ tb qO Z h k b wq wq K9;rw[d]at D;injection D with P J;subst J;exact⟨W,W,W,K2,λj I _=>YH _ _ j I⟩
 have G:Y.size=E:=wq
 rw[ZO]at f;by_cases L:l.length+k<=E
 .left;have D:=kR w 26 3 V 5 i .i64 tb qO Z h A g q G (by grind[iA,qR]) (by grind[kz]) b L K9 wq;rw[d]at D;injection D with P J;subst P;rfl
 right;have D:=Lib.run_append_grow_zeros w 26 3 V 5 i _ .i64 _ tb qO Z h _ _ E _
  (run_firstCells_some _ _ l.length ⟨g,0,_⟩ _ _ _ K9<|λj u I=>Q.cells W j u I) k b wq wq wq K9 (growslice_fits wq K9)
 rw[d]at D;injection D with P J;subst J;exact⟨W,W,W,K2,λj I _=>YH _ _ j I⟩
def zde(n:Nat)(hn:n<=2048)(w:WD)(h:Fr O H F S X C w):
  Calls prog 293 #[pt H,.int .i64 (n:Int)] w λe w'=>gC (jH n F) dR O H S w e w'/\(jH n F≠none->Old C F.mem w'):=by
 have hml:=h.bv;have o:=cV<|Old.me h;obtain⟨U,E,rfl⟩:=dt h.me;have hc:w.cell? _=some (.slice U _ _):=h.row.cell (i:=20) K3;let⟨q,r⟩:=hJ<|dw F.mem.length;have hqb:q<=2048:=by grind[dw]
 have N:Hd (∀w,Calls _ _ _ w λe w'=>e=.returned (.int _ q)/\w'=w):=λw=>by rw[r];exact mt _ wq w
 unfold jH;rw[<-r];by_cases j:n<=q
 .rw[At j];have d:=dT<|(n:Int)-q<=0;have HT:=cV h.to;clear h r;go_enter func293,ntmps293;go_wp2_with fail
  refine(N.aa _).mono ?_;rintro e w1⟨rfl,rfl⟩;go_wp2
  first|go_end0|refine sp (ZW W _ _ _) W ?_
  exact⟨⟨W,HT.aa⟩,λ_=>o.aa⟩
 .rw[iF j];obtain⟨m,hm⟩:∃m:Nat,n-q=(m:Int):=⟨n-q,wq⟩;have f:n-q=m:=wq
  have hm4:m<=2048:=wq
  have d:=dF<|(m:Int)<=0;rw[f]
  have T:Hd (Calls prog 204 #[pt H,.int .i64<|3*m] w λe w'=>if F.ac<3*m then LL e/\Kb S w w' else e=AG/\Fr O H {F with ac:=F.ac-3*m} S X (.slice U F.mem.length E) w'/\Kb S w w'):=by
   have h9:=Wu (3*m) wq w h;rw[show((3*m:Nat):Int)=3*m by omega]at h9;exact h9
  have HQ:Hd (F.mem.length+32*m<=65536):=by show _<=_;grind[dw]
  have P:im _ F=if F.ac<3*m then none else some _:=rfl
  by_cases K:F.ac<3*m
  .rw[P,At K];simp only[At K]at T;clear h r P;go_enter func293,ntmps293;go_wp2_with fail
   refine(N.aa _).mono ?_;rintro e w1⟨rfl,rfl⟩;go_wp2_with fail
   refine T.aa.mono ?_;rintro e w2⟨⟨u,pv,rfl⟩,l⟩;exact⟨W,⟨⟨_,_,W⟩,l⟩,λh=>absurd W h⟩
  .rw[P,iF K];simp only[iF K]at T;clear h r P;go_enter func293,ntmps293;go_wp2_with fail
   refine(N.aa _).mono ?_;rintro e w1⟨rfl,rfl⟩;go_wp2_with fail
   refine T.aa.mono ?_;rintro e w2⟨rfl,D,p⟩;have hlen:=HQ.aa;let⟨v',w3,I,G,z,L⟩:=oX w2 (32*m) _ F.mem D.me wq wq D.hb 26;have Y:=yZ w2 w3 v' F.mem D.me wq wq 26 I;rw[show((32*m:Nat):Int)=32*m by omega]at I;obtain⟨g',cap',rfl,hg1,hg2,hg3⟩:=fv G K9;have hc2:w2.cell? _=some (.slice U _ _):=D.row.cell (i:=20) K3;have Q:Kb (Value.slice U F.mem.length E).ownBlock.toList w2 w3:=(Kb.refl _ _).grown z<|λk l=>LZ K9;have V:H∉(Value.slice U F.mem.length E).ownBlock.toList:=λhm=>D.fm H K9 W
   have J:=Q.row D.row V;have hc3:w3.cell? _=some (.slice U _ _):=J.cell (i:=20) K3;have hz3:=J.frozen 20
   have Z:Hd (Old (.slice U F.mem.length E) F.mem w3):=by
    rcases Y with e|e
    .intro g len cp e2;injection e2 with e3 e4 e5
     subst e3;cases(by grind[Value.ownBlock]:g'=g)
     exact Old.of G g' _ _ W
    .exact(Old.me D).kb e K2
   have HR3:=cV J;have b:=cV G;have s:=cV L;have a:=cV Q;have R:=cV D;have t:=cV p;have A:=cV I;have y:=cV V;clear J G L Q D p I z V T N f hg1 hg2 hg3 Y;go_wp2_with(at_builtin;refine Lib.wpList_append_run _ W _ _ _ _ W _ _ W W _ _ A.aa ?_)
   go_end0;have e:(F.mem++List.replicate (32*m) 0).length=F.mem.length+32*m:=K2
   have G:=b.aa;have L:=s.aa;rw[e]at G L;refine⟨⟨W,To.pre t.aa (λk l=>LZ l)<|R.aa.memory wq (by rw[e];have:=R.aa.aT;grind) (fC G (dS HR3.aa G tB) _ _) L<|Up.bM _ a.aa y.aa R.aa.row.lt⟩,λ_=>Z.aa.kb ((Kb.refl [H] w3).setCell AI _)<|λk l hm=>y.aa K9⟩
def dC(p n:Nat)(F:Fz):Option ((Nat×Nat)×Fz):=
 if n%M=0 then some ((0,0),F)else if jp p n 65536 then(match jH (dw<|p%M+n%M) F with
  |none=>none
  |some (_,F1)=>some ((p%M,n%M),F1))else none
def rG(x:Nat×Nat):VL:=.tuple #[.int .i64 (x.1:Int),.int .i64 (x.2:Int)]
def mw(h:n%M=0):gN n 0=true:=by grind[gN]
def kV(h:n%M≠0):gN n 0=false:=by grind[gN]
def Uy(p n:Nat)(h:Fr O H F S X C w):cP 288 #[pt H,wv p,wv n] w λe I=>gC (dC p n F) rG O H S w e I/\(dC p n F≠none->Old C F.mem I):=by
 have Q:=cV<|Old.me h;have U:=pJ n;have l:=W2.start w p n;have D:=h.below l.be;obtain⟨z0,z1,z2,z3⟩:_/\_/\_/\_:=⟨D.zr 0 wq,D.zr 1 wq,D.zr 2 wq,D.zr 3 wq⟩
 unfold dC;by_cases L:n%M=0
 .rw[At L];rw[mw L]at U;have a:Hd (To _ H F S w _):=⟨S,X,C,D,Kb.h l.be,λk v=>LZ v⟩
  have z:=cV l.be;clear D l h L;go_enter func288,ntmps288;go_wp2;go_ret2;exact⟨⟨W,a⟩,λ_=>Q.below z⟩
 rw[iF L];rw[kV L]at U;by_cases G:jp p n 65536
 .rw[At G];have V:=Bq p n _ wq G;have Y:=G.2.2;let⟨q,y⟩:=dP<|p%M;let⟨m,o⟩:=dP<|n%M;have J:Hd (∀w,Calls _ _ #[wv p,wv n,.int _ 65536] w λe I=>e=.returned (.tuple #[.int _ q,.int _ m,.bool _])/\Below _ w I):=λw=>(V w).mono λe I⟨q',m',h1,N,h3,h4⟩=>⟨by rw[h3,h1.aa,N.aa,y.aa,o.aa],h4⟩
  rw[<-y.aa,<-o.aa]at Y⊢;have s:=cV h;have g:=cV l;have Z:Hd (∀w,Calls _ _ _ w λe I=>e=.returned (.int _ ((dw _:Nat):Int))/\I=w):=λw=>by have K:=mt (q+m) wq w;rwa[show((q+m:Nat):Int)=q+m by omega]at K
  have f:Hd _:=λd hb=>zde (dw<|q+m) (by grind[dw]) d<|s.below hb;generalize dw (q+m)=t at*;clear D l h L G V y o;cases x:jH t F with
  |none=>
   rw[x]at f;show Calls _ _ _ _ (λe I=>gC none rG O H S w e I/\((none:Option<|(Nat×Nat)×Fz)≠none->Old C F.mem I));go_enter func288,ntmps288;go_wp2_with fail
   refine(J _).mono ?_;rintro e d⟨rfl,c⟩;have E:=cV (g.call c).be;clear c;go_wp2_with fail
   refine(Z _).mono ?_;rintro e w2⟨rfl,rfl⟩;go_wp2_with fail
   refine(f _ E).mono ?_;rintro e b⟨⟨⟨u,pv,rfl⟩,v⟩,_⟩;exact⟨W,⟨⟨_,_,W⟩,(Kb.h E).trans v<|λi hi=>LZ hi⟩,λh=>absurd W h⟩
  |some r=>
   let⟨u,T⟩:=r;rw[x]at f;show Calls _ _ _ _ (λe I=>gC (some ((q,m),T)) rG O H S w e I/\(some ((q,m),T)≠none->Old C F.mem I));go_enter func288,ntmps288;go_wp2_with fail
   refine(J _).mono ?_;rintro e d⟨rfl,c⟩;have E:=cV (g.call c).be;clear c;go_wp2_with fail
   refine(Z _).mono ?_;rintro e w2⟨rfl,rfl⟩;go_wp2_with fail
   refine(f _ E).mono ?_;rintro e b⟨⟨rfl,R⟩,P⟩;have j:=cV<|P K2;have A:=cV<|To.pre (Kb.h E) (λk v=>LZ v) R;clear R P;go_wp2;go_ret2;exact⟨⟨W,A⟩,λ_=>j⟩
 rw[iF G];have J:=cV<|yn p n wq G;have g:=cV l;clear D l h L G;go_enter func288,ntmps288;go_wp2_with fail
 refine(J _).mono ?_;rintro e d⟨rfl,c⟩;have E:=cV (g.call c).be;clear c;go_wp2;exact⟨W,⟨⟨_,_,W⟩,Kb.h E⟩,λh=>absurd W h⟩
end
section
variable {F F1:Fz}
def PartOf(C v:VL)(a b:Nat):=∃(ad:Gj)(c:Nat),v=.slice ad b c/\b<=c/\(b≠0->∃g len E:Nat,C=.slice (some ⟨g,0,none⟩) len E/\ad=some ⟨g,a,none⟩/\a+b<=len)
def MO(r:Option<|(Nat×Nat)×Fz)(O H:Nat)(S:Tl)(w:WD)(e:Ending)(w':WD):Prop:=
 match r with
 |some (x,F')=>∃v S' sv' mv',e=.returned v/\Fr O H F' S' sv' mv' w'/\Kb S w w'/\(∀k∈S',k∈S\/w.heap.size<=k)/\PartOf mv' v x.1 x.2
 |none=>LL e/\Kb S w w'
def K5{u:Unit}(h:jH n F=some (u,F1))(E:F.mem.length%32=0):32*n<=F1.mem.length:=by
 unfold jH at h;split at h
 .grind[dw]
 split at h
 .cases h
 rename_i G;obtain⟨_,rfl⟩:=Xi<|hV h;have D:=(wY G).1;show 32*n<=(_++_:Vf).length;rw[Xm,Yl,D];unfold dw at*;omega
def iC(h:dC p n F=some ((a,b),F1))(D:F.mem.length%32=0):a+b<=F1.mem.length:=by
 unfold dC at h;split at h
 .grind
 split at h
 .split at h
  .cases h
  rename_i G;obtain⟨E,rfl⟩:=Xi<|hV h;obtain⟨rfl,rfl⟩:=Xi E;have:=K5 G D;unfold dw at this;omega
 grind
def Qt(p n:Nat)(w:WD)(h:Fr O H F S X C w):cP 275 #[pt H,wv p,wv n] w λe d=>MO (dC p n F) O H S w e d/\(dC p n F≠none->Old C F.mem d):=by
 have c:=W2.start w p n;have R:=cV<|Uy p n<|h.below c.be;have I:=cV c.be;have V:=h.aT;clear c h;cases c:dC p n F with
 |none=>
  rw[c]at R;clear c;go_enter func275,ntmps275;go_wp2_with fail
  refine R.mono ?_;rintro e Z⟨⟨⟨u,l,rfl⟩,t⟩,_⟩;exact⟨W,⟨⟨_,_,W⟩,(Kb.h I).trans t<|λi q=>LZ q⟩,λh=>absurd W h⟩
 |some r=>
  let⟨⟨a,b⟩,F1⟩:=r;have A:=cV<|iC c V;rw[c]at R;clear c;go_enter func275,ntmps275;go_wp2_with fail
  refine R.mono ?_;rintro e Z⟨⟨rfl,S1,T,z,D,L,U⟩,P⟩;have G:=cV<|P K2;clear P;obtain⟨Y,cap1,rfl⟩:=dt D.me;have o:F1.mem.length<=cap1:=by
   rcases D.me.2 with⟨l,s⟩|⟨g,E,c,l,_,_,v,_⟩
   .omega
   grind
  have m:=D.bv;have N:Z.cell? _=some (.slice _ _ _):=D.row.cell (i:=20) K3;have K:=A.aa;have J:=cV D;have y:=cV<|(Kb.h I).trans L<|λi q=>LZ q;have Q:Hd _:=λk t=>(U k t).imp id<|λh=>By I.size h;have f:Hd (Y=none->cap1=0):=λe=>by
   rcases D.me.2 with⟨l,s⟩|⟨g,E,c,l,_⟩
   .grind
   grind
  clear D L U R;unfold rG;go_wp2
  .go_ret;refine⟨⟨_,S1,_,_,W,J,y,Q,_,_,W,wq,λc=>absurd c wq⟩,by first|exact G|exact λ_=>G⟩
  go_ret;refine⟨⟨_,S1,_,_,W,J,y,Q,_,_,W,wq,λc=>?_⟩,by first|exact G|exact λ_=>G⟩;let⟨g,j,c,_⟩:=fv J.me;grind[Addr.add]
def nC(p n:Nat)(w:WD)(h:Fr O H F S X C w):cP 275 #[pt H,wv p,wv n] w (MO (dC p n F) O H S w):=(Qt p n w h).mono λ_ _ h=>h.1
def th{a:Act}(U:F.nx<9223372036854775808)(Y:(F.ae).size<=100000)(N:n<=32)(h:Fr O H F S X C w)(t:([4,5,6,7,8,9,10,11,12,13,14,15,16,17,18,19]:Tl).all (λd=>decide (d<a.tmps.size))=true)(c1:tG a 1<|iI (n:Int))(b:tG a 0<|pt H)(p:∀u r s x,(dB (lK<|dH (F.ae) ((F.nx)%M)<|n) (F)=none)->s.defers=a.defers->Kb S w x->Q (.panic [{v:=.iface u r,recovered:=false}]) s x)(i:∀(x:WD)(A:Tl)(sv' mv':VL)(y:VL),Fr O H (A1<|dB (lK<|dH (F.ae) ((F.nx)%M)<|n)<|F) A sv' mv' x->Kb S w x->(∀j∈A,j∈S\/w.heap.size<=j)->(Pc<|dH (F.ae) ((F.nx)%M)<|n) (1,mv') A y x->Q .normal (dQ a [(4,pt H),(5,pt H),(6,pq H 19),(7,pt H),(8,pt H),(9,pq H 1),(10,.string F.ae),(11,pt H),(12,pt H),(13,pq H 23),(14,iI (F.nx:Int)),(15,wv<|F.nx),(16,iI (n:Int)),(17,y),(18,wv<|lK<|dH (F.ae) ((F.nx)%M)<|n),(19,Value.tuple #[])]) x):(ym f236 0).wp prog Q a w:=by
 have J:∀k:Nat,100000<((λk=>match k with|0=>F|_=>A1<|dB (lK<|dH (F.ae) ((F.nx)%M)<|n)<|F) k).ac\/Same F ((λk=>match k with|0=>F|_=>A1<|dB (lK<|dH (F.ae) ((F.nx)%M)<|n)<|F) k):=by intro k;have c:100000<(F).ac\/Same F F:=A4<|Same.refl F;have q:=gV c<|lK<|dH (F.ae) ((F.nx)%M)<|n;grind
 exact fG (λk=>match k with|0=>F|_=>A1 _) h [(1,.int _ n),(0,.pointer _)] [(some 4,.v _),(some 5,.v _),(some 6,.v _),(some 7,.v _),(some 8,.v _),(some 9,.v _),(some 10,.v _),(some 11,.v _),(some 12,.v _),(some 13,.v _),(some 14,.v _),(some 15,.v _),(some 16,.v _),(some 17,.l _),(some 18,.v _),(some 19,.v _)] [15] [6,10,11,13,14] (ha:=⟨N0,t,(eR c1<|eR b W),N0⟩) (aIn (sk<|qD) AF)
  ⟨(λs x S1 R P D E L b G c K I=>pM pT (xa (G 6 _ W)<|G 18 _ W) (ix x D) W (λ_ _ _=>W) (λT u r V q=>p u r s V T b<|E.trans q L) I),AF⟩
  ⟨(@λs x k S1 R P E o c K D G I=>by
    rcases J k with m|Z
    .exact absurd D.aN (Nat.not_le.2 m)
    .exact dm (G W) ((rc D.row _).trans<|Xl (λz=>some<|Value.string z) Z.ae) (kc I)),(@λs x k S1 R P E o c K D G I=>by
    rcases J k with m|Z
    .exact absurd D.aN (Nat.not_le.2 m)
    .exact dm (G W) ((rc D.row _).trans<|Xl (λz:Nat=>some<|Value.int _ z) Z.nx) (kc I)),(λ_ G I=>eK qJ (za<|G W) (fT _ U _)<|λe V f=>⟨_,f.1,I _ V f.2 nn1 W⟩),(@λs x k S1 R P E o c K D G I=>eK Km (PE (G W) (G W)<|G W) (uW _ _ Y wq x) (λe V f=>by let⟨v,r,b,h3⟩:=f;exact⟨_,r,I _ V h3 nn1 ⟨_,b,λk q r=>by have:=(b.lt k q).1;have:=D.aU k r;omega⟩⟩)),(@λs x k S1 R P E o c K D G I=>by
    obtain⟨b,b,_⟩:=(c 17 _ W)
    exact eK qY (za W) (nB _ (by grind[jk]) x<|Bys.bD b)<|λe V f=>⟨_,f.1,I _ V f.2 nn1 W⟩),AF⟩
  λg x A sv' mv' D E L b=>i x A _ _ _ D E L<|b 13 _ _ W
variable {F':Fz}
def wJ(F:Fz)(n:Nat):(λi=>if i=23 then iI (n:Int)else F.cell X C i)=({F with nx:=n}:Fz).cell X C:=by
 funext i;by_cases h:i=23
 .subst h;rfl
 simp only[Fz.cell,iF h]
def Fr.bt(h:Fr O H F S X C w)(o:Nat)(v:VL)(L:(λi=>if i=o then v else F.cell X C i)=F'.cell X C)(D:F'.st=F.st)(E:F'.mem=F.mem)(I:F'.jd=F.jd)(G:F'.ae=F.ae)(J:F'.ac<=100000):To O H F' S w (w.setCell ⟨H,o,none⟩ v):=h.aD D E I G J (L▸h.row.set o v)<|(Kb.refl [H] w).setCell AI _
def fF(n:Nat)(F:Fz):Option (Unit×Fz):=match dB (lK<|dH F.ae (F.nx%M) n) F with
 |none=>none
 |some (_,F1)=>some ((),{F1 with nx:=F1.nx+n})
def Om{u:Unit}(h:dB n F=some (u,F1)):F1={F with st:=n::F.st}:=by grind[dB]
def Dm(hn:n<=32)(o:F.ae.size<=1000)(g:F.nx<=100000)(w:WD)(h:Fr O H F S X C w):cP 236 #[pt H,iI (n:Int)] w (gC (fF n F) dR O H S w):=by
 have U:Hd (F.ae.size<=100000):=by show _<=_;omega
 unfold fF;cases b:dB (lK<|dH F.ae (F.nx%M) n) F with
 |none=>
  show Calls _ _ _ _ (gC none dR O H S w);go_enter func236,ntmps236;go_wp2;refine th wq U hn h W W W ?_ ?_
  .intro u q s x _ c l;exact⟨c,⟨_,_,W⟩,l⟩
  intro x Y Q J z D;rw[b]at D;exact absurd D<|λh=>rM h
 |some r=>
  let⟨u,F1⟩:=r;have L:=Om b;have V:F1.nx<=100000:=K9
  show Calls _ _ _ _ (gC (some ((),{F1 with nx:=F1.nx+n})) dR O H S w);have Z:=cV b;clear L b;go_enter func236,ntmps236;go_wp2;refine th wq U hn h W W W ?_ ?_
  .intro u q s x I;exact absurd I (λh=>by rw[Z.aa]at h;cases h)
  intro x Y Q J z D P G j;rw[Z.aa]at D;have E:Fr _ H F1 Y _ _ x:=D;have f:x.cell? _=some (.int _ _):=E.row.cell (i:=23) K3;have d:=E.row.frozen 23;have R:=cV E;have p:=cV P;have m:=cV G;generalize lK (dH F.ae (F.nx%M) n)=y at*;simp only[n8];go_wp2;go_end0;exact⟨W,To.pre p m<|R.bt 23 _ (wJ F1 _) W W W W R.aN⟩
end
end cin
end Go.Proofs.YtohoajjdoihekaaGreatDoor
