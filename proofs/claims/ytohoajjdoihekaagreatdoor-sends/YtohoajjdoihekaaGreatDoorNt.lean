import Derived.Test.YtohoajjdoihekaaGreatDoorPb
import Derived.Conc.RwLib
import Derived.Conc.MuData
import Derived.Conc.MuLone
import Derived.KernelRfl
set_option linter.unusedVariables false
set_option linter.unusedSimpArgs false
set_option linter.defProp false
namespace Go.Proofs.YtohoajjdoihekaaGreatDoor
namespace cin
open Go.RowKit Go.Maps Go.Proofs.Tryz Tryz
set_option maxRecDepth 100000
set_option maxHeartbeats 8000000
variable {T T1 T' T2:TS}{N O g cp i e size n m t u d sz k U a t1 t2 b off H st J gs m' p gb kd c fr Z ac ab mb pb:Nat}{w w' x w1 y x':WD}{v X v' lv C v1 v2:VL}{xs tv tvs:Tn}{V V1:TV}{s:Act}{pos:String}{af:U9}{gd:U6}{K:K6}{Q:Y6}{F F1 F2 F' G Hq9:Fz}{S S':Tl}{f sb:Vp}{L9:List LogE}{src data ae:BA}{A:Nat->Acc}
def jo:List Chg->TS->TS
 |[],T=>T
 |c::r,T=>jK (jo r T) c.kind c.aj c.key c.bA
def CY(T:TS)(m1 m2:Nat):TS:={jo (T.ch.drop m1) T with ch:=T.ch.take m1,ay:=T.ay.take m2}
theorem uh(k a:Nat)(v:Nat):(jK T k a N v).ch=T.ch/\(jK T k a N v).ay=T.ay:=by grind[jK]
theorem pI(T:TS):∀l:List Chg,(jo l T).ch=T.ch/\(jo l T).ay=T.ay
 |[]=>⟨W,W⟩
 |c::r=>by have h:=pI T r;grind[uh,jo,trans]
def chC1(c:Chg):Tn:=[.int .i64 (c.kind:Int),lu c.aj 0,lu c.aj 1,lu c.aj 2,lu c.aj 3,lu c.key 0,lu c.key 1,lu c.key 2,lu c.key 3]
theorem Hp:∀(l:List Chg)(j:Nat)(h:j<l.length)(i:Nat),i<13->(EA l)[j*13+i]?=(ME l[j])[i]?
 |c::l,0,h,i,hi=>by rw[YB,XF];show(ME c++EA l)[i]?=_;rw[Xv (by show i<13;exact hi)];rfl
 |c::l,j+1,h,i,hi=>by have C:=Hp l j (by simpa using h) i hi;show(ME c++EA l)[(j+1)*13+i]?=_;rw[Xx (by show 13<=_;omega),show(j+1)*13+i-(ME c).length=j*13+i by show _-13=_;omega];exact C
def Ly{l:List Chg}{c:Chg}(H:w.ownsRow O 220 13 (sL g l.length cp) l.length<|EA l)(hi:i<l.length)(G:l[i]=c):w.rangeAt g (i*13) (chC1 c):=by intro j v C;have E:j<9:=(Do.1 C).1;have D:=XX H (i*13+j) wq;rw[Hp l i hi j wq,G]at D;rw[D,<-C];exact Xv (l₁:=chC1 c) E
def K0{l:List Chg}{c:Chg}(H:w.ownsRow O 220 13 (sL g l.length cp) l.length<|EA l)(hi:i<l.length)(E:l[i]=c):w.rangeAt g (i*13+9) (wl c.bA):=by intro j v C;have G:j<4:=(Do.1 C).1;have D:=XX H (i*13+9+j) wq;rw[ZB,Hp l i hi _ wq,E]at D;rw[ZB,D,<-C];show(chC1 c++wl c.bA)[9+j]?=_;rw[Xx (by show 9<=_;omega)];show(wl c.bA)[9+j-9]?=_;rw[ZL]
theorem Eh:∀{l:List Chg}{m:Nat},m<=l.length->EA (l.take m)=(EA l).take (m*13)
 |_,0,_=>R5
 |c::l,m+1,h=>by have C:=Eh (by simpa using h);show ME c++EA (l.take m)=(ME c++EA l).take ((m+1)*13);rw[C,show(m+1)*13=(ME c).length+m*13 by show _=13+_;omega,List.take_length_add_append]
def TM:(prog.info? 217).map (·.size)=some 9:=N0
def oB(v:VL)(m:Nat):VL:=match v with
 |.slice (some a) _ cp=>.slice (some a) m cp
 |v=>v
def SlOk(v:VL)(n:Nat):=(v=.slice none 0 0/\n=0)\/∃g cp:Nat,v=.slice (some ⟨g,0,none⟩) n cp/\n<=cp/\cp<=maxLen
def yT(h:w.ownsRow O e size v n xs):SlOk v n:=by
 rcases h.2 with C|⟨g,E,D,C,J,P,G,H,I,L⟩
 .exact LZ C
 exact A4 ⟨g,_,C,G,H⟩
def BD(h:w.ownsRow O e size v n xs)(D:m<=n):w.ownsRow O e size (oB v m) m (xs.take<|m*size):=by
 have C:m*size<=n*size:=Yf _ D;refine⟨by rw[XB,h.1];omega,?_⟩;rcases h.2 with⟨rfl,rfl⟩|⟨g,E,G,rfl,G,H,I,I,J,L⟩
 .exact LZ ⟨W,wq⟩
 exact A4 ⟨g,_,_,W,G,H,wq,I,J,K9⟩
def yM:(oB v m).ownBlock=v.ownBlock:=by unfold oB;split<;>rfl
def Id(h:SlOk v n):∃C a b,oB v m=.slice C a b:=by
 rcases h with⟨rfl,_⟩|⟨g,cp,rfl,_⟩
 .exact⟨_,_,_,W⟩
 exact⟨_,_,_,W⟩
def Qm{T Y e:Vr}(P:prog.underlying T=some (.slice e))(C:∀x,(sizeOf e).run prog x=.ok sz x)(H:tG s t X)(G:tG s u<|iI (m:Int))(P:SlOk X n)(J:m<=n)(D:K (Wb s d<|oB X m) x):Oper.wp prog ⟨some d,.slice T (.tmp t) none (some<|.tmp u) none,Y,pos,af,gd⟩ s x K Q:=by
 have L:s.eval (.tmp t)=X:=H;have I:s.eval (.tmp u)=.int _ m:=G;rcases P with⟨rfl,rfl⟩|⟨g,cp,rfl,P,P⟩
 .obtain rfl:m=0:=wq
  have C:=C x;go_simp;exact D
 unfold maxLen at P;have C:=C x;have E:m<=cp:=wq
 go_simp;exact D
def UY(R:X4)(w:WD):Nat->X4
 |0,x=>bW w x
 |_,x=>R x
def sZ{R:X4}{x:WD}(h:UY R w k x)(C:k<=0):bW w x:=by
 cases(wq:k=0)
 exact h
def M4{R:X4}(C:∀x x',R x->bW x x'->R x')(k:Nat)(x x':WD)(h:UY R w k x)(D:bW x x'):UY R w k x':=by
 match k,h with
 |0,h=>exact(h).trans<|D.mono (h).size
 |_+1,h=>exact C x x' h D
def PQ{v:Nat}(C:k<3)(w:WD)(h:Tr O U T V w)(hn:V.n<900000000000):cP 159 #[pt U,gS k a N,wv v] w λe w'=>e=AG/\TTo O U T V (jK T k a N v) 2 w w':=by grind[ltq3,xR,sW,sX]
def S8{l:List Chg}(h:i<l.length):l.drop i=l[i]::l.drop (i+1):=YT h
def kY{s:Act}{x:WD}{pos:String}{af:U9}{gd:U6}{K:K6}{Q:Y6}{T L:Vr}(D:∀x,(sizeOf T).run prog x=.ok 1 x){u:VL}(G:∃C n c,v=.slice C n c)(I:tG s t1<|pq b off)(H:tG s t2 v)(J:cL x b off u)(P:x.frozen? ⟨b,off,none⟩=false)(E:K (s.put none undef)<|x.setCell ⟨b,off,none⟩ v):Oper.wp prog ⟨none,.store T (.tmp t1)<|.tmp t2,L,pos,af,gd⟩ s x K Q:=by obtain⟨C,n,c,rfl⟩:=G;have D:=D x;go_simp;exact E
def QN(w:WD)(p:Addr)(v:VL):Nat->X4
 |0,x=>bW w x
 |_,x=>∃y,bW w y/\Below (y.setCell p v).heap.size (y.setCell p v) x
def ww{p:Addr}(k:Nat)(x x':WD)(h:QN w p v k x)(C:bW x x'):QN w p v k x':=by
 match k,h with
 |0,h=>exact(h).trans<|C.mono (h).size
 |_+1,⟨y,h1,h2⟩=>exact⟨y,h1,h2.trans<|C.mono h2.size⟩
def mY{x:WD}{p:Addr}(h:QN w p v k x)(C:k<=0):bW w x:=by
 cases(wq:k=0)
 exact h
def OA:(112:Nat)≠24:=K3
def Tr.lo_to{E:Tn}{Y:List LogE}(h:Tr O U T V w)(D:Up V.lv.ownBlock.toList U 3 v' w w')(L:Lo w' O v' E Y)(z:Fresh w V.lv v')(Z:∀t∈E,∀k,t.ownBlock=some k->(∃j∈V.tv,j.ownBlock=some k)\/w.heap.size<=k):TTo O U T V {T with ay:=Y} 0 w w':=by
 have R:∀k,V.lv.ownBlock=some k->O<=k:=λk c=>(h.lo.2.1.lt k c).1;have P:∀k∈U::V.lv.ownBlock.toList,k=U\/V.lv.ownBlock=some k:=λk c=>K9
 have J:∀k,(∃y cl,w.heap[k]?=some _)->k∉U::V.lv.ownBlock.toList:=λk C c=>by
  rcases P k c with e|e
  .exact gx h.row C e.symm
  exact iD h.lo.2.1 C e
 have I:∀{e size n v xs b},w.ownsRow b e size v n xs->131≠e->112≠e->∀k,v.ownBlock=some k->k∉U::V.lv.ownBlock.toList:=λL G f k c C=>by
  rcases P k C with e|e
  .exact dS h.row L G k c e
  rcases yb h.lo.2.1 L f with H|H
  .grind
  grind
 have o:0∉U::V.lv.ownBlock.toList:=λC=>by
  rcases P 0 C with e|e
  .have G:=rc h.row 0;rw[<-e]at G;rw[h.zr.1.1]at G;cases G
  have:=R 0 e;have:=h.aA;omega
 have q:Tr O U {T with ay:=Y} {V with lv:=v',tv:=E} w':=by refine⟨?_,h.aw.kb D.kb<|λk c C=>J k (h.aw.isMap C) c,h.aP.kb D.kb<|J _ h.aP.is,D.kb.aD h.ch<|I h.ch xH<|Ne.symm GB,L,h.zr.kb D.kb o,By h.hb D.kb.size,h.aA,h.pn⟩;refine(D.row h.row).congr λi l=>?_;have l:=l;rcases NC l with rfl|rfl|rfl|rfl<;>rfl
 refine⟨_,_,q,DO _,D.kb,λk c=>?_,λk c=>?_,W⟩
 .rcases P k c with e|e
  .exact LZ e
  exact A4<|A4<|A4<|A4<|LZ e
 rcases c with e|e|e|e|e|⟨t,p,e⟩
 .exact LZ (LZ e)
 .exact LZ (A4<|LZ e)
 .exact LZ (A4<|A4<|LZ e)
 .exact LZ (A4<|A4<|A4<|LZ e)
 .rcases z with H|H
  .exact LZ (A4<|A4<|A4<|A4<|LZ<|H▸e)
  exact A4<|H k e
 rcases Z t p k e with e|e
 .exact LZ (A4<|A4<|A4<|A4<|A4 e)
 exact A4 e
theorem EN:∀{L:List LogE}{tv:Tn}{m:Nat},tv.length=L.length->m<=L.length->qM (L.take m) (tv.take m)=(qM L tv).take (m*6)
 |_,_,0,_,_=>R5
 |l::L,t::tv,m+1,h1,h=>by have C:=EN (by simpa using h1) (by simpa using h);show wI l t++qM (L.take m) (tv.take m)=(wI l t++qM L tv).take ((m+1)*6);rw[C,show(m+1)*6=(wI l t).length+m*6 by show _=6+_;omega,List.take_length_add_append]
theorem Lo.take{L:List LogE}(h:Lo w O lv tv L)(C:m<=L.length):Lo w O (oB lv m) (tv.take m) (L.take m):=by
 refine⟨by rw[XB,XB,h.1],?_,λi l t E D=>h.2.2.1 i l t ?_ ?_,h.2.2.2.sublist<|List.take_sublist _ _⟩
 .rw[EN h.1 C,show(L.take m).length=m by grind];exact BD h.2.1 C
 .grind
 grind
def BN(m1 J:Nat)(h:Tr O U T V w)(a3:m1<=T.ch.length)(a7:J<=T.ay.length)(b7:∀c∈T.ch,c.kind<3)(hn:V.n+2*T.ch.length<900000000000):cP 96 #[pt U,.agg #[iI (m1:Int),iI (J:Int)]] w λe w'=>e=AG/\TTo O U T V (CY T m1 J) (2*(T.ch.length-m1)) w w':=by
 have hB:Below _ w (w.alloc<|.cells #[iI m1,iI J] 186):=ai (dO _ w) _;have c2:=rc (h.below hB).row 2;rw[show zh V 2=V.cv from W]at c2;let⟨q,cp,a9⟩:=dt h.ch;rw[a9]at c2;go_enter func96,ntmps96;go_wp2;let⟨q,HW⟩:=dP<|w.alloc<|.cells #[iI m1,iI J] 186;have h1:=h.below hB;have b0:(w.alloc<|.cells #[iI m1,iI J] 186).cell? ⟨w.heap.size,0,none⟩=some (iI m1):=by simp[go_sem]
 have b1:(w.alloc<|.cells #[iI m1,iI J] 186).cell? ⟨w.heap.size,1,none⟩=some (iI J):=by simp[go_sem]
 have a8:w.heap.size<(w.alloc<|.cells #[iI m1,iI J] 186).heap.size:=K2
 have HFT:Hd (∀k,bi U T V k->k<w.heap.size):=λk r=>h.lt r;rw[<-HW.aa]at b0 b1 hB h1 c2 a8⊢;have HB:=cV hB;have H1:=cV h1;have b6:Hd (∀T' k x,TTo O U T V T' k q x->cL x w.heap.size 0 _/\cL x w.heap.size 1 _/\w.heap.size<x.heap.size):=λT' k x ht=>by let⟨L,S,_,_,r,hS,_⟩:=ht;have e:=r.block _ a8<|λhm=>absurd (HFT _<|hS _ hm)<|Yg _;exact⟨(Xc e).trans b0,(Xc e).trans b1,Xg a8 r.size⟩
 have hcl:T.ch.length<900000000000:=wq
 have HKD:=cV b7;clear h b0 b1 hB h1 c2 a9 b7;go_loopw[4] (λt4 wr=>∃i:Nat,m1<=i/\i<=T.ch.length/\t4=iI ((i:Int)-1)/\Hd (TTo O U T V (jo (T.ch.drop i) T) (2*(T.ch.length-i)) q wr)) (λt4 _=>(RowKit.intOf t4+1).toNat);case atStart=>refine⟨_,a3,DO _,W,?_⟩;rw[List.drop_length,Nat.sub_self];exact H1.aa.to<|dO _ _
 obtain⟨i,hi1,hi2,rfl,HT⟩:=hrel;let⟨q0,q1,q2⟩:=b6.aa _ _ _ HT;by_cases G:m1<i
 .obtain⟨j,rfl⟩:∃j,i=j+1:=⟨i-1,wq⟩
  have hd:=dT<|m1<=((j+1:Nat):Int)-1;have e1:((j+1:Nat):Int)-1=j:=wq
  rw[e1]at hd;rw[e1];let⟨L,S',t1,t2,t3,t4,t5,t6⟩:=HT.aa;have hs:=t1.ch;rw[(pI T _).1]at hs;obtain⟨g,b8,a0, -, -, -⟩:=fv hs;rw[a0]at hs;have A:=rc t1.row 2;rw[show zh L 2=L.cv from W,a0]at A;have G:=t1.row.lt;have hi:j<T.ch.length:=wq
  obtain⟨c,a2⟩:∃c,T.ch[j]=c:=⟨_,W⟩
  have a6:∀x,Below _ wr x->Calls _ _ #[pt U,gS c.kind c.aj c.key,wv c.bA] x λe y=>e=.returned _/\TTo _ U T V (jo (T.ch.drop j) T) _ q y:=λx P=>by refine(PQ (HKD c (by rw[<-a2];exact Ya _)) x (t1.below P) wq).mono ?_;rintro e y⟨e2,hy⟩;refine⟨e2,?_⟩;have:=TTo.comp t2 (t3.below P) t4 t5 t6 hy;rw[show 2*(T.ch.length-(j+1))+2=2*(T.ch.length-j) by omega]at this;rw[S8 hi,a2];exact this
  have hR:∀x x',TTo _ U T V (jo (T.ch.drop j) T) _ q x->Below _ x x'->TTo O U T V _ (2*(T.ch.length-j)) q x':=λx x' h hb=>h.below hb;have hR':∃R:X4,R=λx=>TTo O U T V (jo (T.ch.drop j) T) (2*(T.ch.length-j)) q x:=⟨_,W⟩
  clear t1 t2 t3 t4 t5 t6 HT a0 e1;go_wp2;refine dy (UY (λx=>TTo _ U T V _ _ q x) wr) (λ_ _ _=>True) [(0,(.pointer _)),(4,(.int _ j))] (nV 17 [pt U,pt U,pt U,pq U 2,.slice _ _ _,.int _ _,pq g<|j*13,pq g<|j*13,gS _ _ _,pt U,pt U,.pointer _,.slice _ _ _,.int _ _,pq g<|j*13,pq g<|j*13+9,wv _,.tuple _]) [17] [4,6,8,12,14,16] ((dO _ wr).drew) (M4 hR)
    ⟨(@λs x H hl K C hv I=>by
    refine o6 @hv (a6 x C) (λv y h=>?_) (λl y h=>?_) (λy h=>?_)
    .obtain⟨e,hR⟩:=h;injection e with e;subst e;exact I _ y hR AF nn1 W
    .cases h.1
    .cases h.1),AF⟩
    ⟨(@λk s x r D H hl K E C hv I=>by
    have P:bW wr x:=sZ C<|E 0 17;exact dm (v:=(sL g T.ch.length b8)) (hv W) ((P.cell G).trans A)<|kx I),(@λk s x r D H hl K E C hv I=>by
    exact mA 13 (hv W) (hv W) hi<|kx I),(@λk s x r D H hl K E C hv I=>by
    have P:bW wr x:=sZ C<|E 0 17;exact wp_load_mid _ _ W g _ (hv W) _ _ (Ly (dh hs P) hi a2) underlying217 W TM<|kx I),(@λk s x r D H hl K E C hv I=>by
    have P:bW wr x:=sZ C<|E 0 17;exact dm (v:=(sL g T.ch.length b8)) (hv W) ((P.cell G).trans A)<|kx I),(@λk s x r D H hl K E C hv I=>by
    exact mA 13 (hv W) (hv W) hi<|kx I),(@λk s x r D H hl K E C hv I=>by
    have P:bW wr x:=sZ C<|E 0 17;exact wp_load_mid 24 _ W g _ (hv W) _ _ (K0 (dh hs P) hi a2) underlying24 W Dv<|kx I),AF⟩
    (nl W) (nl W) ?_
  intro gg x C _;have HR:=cV<|show TTo _ U T V _ _ q x from C;clear C a6 hs A hR;simp only[n8,sx9];go_wp2;go_roundw;case rel=>exact⟨j,wq,wq,W,HR⟩
  simp[RowKit.intOf]
 have hd:=dF<|(m1:Int)<=i-1;obtain rfl:i=m1:=wq
 let⟨L,S',t1,t2,t3,t4,t5,t6⟩:=HT.aa;have a1:=t1.ch;have D:=t1.lo.2.1;rw[(pI T _).1]at a1;rw[(pI T _).2]at D;have F:=yT a1;have gsl:=yT D;have A:=rc t1.row 2;have hz:=t1.row.frozen 2;rw[show zh L 2=L.cv from W]at A;have G:=t1.row.lt;have c0:=BD D a7;have a4:=BD a1 a3;have q:Hd (L.cv=L.cv):=rfl;go_wp2;refine dy (QN wr ⟨U,2,none⟩<|oB L.cv i) (λ_ _ _=>True) [(0,(.pointer _)),(3,(pt w.heap.size))] (nV 35 [pt U,pt U,pt U,.pointer _,L.cv,pt w.heap.size,iI _,oB L.cv i,pt U,.pointer _]++[(none,.v undef)]) [10] [4,6,7] ((dO _ wr).drew) (ww)
   ⟨(@λs x H hl K C hv I=>kY (u:=L.cv) (λ_=>N0) (Id F) (hv W) (hv W) ((C.cell<|by exact G).trans A) ((C.frozen<|by exact G).trans hz)<|I _ _ ⟨x,C,dO _ _⟩ AF (λ_=>W) W),AF⟩
   ⟨(@λk s x r D H hl K E C hv I=>by
   have P:bW wr x:=mY C<|E 0 10;exact dm (v:=L.cv) (hv W) ((P.cell<|by exact G).trans A)<|kx I),(@λk s x r D H hl K E C hv I=>by
   have P:bW wr x:=mY C<|E 0 10;exact dm (v:=iI (i:Int)) (hv W) ((P.cell<|by exact q2).trans q0)<|kx I),(@λk s x r D H hl K E C hv I=>by
   exact Qm (T:=129) (e:=220) (sz:=13) (n:=T.ch.length) N0 (λ_=>N0) (hv W) (hv W) F a3<|kx I),AF⟩
   (nl W) (nl W) ?_
 intro gg xq C _;obtain⟨y,Z,q⟩:QN wr ⟨U,2,none⟩ (oB L.cv i) 1 xq:=C;have k1:L.cv.ownBlock=(oB L.cv i).ownBlock:=(yM).symm;have f:U∉L.cv.ownBlock.toList:=I8 t1;let⟨u1,u2⟩:=t1.cG (c':=T.ch.take i) (Up.bM (o:=2) (oB L.cv i) (Kb.h (S:=L.cv.ownBlock.toList) Z) f G) (by rw[show(T.ch.take i).length=i by rw[XB];omega];exact fC (dh (by rw[Eh a3];exact a4) Z) (λk r e=>f (by rw[<-e,k1,r];simp)) _ _) (LZ k1.symm)<|λk r=>(a1.lt k r).1;have u2:=TTo.comp t2 t3 t4 t5 t6<|u2.below q;clear u1 Z q k1 f t1 t2 t3 t4 t5 t6 A hz G a1 a4 D c0 F gsl q0 q1 q2 HT;let⟨q0,q1,q2⟩:=b6.aa _ _ _ u2;let⟨Y,S2,x1,x2,x3,x4,x5,x6⟩:=u2;have D:=x1.lo;rw[show TS.ay {jo (T.ch.drop i) T with ch:=T.ch.take i}=T.ay from(pI T _).2]at D;have F:=yT D.2.1;have A:=rc x1.row 3;have hz:=x1.row.frozen 3;rw[show zh Y 3=Y.lv from W]at A;have G:=x1.row.lt;simp only[n8,sx9];go_wp2;refine dy (QN xq ⟨U,3,none⟩<|oB Y.lv J) (λ_ _ _=>True) [(0,(pt U)),(3,(pt w.heap.size))] (nV 45 [pt U,pt U,pt U,pq U 3,Y.lv,pq w.heap.size 1,iI (J:Int),oB Y.lv J,pt U,pq U 3]++[(none,.v undef)]) [10] [4,6,7] ((dO _ xq).drew) (ww)
   ⟨(@λs x H hl K C hv I=>kY (u:=Y.lv) (λ_=>N0) (Id F) (hv W) (hv W) ((C.cell<|by exact G).trans A) ((C.frozen<|by exact G).trans hz)<|I _ _ ⟨x,C,dO _ _⟩ AF (λ_=>W) W),AF⟩
   ⟨(@λk s x r D H hl K E C hv I=>by
   have P:bW xq x:=mY C<|E 0 10;exact dm (v:=Y.lv) (hv W) ((P.cell<|by exact G).trans A)<|kx I),(@λk s x r D H hl K E C hv I=>by
   have P:bW xq x:=mY C<|E 0 10;exact dm (v:=iI (J:Int)) (hv W) ((P.cell<|by exact q2).trans q1)<|kx I),(@λk s x r D H hl K E C hv I=>by
   exact Qm (T:=36) (e:=112) (sz:=6) (n:=T.ay.length) N0 (λ_=>N0) (hv W) (hv W) F a7<|kx I),AF⟩
   (nl W) (nl W) ?_
 intro gg z C _;obtain⟨y,Z,q⟩:QN xq ⟨U,3,none⟩ (oB Y.lv J) 1 z:=C;have f:U∉Y.lv.ownBlock.toList:=λhm=>dS x1.row x1.lo.2.1 yO U (by simpa using hm) W;have hu:Up Y.lv.ownBlock.toList U 3 (oB Y.lv J) xq (y.setCell ⟨U,3,none⟩<|oB Y.lv J):=Up.bM (o:=3) (oB Y.lv J) (Kb.h (S:=Y.lv.ownBlock.toList) Z) f G;have a5:Lo (y.setCell ⟨U,3,none⟩<|oB Y.lv J) O (oB Y.lv J) (Y.tv.take J) (T.ay.take J):=by
  have h9:=(D.kb (Kb.h (S:=[]) Z) K2 K2).take a7;refine h9.kb ((Kb.refl [U] y).setCell (p:=⟨U,3,none⟩) AI _) (λk r hm=>f ?_)<|λt ht k r hm=>?_
  .rw[yM]at r;rw[<-BY.1 hm,r];simp
  let⟨l,hl⟩:=D.tv<|YY ht;exact dS x1.row hl BR k r<|BY.1 hm
 have u3:=x1.lo_to hu a5 (LZ<|yM)<|λt ht k r=>LZ ⟨t,YY ht,r⟩;have r:Hd (TTo O U T V (CY T i J) (2*(T.ch.length-i)) w z):=TTo.pre HB<|TTo.comp x2 x3 x4 x5 x6<|u3.below q;clear u3 a5 hu f Z q x1 x2 x3 x4 x5 x6 A hz G D;simp only[n8,sx9];go_wp2;go_end0;exact⟨W,r⟩
def Lq(w:WD)(d:Gj)(c:Nat)(s:BA)(E D:Vr):(Builtin.copy_ #[26,D] E #[.slice d 0 c,.string s]).run prog w=.ok (goInt 0) w:=by
 have E:=Jv;cases E:prog.info? 5 with
 |none=>grind
 |some i=>cases d<;>simp[Builtin.copy_,Zm tb,Builtin.lenOf,Builtin.firstCells,sizeOf,typeInfo,E,storeCells]
def Lm{x:WD}(s:BA)(h:Fr O H F S X C x)(j:PartOf C v a b)(l I:Vr):∃r x',(Builtin.copy_ #[26,I] l #[v,.string s]).run prog x=.ok r x'/\Fr O H {F with mem:=splice F.mem a<|(bl s).take b} S X C x'/\Kb S x x':=by
 obtain⟨V,c,rfl,P,j⟩:=j;by_cases p:b=0
 .subst p;refine⟨_,x,Lq x V c s l I,?_,Kb.refl _ _⟩;rwa[Y3,oS]
 obtain⟨g,len,E,rfl,rfl,Z⟩:=j p;rcases h.me with⟨i,⟨D,_⟩|⟨g',m,f,D,y,o,z,A,T,N⟩⟩
 .grind
 injection D with D Y J;injection D with D;injection D with D;subst D Y J;have U:((bl s).take b).length=Nat.min s.size b:=by grind[XB,ik,Nat.min_comm]
 have R:((bl s).take b).length<=b:=K9
 have G:=CN x g a b c _ s 5 o W wq l I;have e:((bl s).map lJ).take (Nat.min s.size b)=((bl s).take b).map lJ:=Q1
 rw[e,<-U]at G;generalize(bl s).take b=L at*;refine⟨_,_,G,?_,?_⟩
 .refine h.bP (length_splice _ _ _ wq) ((Kb.refl _ x).setRow (LZ<|by simp[Value.ownBlock]) _) ?_;refine⟨by rw[XH];omega,A4 ⟨g,_,_,?_,y,qab x g _ _ _ _ o,?_,A,?_,?_⟩⟩
  .rw[length_splice _ _ _ wq]
  .rw[length_splice _ _ _ wq];exact z
  .have J:f.toList.length=E*1:=by rw[<-T];rfl
   show(_:Tn).length=_;rw[Xm,Xm,XB,X8,XH,J];omega
  rw[length_splice _ _ _ wq,yV,<-N];have e:∀(q:List _),q=splice f.toList a (L.map lJ)->q.take (F.mem.length*1)=splice _ a _:=λq k=>by rw[k];exact vy (by rw[XH];omega) N3
  refine e _ ?_;unfold splice;rw[XH,XL]
 refine(Kb.refl _ x).setRow (LZ ?_) _;rw[h.aH];exact IN _<|Xn _<|by simp[Value.ownBlock]
def BM{I:Vr}(G:tG s t<|iI (a:Int))(E:tG s u<|iI (b:Int))(J:a+b<=10000000)(D:K (Wb s d<|iI ((a+b:Nat):Int)) x):Oper.wp prog ⟨some d,.binOp .add 3 (.tmp t) (.tmp u) 3,I,pos,af,gd⟩ s x K Q:=by
 have e:((a+b:Nat):Int)=a+b:=wq
 rw[e]at D;have I:IntKind.i64.wrap (a+b)=a+b:=by grind[IntKind.wrap,IntKind.bits,IntKind.signed]
 go_simp;exact D
def Dg{E:Vr}(G:cL x g 0<|lu n 0)(c1:cL x g 1<|lu n 1)(c2:cL x g 2<|lu n 2)(c3:cL x g 3<|lu n 3)(D:K (Wb s d<|wv n) x):Oper.wp prog ⟨some d,.load 24<|.global g,E,pos,af,gd⟩ s x K Q:=by go_simp;exact D
def Du(X C:VL){v:BA}:(λi=>if i=21 then .string v else F.cell X C i)=({F with ret:=v}:Fz).cell X C:=by
 funext i;by_cases h:i=21
 .subst h;rfl
 simp only[Fz.cell,iF h]
def zB(F:Fz)(g:Nat)(aa:BA)(a b:Nat):Fz:={F with ac:=F.ac+g,ret:=aa,mem:=splice F.mem a<|(bl aa).take b}
def ji(F:Fz)(st g:Nat)(aa:BA)(a b:Nat):Option (Unit×Fz):=dB (if st=0 then 1 else 0)<|zB F g aa a b
def Db{α:Type}{r:Option<|α×Fz}{B:α->VL}{e:Ending}(E:Kb S w w1)(h:gC r B O H S w1 e w'):gC r B O H S w e w':=by
 cases r with
 |none=>exact⟨h.1,E.trans h.2<|λi G=>LZ G⟩
 |some y=>let⟨a,D⟩:=y;exact⟨h.1,To.pre E (λk E=>LZ E) h.2⟩
def A4Q{p:VL}(g:Nat)(aa:BA)(hst:st<=255)(hlv:∃ad n c,lv=.slice ad n c)(w:WD)(h:Fr O H F S X C w)(hg:F.ac+g<=100000)(hp:PartOf C p a b):cP 280 #[.pointer<|some ⟨H,0,none⟩,iy st g aa lv,p] w (gC (ji F st g aa a b) dR O H S w):=by
 obtain⟨P,ln,lc,rfl⟩:=hlv;have hB:Below _ w (w.alloc<|.cells (ut st g aa<|.slice P ln lc) 38):=ai (dO _ w) _;have h1:=h.below hB;have j:=h1.row.lt;have cg:=h1.row.cell (i:=16) K3;have fg:=h1.row.frozen 16;rw[show F.cell X C 16=.int _ _ from W]at cg;have b0:(w.alloc<|.cells (ut st g aa<|.slice P ln lc) 38).cell? ⟨w.heap.size,0,none⟩=some (iB st):=by simp[go_sem]
 have b1:(w.alloc<|.cells (ut st g aa<|.slice P ln lc) 38).cell? ⟨w.heap.size,1,none⟩=some (iI g):=by simp[go_sem]
 have b2:(w.alloc<|.cells (ut st g aa<|.slice P ln lc) 38).cell? ⟨w.heap.size,2,none⟩=some (.string aa):=by simp[go_sem]
 have J:w.heap.size<(w.alloc<|.cells (ut st g aa<|.slice P ln lc) 38).heap.size:=K2
 have a2:w.heap.size∉S:=λhm=>absurd (h.aU _ hm)<|Yg _;let⟨w1,HW⟩:=dP<|w.alloc<|.cells (ut st g aa<|.slice P ln lc) 38;let⟨mb,q⟩:=dP w.heap.size;rw[<-HW.aa,<-q.aa]at b0 b1 b2 J;rw[<-HW.aa]at h1 j cg fg hB;rw[<-q.aa]at a2;have HB:=cV hB;have H1:=cV h1;obtain⟨adr,cr,rfl,b7⟩:=hp;have HP:Hd (PartOf C _ a b):=⟨_,cr,W,b7⟩
 clear h h1 hB b7;unfold ji;let⟨n,HN⟩:=dP<|if st=0 then 1 else 0;obtain⟨U,a6⟩:∃U:Fz,Hd (U=zB F g aa a b):=⟨_,W⟩
 rw[<-HN.aa,<-a6.aa];go_enter func280,ntmps280;go_wp2;rw[<-HW.aa,<-q.aa];refine dy _ (λ_ _ _=>True) [(0,(.pointer _)),(4,(.pointer _))] (nV 6 [.pointer<|some ⟨H,0,none⟩,.pointer<|some ⟨H,0,none⟩,_,_,.pointer<|some ⟨mb,1,none⟩,_,_,.pointer<|some ⟨H,0,none⟩,_]++[(none,.v _)]) [9] [3,5,6] ((dO _ _).drew) (ww)
   ⟨(@λs x E hl K D hv G=>uq (v:=((F.ac+g:Nat):Int)) (hv W) (hv W) ((D.cell j).trans cg) ((D.frozen j).trans fg)<|G _ _ ⟨x,D,dO _ _⟩ AF (λ_=>W) W),AF⟩
   ⟨(@λk s x Y f E hl K L D hv G=>by
    have hx:=mY D<|L 0 9 W N0;exact dm (v:=iI (F.ac:Int)) (hv W) ((hx.cell j).trans cg)<|kx G),(@λk s x Y f E hl K L D hv G=>by
    have hx:=mY D<|L 0 9 W N0;exact dm (v:=iI (g:Int)) (hv W) ((hx.cell J).trans b1)<|kx G),(@λk s x Y f E hl K L D hv G=>BM (hv W) (hv W) wq<|kx G),AF⟩
   (nl W) (nl W) ?_
 intro gg x D _;obtain⟨y,m,a4⟩:QN w1 _ _ 1 x:=D;have a1:=((Kb.h (S:=[H]) m).setCell AI _).below a4;have V:Fr O H {F with ac:=F.ac+g} S X C x:=by refine((H1.aa.below m).cc (F':={F with ac:=F.ac+g}) W W W W hg (kF (H1.aa.below m).row<|mJ F X C _)<|(Kb.refl _ y).setCell AI _).below a4
 have cr1:=V.row.cell (i:=21) K3;have fr1:=V.row.frozen 21;change _=some (Value.string F.ret)at cr1;have hmf:mb≠H:=λe=>a2 (by rw[e,H1.aa.aH];simp);have T:=a1.block mb J K9;have b0':=(Xc T).trans b0;have b2':=(Xc T).trans b2;obtain⟨F2,a5⟩:∃F2:Fz,Hd (F2={F with ac:=F.ac+g,ret:=aa}):=⟨_,W⟩
 have a9:Fr O H F2 S X C (x.setCell ⟨H,21,none⟩<|.string aa):=by rw[a5.aa];exact V.cc W W W W hg (kF V.row<|Du X C)<|(Kb.refl _ x).setCell AI _
 let⟨r,x',hrun,I,a0⟩:=Lm aa a9 HP.aa 3 9;have A:Hd (Kb _ w1<|x.setCell ⟨H,21,none⟩<|.string aa):=a1.setCell AI _;have a7:Hd (H∈S):=by show H∈S;rw[H1.aa.aH];simp
 have Z:Hd (Kb S w x'):=by refine((Kb.h HB.aa).trans A.aa<|λi N=>LZ (by rw[BY.1 N];exact a7.aa)).trans a0<|λi N=>LZ N
 have b6:=(A.aa.mono (λi N=>by rw[BY.1 N];exact a7.aa)).trans a0<|λi N=>LZ N;have hb0:=(Xc<|b6.block mb J a2).trans b0;have a8:Hd (∀k∈S,k∈S\/w.heap.size<=k):=λk Y=>LZ Y;have I:Fr O H U S X C x':=by rw[a6.aa];rwa[a5.aa]at I
 clear b6 a0 a9 V a1 m a4 b0 b1 b2 cg fg A T;simp only[n8,sx9];by_cases b8:st=0
 ·subst b8;have hn1:n=1:=HN.aa;subst hn1;go_wp2;refine dy (PhF _ H (λk=>match k with|0=>U|_=>A1<|dB 1 U) S x') (λ_ _ _=>True) [(0,(.pointer _))] (nV 27 [.pointer<|some ⟨H,0,none⟩,.pointer<|some ⟨H,0,none⟩,.pointer<|some ⟨H,19,none⟩,_,_]) [4] [3] (PhF.bn I) (PhF.bel)
    ⟨(@λs x E hl K D hv G=>by refine gz D @hv (λS' X C o=>ix x o) W (λ_ _ _=>W) (λa3 u pv x' Y=>?_)<|λx' hp=>G _ x' hp AF nn1 W;refine⟨E,?_⟩;show gC (dB 1 U) dR O H S w _ _;rw[show dB 1 U=none from a3];exact⟨⟨_,_,W⟩,Z.aa.trans Y a8.aa⟩),AF⟩
    ⟨(@λk s x Y f E hl K L D hv G=>by refine o6 @hv (fT 1 wq x) (λv y h=>?_) (λl y h=>absurd h.1 K2)<|λy h=>absurd h.1 K2;let⟨e,hb⟩:=h;injection e with e;subst e;exact G _ y hb nn1 W),AF⟩
    (nl W) (nl W) ?_
  intro gg z hz _;have HO:=cV<|Db Z.aa<|PhF.bo hz;clear hz I;simp only[n8,sx9];go_wp2;go_end0;exact HO.aa
 have hn0:=HN.aa.trans<|iF b8;subst hn0;have hsz:((st:Int)==0)=false:=N3
 go_wp2;refine dy (PhF _ H (λk=>match k with|0=>U|_=>A1<|dB 0 U) S x') (λ_ _ _=>True) [(0,(.pointer _))] (nV 32 [.pointer<|some ⟨H,0,none⟩,.pointer<|some ⟨H,0,none⟩,.pointer<|some ⟨H,19,none⟩,_,_]) [4] [3] (PhF.bn I) (PhF.bel)
   ⟨(@λs x E hl K D hv G=>by refine gz D @hv (λS' X C o=>ix x o) W (λ_ _ _=>W) (λa3 u pv x' Y=>?_)<|λx' hp=>G _ x' hp AF nn1 W;refine⟨E,?_⟩;show gC (dB 0 U) dR O H S w _ _;rw[show dB 0 U=none from a3];exact⟨⟨_,_,W⟩,Z.aa.trans Y a8.aa⟩),AF⟩
   ⟨(@λk s x Y f E hl K L D hv G=>by let⟨S',sv',mv',o,_⟩:=D;exact Dg (n:=0) (o.zr 0 wq) (o.zr 1 wq) (o.zr 2 wq) (o.zr 3 wq)<|kx G),AF⟩
   (nl W) (nl W) ?_
 intro gg z hz _;have HO:=cV<|Db Z.aa<|PhF.bo hz;clear hz I;simp only[n8,sx9];go_wp2;go_end0;exact HO.aa
def cF(J:Nat)(F:Fz):Nat->Fz
 |0=>F
 |1=>A1<|db F
 |2=>A1<|db<|A1<|db F
 |_=>A1<|eZ J<|A1<|db<|A1<|db F
def Vd{a:Act}(P:J<=255)(h:Fr O H F S X C w)(R:(([14,15,16,17,18,19,20,21,22,23,24,4,5,6]:Tl).all λd=>decide (d<a.tmps.size))=true)(c1:tG a 1<|iB (J:Int))(l:tG a 0<|pt H)(E:∀u c s x,(db (F)=none\/db (A1<|db<|F)=none\/eZ J (A1<|db<|A1<|db<|F)=none)->s.defers=a.defers->Kb S w x->Q (.panic [{v:=.iface u c,recovered:=false}]) s x)(U:∀(x:WD)(G:Tl)(sv' mv':VL)(L:Nat)(I:Nat)(b2:Nat),Fr O H (A1<|eZ J<|A1<|db<|A1<|db<|F) G sv' mv' x->Kb S w x->(∀j∈G,j∈S\/w.heap.size<=j)->L∉G->w.heap.size<=L->eI x L (dV<|db<|F)->I∉G->w.heap.size<=I->eI x I (dV<|db<|A1<|db<|F)->b2∉G->w.heap.size<=b2->eI x b2 (dV<|eZ J<|A1<|db<|A1<|db<|F)->Q .normal (dQ a [(14,pt H),(15,pt H),(16,pq H 19),(17,wv<|dV<|db<|F),(18,pt H),(19,pt H),(20,pq H 19),(21,wv<|dV<|db<|A1<|db<|F),(22,pt H),(23,iB (J:Int)),(24,wv<|dV<|eZ J<|A1<|db<|A1<|db<|F),(4,pt L),(5,pt I),(6,pt b2)]) x):(ym f244 0).wp prog Q a w:=by
 refine zaV (D:=[(1,iB (J:Int)),(0,pt H)]) (V:=[(some 14,.v<|pt H),(some 15,.v<|pt H),(some 16,.v<|pq H 19),(some 17,.v<|wv<|dV<|db F),(some 18,.v<|pt H),(some 19,.v<|pt H),(some 20,.v<|pq H 19),(some 21,.v<|wv<|dV<|db<|A1<|db F),(some 22,.v<|pt H),(some 23,.v<|iB (J:Int)),(some 24,.v<|wv<|dV<|eZ J<|A1<|db<|A1<|db F)]) (bx:=[(4,17,dV<|db F),(5,21,dV<|db<|A1<|db F),(6,24,dV<|eZ J<|A1<|db<|A1<|db F)]) (Cq9:=[3,7,10]) (cs:=[(257,#[pq H 19]),(257,#[pq H 19]),(276,#[pt H,iB (J:Int)])]) (cF J F) (λp=>match p with|2=>eZ J (cF J F 2)|_=>db<|cF J F p) h W (λ_=>W) (λp f args i A m=>?_) (λg x G sv' mv' Y b y k4=>?_) ⟨W,⟨N0,R,eR c1<|eR l W,N0⟩,W,N0,N0,N0⟩
 .rcases p with _|_|_|p<;>cases A<;>cases m
  .exact⟨W,⟨_,W⟩,λx _ _ _=>kO x,λe u c s x=>E u c s x<|LZ e⟩
  .exact⟨W,⟨_,W⟩,λx _ _ _=>kO x,λe u c s x=>E u c s x<|A4<|LZ e⟩
  exact⟨W,⟨_,W⟩,λx _ _ _=>Gg J P x,λe u c s x=>E u c s x<|A4<|A4 e⟩
 let⟨L,n,T,k,q⟩:=k4 0 _ _ _ W;let⟨I,z,d2,Z,N⟩:=k4 1 _ _ _ W;let⟨b2,o,K,r,t⟩:=k4 2 _ _ _ W;have:=U x G _ _ L I b2 Y b y T k q d2 Z N K r t;rw[<-n,<-z,<-o]at this;exact this
section
variable {S1:Tl}
def qo(F:Fz)(T:TS)(m:Nat)(r:Option<|Fz×TS):=∀(O H U:Nat)(S:Tl)(X C:VL)(V:TV)(w:WD),FT O H U F T S X C V w->V.n+m<800000000000->
 cP 158 #[pt H] w (Out2 r O H U T V S m w)
def Chain2:Nat->Nat->Fz->TS->Option Fz->TS->Prop
 |0,m,F,T,o,T'=>m=0/\F.aG=true/\o=some F/\T'=T
 |k+1,m,F,T,o,T'=>F.aG=false/\((k=0/\qo F T m none/\o=none/\T'=T)\/∃F1 T1 m1 m2,m=m1+m2/\qo F T m1 (some (F1,T1))/\Chain2 k m2 F1 T1 o T')
def Chain2.done(h:F.aG=true):Chain2 0 0 F T (some F) T:=⟨W,h,W,W⟩
def Chain2.fail(h:F.aG=false)(D:qo F T m none):Chain2 1 m F T none T:=⟨h,LZ ⟨W,D,W,W⟩⟩
def Chain2.step{E D:Nat}{o:Option Fz}(h:F.aG=false)(I:qo F T E<|some (F1,T1))(G:Chain2 k D F1 T1 o T'):Chain2 (k+1) (E+D) F T o T':=⟨h,A4 ⟨F1,T1,E,D,W,I,G⟩⟩
structure Rn2(O H U:Nat)(o:Option Fz)(T T':TS)(V:TV)(S:Tl)(m:Nat)(w:WD)(gk gm:Nat)(F1:Fz)(T1:TS)(S1:Tl)(sv1 mv1:VL)(V1:TV)(x:WD):Prop where
 ch:Chain2 gk gm F1 T1 o T'
 ft:FT O H U F1 T1 S1 sv1 mv1 V1 x
 kf:KF S U T V (w.alloc zd) x
 sub:∀k∈S1,k∈S\/(w.alloc zd).heap.size<=k
 aH:∀k,bi U T1 V1 k->bi U T V k\/(w.alloc zd).heap.size<=k
 n:V1.n+gm<=V.n+m
 ab:V1.ab=V.ab
 bz:ResAt x w.heap.size 0 0 ⟨#[]⟩ dL
def Rn2.aa{o:Option Fz}{Q P:Nat}{G D:VL}{aa:BA}(h:Rn2 O H U o T T' V S m w Q P F1 T' S1 G D V1 x)(E:∀k,bi U T V k->k<w.heap.size)(Y:∀k∈S,k<w.heap.size)(b:Kb S1 x y):cj O U T T' V S m w (gB y w.heap.size st gs aa dL):=by
 have R:(w.alloc zd).heap.size=w.heap.size+1:=K2
 have I:¬bi U T' V1 w.heap.size:=λc=>by
  rcases h.aH _ c with e|e
  .grind
  omega
 have L:0≠w.heap.size:=λe=>by have:=E U<|LZ W;omega
 let⟨S2,J,Z⟩:=h.kf;refine⟨V1,S2++S,(h.ft.tr.kb b h.ft.bs h.ft.fr.bu).kb (jE (Kb.refl [w.heap.size] y) AI) (λk b c=>I K9) K9,?_,λk b=>?_,λk b=>?_,by have:=h.n;omega,h.ab⟩
 .refine jE ?_ (A4<|DO _);refine(((Kb.refl _ w).alloc _).trans (J.mono<|λi c=>Xw _ c)<|λi c=>LZ c).trans b<|λi c=>?_;rcases h.sub i c with e|e
  .grind
  omega
 .grind
 rcases h.aH k b with e|e
 .grind
 omega
def Rn2.no{o:Option Fz}{P L:Nat}{E D:VL}(h:Rn2 O H U o T T' V S m w P L F1 T1 S1 E D V1 x)(J:∀k∈S,k<w.heap.size):w.heap.size∉S1:=λG=>by
 have I:(w.alloc zd).heap.size=w.heap.size+1:=K2
 rcases h.sub _ G with e|e
 .grind
 omega
def Rn2.step{o:Option Fz}{P J Z:Nat}{R I:VL}(h:Rn2 O H U o T T' V S m w (P+1) (Z+J) F1 T1 S1 R I V1 x)(L:∀k,bi U T V k->k<w.heap.size)(G:∀k∈S,k<w.heap.size)(A:Chain2 P J F2 T2 o T')(Y:To2 O H U F2 T1 T2 V1 S1 Z x y):∃S2 E D Q,Rn2 O H U o T T' V S m w P J F2 T2 S2 E D Q y:=by
 have K:(w.alloc zd).heap.size=w.heap.size+1:=K2
 have f:¬bi U T1 V1 w.heap.size:=λb=>by
  rcases h.aH _ b with e|e
  .grind
  omega
 have d:=h.no G;let⟨S2,E,D,Q,g,b,j,z,s,p⟩:=To2.comp (m:=0) (V:={V with n:=V1.n}) (λk c=>Xg (G k c) wq) (λk c=>Xg (L k c) wq) h.kf h.sub h.aH (DO _) h.ab Y;refine⟨S2,_,_,Q,A,g,b,j,z,?_,p,?_⟩
 .have h1:=h.n;grind
 obtain⟨b,N,t,b,b,⟨i,b,c⟩,_⟩:=Y;refine h.bz.kb b λb=>?_;grind
theorem Ni{o:Option Fz}(w:WD)(h:FT O H U F T S X C V w)(hc:Chain2 k m F T o T')(hn:V.n+m<800000000000):
  Calls prog 95 #[.pointer<|some ⟨H,0,none⟩] w λe w'=>e=.returned (Qy o)/\cj O U T T' V S m w w':=by
 have HST:Hd (Rn2 _ H U o T T' V S m w k m F T S X C V _):=⟨hc,h.below<|ai (dO _ w) _,⟨[],Kb.refl _ _,K2⟩,λj hj=>LZ hj,λj hj=>LZ hj,DO _,rfl,by unfold ResAt;simp[go_sem]⟩;have HN:=cV hn;have HFO:=cV h.aH;have HTL:Hd (∀k,bi U T V k->k<w.heap.size):=λk hk=>h.tr.lt hk
 go_enter_defers func95,ntmps95
 go_wp2
 go_loopg [4] k (λgk t4 wr=>∃gm F1 T1 S1 sv1 mv1 V1,Rn2 O H U o T T' V S m w gk gm F1 T1 S1 sv1 mv1 V1 wr)
 case atStart=>exact⟨m,F,T,S,X,C,V,HST.aa⟩
 case round=>
  obtain⟨gm,F1,T1,S1,sv1,mv1,V1,hR⟩:=hrel;have ce:=hR.ft.fr.row.cell (i:=24) K3;rw[show F1.cell _ _ 24=.bool _ from rfl]at ce;have HR:=cV hR;have hch:=hR.ch;cases gk with
  |zero=>
   obtain⟨rfl,he,rfl,rfl⟩:=hch;rw[he]at ce;go_wp2;have q1:=HR.aa.ft.fr.row.cell (i:=25) K3;rw[show F1.cell _ _ 25=.int _ _ from rfl]at q1;have q2:=HR.aa.ft.fr.row.cell (i:=16) K3;rw[show F1.cell _ _ 16=.int _ _ from rfl]at q2;have q3:=HR.aa.ft.fr.row.cell (i:=26) K3;rw[show F1.cell _ _ 26=.string _ from rfl]at q3;refine zdd HR.aa.ft.fr.row.lt HR.aa.bz q1 q2 q3 (dO _ _).drew rfl rfl rfl ?_;rintro x⟨y,hy,rfl⟩;have HT:=cV<|HR.aa.aa (st:=F1.aE) (gs:=F1.ac) (aa:=F1.aa) HTL.aa HFO.aa<|Kb.h hy;obtain⟨⟨k0,k1,k2,k3⟩,_⟩:=(HR.aa.bz.below hy).put (st:=F1.aE) (gs:=F1.ac) (aa:=F1.aa) (lv:=dL);generalize gB y w.heap.size F1.aE F1.ac F1.aa dL=z at*;simp only[n8];simp;go_wp2;refine leaves_cons (f:=157) (args:=#[.pointer<|some ⟨w.heap.size,0,none⟩]) K2 (by simp[go_sem]) ?_;refine(Hr).mono ?_;rintro e u' w''⟨rfl,rfl,rfl⟩;exact⟨_,by simp[results,results95,go_sem,k0,k1,k2,k3];rfl,rfl,HT.aa⟩
  |succ k2=>
   obtain⟨he,⟨rfl,hs,rfl,rfl⟩|⟨F2,T2,m1,m2,rfl,hs,hc⟩⟩:=hch
   .rw[he]at ce;go_wp2_with fail
    refine(cV<|hs _ H U S1 _ _ V1 wr HR.aa.ft (by have:=HR.aa.n;have:=HN.aa;omega)).aa.mono ?_;rintro e z⟨⟨u,pv,rfl⟩,hk⟩;have hres:=HR.aa.bz.kb hk<|HR.aa.no HFO.aa;have HT:=cV<|HR.aa.aa (st:=2) (gs:=0) (aa:=⟨#[]⟩) HTL.aa HFO.aa hk;obtain⟨⟨k0,k1,k2,k3⟩,_⟩:=hres.put (st:=2) (gs:=0) (aa:=⟨#[]⟩) (lv:=dL);refine leaves_cons (f:=157) (args:=#[.pointer<|some ⟨w.heap.size,0,none⟩]) K2 (by simp[go_sem]) ?_;refine(vP u pv [] z hres).mono ?_;rintro e u' w''⟨rfl,rfl,rfl⟩;generalize gB z w.heap.size 2 0 ⟨#[]⟩ dL=z2 at*;exact⟨_,by simp[results,results95,go_sem,k0,k1,k2,k3];rfl,rfl,HT.aa⟩
   .rw[he]at ce;have HS:=cV (hs _ H U S1 _ _ V1 wr HR.aa.ft (by have:=HR.aa.n;have:=HN.aa;omega));have HC:=cV hc;go_wp2_with fail
    refine HS.aa.mono ?_;rintro e z⟨rfl,ht⟩;have HX:=cV<|HR.aa.step HTL.aa HFO.aa HC.aa ht;go_wp2
    go_roundg k2
    case measure=>omega
    case rel=>
     obtain⟨S2,sv2,mv2,V2,h2⟩:=HX.aa
     grind
def sT(o:Option Fz):Nat:=match o with
 |some F=>F.aE
 |none=>2
def px(o:Option Fz):Nat:=match o with
 |some F=>F.ac
 |none=>0
def Hq(o:Option Fz):BA:=match o with
 |some F=>F.aa
 |none=>⟨#[]⟩
def Kx(o:Option Fz):Qy o=iy (sT o) (px o) (Hq o) dL:=by cases o<;>rfl
def lD(T T':TS)(st:Nat):TS:=if st=0 then T' else CY T' T.ch.length T.ay.length
def TTo.trTo(G:∀k,bi U T V k->k<w.heap.size)(D:Kb S1 w x)(Q:∀k∈S1,k∈S\/bi U T V k)(R:∀k,bi U T1 V1 k->bi U T V k\/w.heap.size<=k)(Y:V1.n<=V.n+m)(J:V1.ab=V.ab)(h:TTo O U T1 V1 T2 m' x y):cj O U T T2 V S (m+m') w y:=by
 let⟨L,S2,E,Z,I,k4,P,k6⟩:=h;refine⟨L,S1++S2.filter (λk=>decide (k<w.heap.size)),E,(D.mono<|λi b=>Xw _ b).trans I<|λi b=>?_,λi b=>?_,λi b=>?_,wq,k6.trans J⟩
 .grind
 .grind
 rcases P i b with e|e
 .grind
 exact A4<|By D.size e
def KB{o:Option Fz}(amt fr Z:Nat)(w:WD)(h:FT O H U F T S X C V w)(hc:Chain2 k m F (fU T amt fr Z) o T')(hso:sT o<=255)(hn:V.n+4+m<800000000000)(e6:T'.ch.length<10000000)(hl:T.ch.length<999999990)(e2:T.ch.length<=T'.ch.length)(d4:T.ay.length<=T'.ay.length)(e0:∀c∈T'.ch,c.kind<3):cP 61 #[pt U,pt H,wv amt,wv fr,wv Z] w λe w'=>e=.returned (iy (sT o) (px o) (Hq o) dL)/\cj O U T (lD T T'<|sT o) V S (4+m+2*(T'.ch.length-T.ch.length)) w w':=by
 have hB:bW w (wk4 w amt fr Z):=ai (ai (ai (ai (dO _ w) _) _) _) _;have r:=h.below hB;have HM:=cV<|NS r.tr;have HH:=cV r;have HB:=cV hB;have HC:=cV hc;have HN:=cV hn;have HCL:=cV e6;have HL:=cV hl;have HCH:=cV e2;have HLO:=cV d4;have HKD:=cV e0;have e5:=cV<|Kx o;have HF:=cV h.aH;have f:Hd (∀k,bi U T V k->k<w.heap.size):=λk l=>h.tr.lt l;let⟨u,e7⟩:=dP<|sT o;let⟨E,b⟩:=dP<|px o;let⟨aa,q⟩:=dP<|Hq o;rw[<-e7.aa]at hso;rw[<-e7.aa,<-b.aa,<-q.aa]at e5⊢;let⟨T2,a9⟩:=dP<|lD T T' u;rw[<-a9.aa];clear e2 d4 e0;clear h r hB hc hn hl e6;go_enter func61,ntmps61;go_wp2_with fail
 refine HM.mono ?_;rintro e J⟨rfl,b⟩;have c9:=HB.aa.trans<|b.mono HB.size;have a4:w.heap.size+1+1+1+1<=J.heap.size:=by have:=b.size;simp_all
 have r0:eI J w.heap.size amt:=cY (cY (cY (cY (jf w amt)<|ai (dO _ _)<|wc fr)<|ai (dO _ _)<|wc Z)<|ai (dO _ _) zd) b;have r1:eI J (w.heap.size+1) fr:=by have:=cY (cY (cY (jf _ fr)<|ai (dO _ _)<|wc Z)<|ai (dO _ _) zd) b;rw[show(w.alloc<|wc amt).heap.size=w.heap.size+1 by simp]at this;exact this
 have r2:eI J (w.heap.size+1+1) Z:=by have:=cY (cY (jf _ Z)<|ai (dO _ _) zd) b;rw[show((w.alloc<|wc amt).alloc<|wc fr).heap.size=w.heap.size+1+1 by simp]at this;exact this
 have e3:ResAt J (w.heap.size+1+1+1) 0 0 ⟨#[]⟩ dL:=by
  have q:ResAt (wk4 w amt fr Z) (w.heap.size+1+1+1) 0 0 ⟨#[]⟩ dL:=by unfold ResAt;simp[go_sem]
  exact q.below b
 have L:bW J (J.alloc<|.cells #[iI T.ch.length,iI T.ay.length] 186):=ai (dO _ J) _;have r:=(HH.below b).below L;have e1:=cV (Nt amt fr Z r.tr HL (by have:=HN.aa;omega));let⟨a0,a1,a2,a3⟩:=cW<|cY r0 L;let⟨b0,b1,b2,b3⟩:=cW<|cY r1 L;let⟨d0,d1,d2,d3⟩:=cW<|cY r2 L;have HRS:=cV<|e3.below L;have q:=cV r;have N:Hd (bW w<|J.alloc<|.cells #[iI T.ch.length,iI T.ay.length] 186):=ai c9 _;have b9:Hd (w.heap.size+1+1+1+1<=(J.alloc<|.cells #[iI (T.ch.length:Int),iI (T.ay.length:Int)] 186).heap.size):=By a4 L.size;let⟨Q,c8⟩:=dP J.heap.size;have d8:Hd ((J.alloc<|.cells #[iI T.ch.length,iI T.ay.length] 186).cell? ⟨Q,0,none⟩=some (iI T.ch.length)/\(J.alloc<|.cells #[iI T.ch.length,iI T.ay.length] 186).cell? ⟨Q,1,none⟩=some (iI T.ay.length)/\w.heap.size<=Q/\Q<(J.alloc<|.cells #[iI T.ch.length,iI T.ay.length] 186).heap.size):=by show _/\_/\_/\_;rw[c8.aa];refine⟨by simp[go_sem],by simp[go_sem],wq,K2⟩
 clear b c9 L r e3 r0 r1 r2 HM HH a4;go_wp2_with fail
 refine e1.mono ?_;rintro e b⟨rfl,A⟩;obtain⟨S3,r,r,V3,j1,j2,j3,j4,j5,j6⟩:=q.aa.aC A;have j:=cV (Ni b j1 HC (by have:=HN.aa;omega));have a5:∀k∈S3,k<w.heap.size\/(J.alloc<|.cells #[iI (T.ch.length:Int),iI (T.ay.length:Int)] 186).heap.size<=k:=λk l=>(j3 k l).imp (HF k) id;have Y:∀k,bi U _ V3 k->k<w.heap.size\/(J.alloc<|.cells #[iI (T.ch.length:Int),iI (T.ay.length:Int)] 186).heap.size<=k:=λk l=>(j4 k l).imp (f k) id;have a6:ResAt b (w.heap.size+1+1+1) 0 0 ⟨#[]⟩ dL:=by
  let⟨Sk,q,r⟩:=j2;refine HRS.kb q λR=>?_;rcases r _ R with e|e
  .have:=HF.aa _ e;omega
  have:=f.aa _ e;omega
 have b7:=cV a6;have HM3:Hd (cL b Q 0 (iI T.ch.length)/\cL b Q 1 (iI T.ay.length)/\Q<b.heap.size):=by
  let⟨Sk,q,r⟩:=j2;let⟨c0,c1,c2,c3⟩:=d8.aa;have g:=q.block Q c3 (λR=>by
   rcases r _ R with e|e
   .have:=HF.aa _ e;omega
   have:=f.aa _ e;omega)
  exact⟨(Xc (a:=⟨Q,0,none⟩) g).trans c0,(Xc (a:=⟨Q,1,none⟩) g).trans c1,Xg c3 q.size⟩
 have d9:Hd _:=By b9 (by let⟨Sk,q,r⟩:=j2;exact q.size);have b6:Hd (∀y,cj O U (fU T amt fr Z) T' V3 S3 m b y->∃p S9,Tr O U T' p y/\¬bi U T' p (w.heap.size+1+1+1)/\Kb S9 w y/\(∀k∈S9,k∈S\/bi U T V k)/\(∀k,bi U T' p k->bi U T V k\/w.heap.size<=k)/\p.n<=V.n+(4+m)/\p.ab=V.ab):=by
  rintro y⟨V2,Sk,k1,k2,b,k4,k5,k6⟩;let⟨S2,q,r,q3,q4,q5⟩:=To2.cJ (O:=O) (λk l=>Xg (f k l) N.size) (λk l=>Xg (HF k l) N.size) j2 j3 j4 j5 j6 k2 b k4 k5 k6;refine⟨V2,S2,k1,λhf=>?_,(Kb.h N).trans q<|λi b=>LZ b,r,λk l=>(q3 k l).imp id<|λh=>By N.size h,q4,q5⟩;have hs:=b9.aa;have b:=d9.aa;rcases k4 _ hf with e|e
  .rcases Y _ e with e|e<;>omega
  omega
 have b:=cV<|aIn a5 Y;clear A j1 j2 j3 j4 j5 j6 a6 a5 Y e1 a0 a1 a2 a3 b0 b1 b2 b3 d0 d1 d2 d3 HC;go_wp2_with fail
 refine j.mono ?_;rintro e D⟨rfl,A⟩;have G:ResAt D (w.heap.size+1+1+1) 0 0 ⟨#[]⟩ dL:=by
  let⟨p,S9,_,q,r,_⟩:=A;refine b7.kb q λR=>?_;have hs:=b9.aa;rcases r _ R with e|e
  .rcases b.aa.1 _ e with e|e<;>omega
  rcases b.aa.2 _ e with e|e<;>omega
 obtain⟨p0,p1,p2⟩:cL D Q 0 _/\cL D Q 1 _/\Q<D.heap.size:=by
  let⟨c0,c1,c3⟩:=HM3.aa;let⟨p,S9,_,q,r,_⟩:=A;let⟨_,_,c4,c5⟩:=d8.aa;have g:=q.block Q c3 (λR=>by
   rcases r _ R with e|e
   .rcases b.aa.1 _ e with e|e<;>omega
   rcases b.aa.2 _ e with e|e<;>omega)
  exact⟨(Xc g).trans c0,(Xc g).trans c1,Xg c3 q.size⟩
 let⟨p,S9,x1,x2,b,x4,x5,x6,x7⟩:=b6.aa _ A;rw[e5.aa];have I:bW D (D.alloc<|.cells (ut u E aa dL) 38):=ai (dO _ D) _;have t:=x1.below I;have P:=G.below I;have HS4:Hd (w.heap.size+1+1+1<D.heap.size):=by show _<_;have h1:=d9.aa;let⟨_,_,_,q,_⟩:=A;have:=q.size;omega
 by_cases d6:u=0
 .subst d6;have P:ResAt (D.alloc<|.cells #[iB 0,iI (E:Int),.string aa,.slice none 0 0] 38) _ 0 0 ⟨#[]⟩ dL:=P;rw[show iy 0 E aa dL=.agg #[iB 0,iI (E:Int),.string aa,.slice none 0 0] from W];let⟨⟨k0,k1,k2,k3⟩,f0,f1,f2,f3⟩:=P;have HR5:Hd (ResAt (gB (D.alloc<|.cells #[iB 0,iI (E:Int),.string aa,.slice none 0 0] 38) _ 0 E aa dL) _ 0 E aa dL):=(G.below<|ai (dO _ D) _).put;have b8:Hd (cj O U T T2 V S (4+m+2*(T'.ch.length-T.ch.length)) w<|gB (D.alloc<|.cells #[iB 0,iI (E:Int),.string aa,.slice none 0 0] 38) (w.heap.size+1+1+1) 0 E aa dL):=by show cj _ _ _ _ _ _ _ _ _;rw[a9.aa];unfold lD;rw[At W];exact⟨p,S9,t.kb (jE (Kb.refl [w.heap.size+1+1+1] _) AI) (λk l hf=>x2 (by simp at l;rw[<-l];exact hf)) K2,jE (b.alloc _)<|A4 wq,x4,x5,wq,x7⟩
  clear A G b6 b7 j x1 x2 b x4 x5 x6 x7 t I p0 p1;go_wp2;change bodyPost prog f61 _ _ _ (gB (D.alloc<|.cells #[iB 0,iI (E:Int),.string aa,.slice none 0 0] 38) (w.heap.size+1+1+1) 0 E aa dL);generalize gB (D.alloc<|.cells #[iB 0,iI (E:Int),.string aa,.slice none 0 0] 38) (w.heap.size+1+1+1) 0 E aa dL=z at*;let⟨⟨y0,y1,y2,y3⟩,_⟩:=HR5.aa;refine sp (v:=.agg #[iB 0,iI (E:Int),.string aa,.slice none 0 0]) (by simp[results,results61,go_sem,y0,y1,y2,y3]) W ⟨W,b8⟩
 have hd:(!((u:Int)==0))=true:=N3
 have hd2:((u:Int)==0)=false:=N3
 have m0:=(I.cell<|by exact p2).trans p0;have m1:=(I.cell<|by exact p2).trans p1;have d5:=cV (BN T.ch.length T.ay.length t HCH HLO HKD (by have:=HN.aa;have:=HCL.aa;omega));let⟨⟨k0,k1,k2,k3⟩,f0,f1,f2,f3⟩:=P;have HX:=cV<|aIn x2<|aIn b<|aIn x4<|aIn x5<|aIn x6 x7;have HXL:Hd (∀k,bi U T' p k->k<D.heap.size):=λk l=>x1.lt l;have a8:=cV<|G.below I;have e4:=cV I;have a7:Hd ((D.alloc<|.cells (ut u E aa dL) 38).heap.size=D.heap.size+1):=by show _=_;simp
 have d7:Hd ((D.alloc<|.cells (ut u E aa dL) 38).cell? ⟨D.heap.size,0,none⟩=some (iB (u:Int))/\(D.alloc<|.cells (ut u E aa dL) 38).cell? ⟨D.heap.size,1,none⟩=some (iI (E:Int))/\(D.alloc<|.cells (ut u E aa dL) 38).cell? ⟨D.heap.size,2,none⟩=some (.string aa)/\(D.alloc<|.cells (ut u E aa dL) 38).cell? ⟨D.heap.size,3,none⟩=some dL):=by show _/\_/\_/\_;refine⟨?_,?_,?_,?_⟩<;>simp[go_sem]
 rw[c8.aa]at m0 m1;clear A G b6 b7 j x1 x2 b x4 x5 x6 x7 t I p0 p1;go_wp2_with fail
 refine d5.mono ?_;rintro e w5⟨rfl,K⟩;let⟨V10,S10,y1,y2,y3,y4,y5,y6⟩:=id K;have hs4:=HS4.aa;have d:=y3.block D.heap.size (by rw[a7.aa];omega)<|λR=>absurd (HXL _<|y4 _ R)<|Yg _;let⟨z0,z1,z2,z3⟩:=d7.aa;have z0:=(Xc d).trans z0;have z1:=(Xc d).trans z1;have z2:=(Xc d).trans z2;have z3:=(Xc d).trans z3;have s:=a8.aa.kb y3<|λR=>HX.1<|y4 _ R;have HR6:Hd (ResAt (gB w5 (w.heap.size+1+1+1) u E aa dL) _ u E aa dL):=s.put;have b8:Hd (cj O U T T2 V S (4+m+2*(T'.ch.length-T.ch.length)) w<|gB w5 (w.heap.size+1+1+1) u E aa dL):=by
  show cj _ _ _ _ _ _ _ _ _;rw[a9.aa];unfold lD;rw[iF d6];let⟨x2,b,x4,x5,x6,x7⟩:=HX.aa;obtain⟨V11,S11,q,r,q3,q4,q5,q⟩:=TTo.trTo f (b.below e4) x4 x5 x6 x7 K;let⟨q,S12,r1,r2,r3,r4,r5,r6⟩:=K;refine⟨q,S11,r1.kb (jE (Kb.refl [w.heap.size+1+1+1] _) AI) (λk l hf=>?_) K2,jE r<|A4 wq,q3,λk l=>?_,?_,r6.trans x7⟩
  .simp at l;subst l;rcases r5 _ hf with e|e
   .exact x2 e
   rw[a7.aa]at e;omega
  .rcases r5 k l with e|e
   .exact x5 k e
   exact A4<|By (By b.size e4.size) e
  omega
 clear K y1 y2 y3 y4 y5 y6 d;let⟨⟨k0,k1,k2,k3⟩,f0,f1,f2,f3⟩:=s;clear d5 d7 m0 m1 a8;go_wp2;change bodyPost prog f61 _ _ _ (gB w5 (w.heap.size+1+1+1) u E aa dL);generalize gB w5 (w.heap.size+1+1+1) u E aa dL=z at*;let⟨⟨y0,y1,y2,y3⟩,_⟩:=HR6.aa;refine sp (by simp[results,results61,go_sem,y0,y1,y2,y3]) W ⟨W,b8⟩
end
section
variable {aa:BA}
structure Res where
 st:Nat
 ac:Nat
 aa:BA
abbrev Wk:=Fz->TS->Nat->Nat->Nat->Res×TS
def eu(J asked Z v:Nat)(data:BA)(F:Fz)(T:TS):Fz:={oC F 0 J Z v (T.aw Z).ae undef with aC:=undef,data:=data,ac:=eA F asked}
def um(wk:Wk)(J asked Z v:Nat)(data:BA)(c d:Nat)(F:Fz)(T:TS):Option (TS×Fz):=
 if jV F T v=true then
  (ji {F with ac:=F.ac-eA F asked} (wk (eu J asked Z v data F T) T v F.ak Z).1.st (wk (eu J asked Z v data F T) T v F.ak Z).1.ac (wk (eu J asked Z v data F T) T v F.ak Z).1.aa c d).map λy=>((wk (eu J asked Z v data F T) T v F.ak Z).2,y.2)
 else(dB 0 F).map λy=>(T,y.2)
def dI(l:Vf):BA:=⟨l.toArray⟩
def mF(wk:Wk)(J asked Z v dp dl rp rl:Nat)(F:Fz)(T:TS):Option (TS×Fz):=match dC dp dl F with
 |none=>none
 |some ((a,b),F2)=>match dC rp rl F2 with
  |none=>none
  |some ((c,d),F3)=>um wk J asked Z v (dI<|dM F2.mem a b) c d {F3 with ret:=⟨#[]⟩} T
def pd(v:Nat)(F:Fz):Option (Unit×Fz):=if v%M=0 then some ((),F)else if F.ro=true then none else im 900 F
def CP(wk:Wk)(J asked Z v dp dl rp rl:Nat)(F:Fz)(T:TS):Option (TS×Fz):=match pd v F with
 |none=>none
 |some (_,F1)=>mF wk J asked Z v dp dl rp rl F1 T
def oK(J:Nat)(F:Fz):Fz:=A1<|eZ J<|eb F
def jj(wk:Wk)(J:Nat)(F:Fz)(T:TS):Option (TS×Fz):=
 dX (db F) (dX (db<|A1<|db F)<|dX (eZ J<|eb F)<|
 dX (db<|oK J F) (dX (db<|A1<|db<|oK J F)<|
 dX (db<|eb<|oK J F) (dX (db<|A1<|db<|eb<|oK J F)<|
  CP wk J (eP F) (eV F) (dV<|eZ J<|eb F) (eP<|oK J F) (eV<|oK J F) (eP<|eb<|oK J F) (eV<|eb<|oK J F) (eb<|eb<|oK J F) T)))
def lY(r:Option<|TS×Fz):Option (Fz×TS):=r.map λy=>(y.2,y.1)
structure Keep(F F':Fz):Prop where
 aC:F'.aC=F.aC
 ak:F'.ak=F.ak
 ax:F'.ax=F.ax
 value:F'.value=F.value
 ro:F'.ro=F.ro
 depth:F'.depth=F.depth
 ac:F'.ac<=F.ac
def Keep.of(h:Same F F'):Keep F F':=⟨h.aC,h.ak,h.ax,h.value,h.ro,h.depth,Ze h.ac⟩
theorem Keep.trans(h:Keep F G)(k:Keep G Hq9):Keep F Hq9:=⟨k.aC.trans h.aC,k.ak.trans h.ak,k.ax.trans h.ax,k.value.trans h.value,k.ro.trans h.ro,k.depth.trans h.depth,By k.ac h.ac⟩
def Qs(F:Fz)(c:Nat):Keep F {F with ac:=F.ac-c}:=⟨W,W,W,W,W,W,ZF _ _⟩
theorem FB{u:Unit}(h:jH n F=some (u,F1)):Keep F F1:=by
 unfold jH at h;split at h
 .obtain⟨_,rfl⟩:=Xi<|hV h;exact⟨W,W,W,W,W,W,DO _⟩
 unfold im at h;split at h
 .cases h
 rename_i D;split at D
 .cases D
 obtain⟨_,rfl⟩:=Xi<|hV D;obtain⟨_,rfl⟩:=Xi<|hV h;exact⟨W,W,W,W,W,W,ZF _ _⟩
def nw{q:Nat×Nat}(h:dC p n F=some (q,F1)):Keep F F1:=by
 unfold dC at h;split at h
 .obtain⟨_,rfl⟩:=Xi<|hV h;exact⟨W,W,W,W,W,W,DO _⟩
 grind[Xi,hV,FB]
def zT{q:Nat×Nat}(h:dC p n F=some (q,F1)):F1.st=F.st:=by grind[dC,jH,im]
theorem oA(F:Fz):(A1<|db F).st.length<=F.st.length-1:=by
 unfold db;split
 .exact In _
 grind[A1]
def RV(J:Nat):(A1<|eZ J F).st.length<=F.st.length:=by
 unfold eZ;split
 .grind[By,oA,ZF]
 exact DO _
structure Wbx(S:Tl)(x:WD)(b n:Nat):Prop where
 no:b∉S
 row:eI x b n
def Wbx.step(h:Wbx S x b n)(E:Kb S x y)(I:∀j∈S',j∈S\/x.heap.size<=j):Wbx S' y b n:=⟨λD=>(I b D).elim h.no (λe=>by have:=h.row.lt;omega),E.row h.row h.no⟩
def Wbx.below(h:Wbx S x b n)(D:bW x y):Wbx S y b n:=⟨h.no,cY h.row D⟩
def Js{L:Vr}(I:tG s t<|iI (a:Int))(E:tG s u<|iI (b:Int))(P:b<=a)(ha:a<=10000000)(D:K (Wb s d<|iI ((a-b:Nat):Int)) x):Oper.wp prog ⟨some d,.binOp .sub 3 (.tmp t) (.tmp u) 3,L,pos,af,gd⟩ s x K Q:=by
 have e:((a-b:Nat):Int)=a-b:=wq
 rw[e]at D;have L:IntKind.i64.wrap (a-b)=a-b:=by grind[IntKind.wrap,IntKind.bits,IntKind.signed]
 go_simp;exact D
def Dl{u:Unit}(h:ji F st g aa a b=some (u,F')):F'.aC=F.aC:=by
 unfold ji dB at h;split at h
 .cases h
 obtain⟨_,rfl⟩:=Xi<|hV h;rfl
def WakeOk(wk:Wk)(m:Nat)(G:Fz)(T:TS)(v fr Z:Nat):=(wk G T v fr Z).1.ac<=G.ac/\(wk G T v fr Z).1.st<=255/\∀(O gb U:Nat)(jd:VL)(V:TV)(x:WD),FT O gb U {G with aC:=pt U,jd:=jd} T [gb] dL dL V x->V.n+m<800000000000->
 cP 61 #[pt U,pt gb,wv v,wv fr,wv Z] x λe x'=>e=.returned (iy (wk G T v fr Z).1.st (wk G T v fr Z).1.ac (wk G T v fr Z).1.aa dL)/\cj O U T (wk G T v fr Z).2 V [gb] m x x'
def IX(h:Bd F):Bd (A1<|eZ J F):=by
 unfold eZ;split
 .exact lO h
 exact h
def Ko(h:100000<G.ac\/Same F G):100000<(A1<|eZ J G).ac\/Same F (A1<|eZ J G):=by
 unfold eZ;split
 .exact fy h
 exact h
def FT.kb{Zq9:Tl}(h:FT O H U F T S X C V w)(Y:Kb Zq9 w w')(hz:∀k∈Zq9,k∉S/\¬bi U T V k/\k≠0/\∃N f,w.rowIs k 137 N f):FT O H U F T S X C V w':=⟨h.fr.kb Y (λk D I=>(hz k I).1 D) (λD=>(hz 0 D).2.2.1 W) (λg N f Z D=>by let⟨L,P,E⟩:=(hz g D).2.2.2;exact jT Z E tb3 W),h.tr.kb Y (λk D=>(hz k D).2.1)<|λD=>(hz 0 D).2.2.1 W,h.ptr,h.bs⟩
def AfterW(O H U:Nat)(F7:Fz)(T T':TS)(S S5:Tl)(sv5 mv5:VL)(V:TV)(m:Nat)(w x:WD):=∃V',FT O H U F7 T' S5 sv5 mv5 V' x/\KF S U T V w x/\(∀k,bi U T' V' k->bi U T V k\/w.heap.size<=k)/\V'.n<=V.n+m/\V'.ab=V.ab
def PhV(O H U:Nat)(F7 F8:Fz)(T T':TS)(S S5:Tl)(sv5 mv5:VL)(V:TV)(m:Nat)(w x11:WD):Nat->X4
 |0,x=>bW x11 x
 |1,x=>AfterW O H U F7 T T' S S5 sv5 mv5 V m w x
 |_,x=>To2 O H U F8 T T' V S m w x
def KF.below(h:KF S U T V w x)(I:bW x y):KF S U T V w y:=by let⟨S2,E,D⟩:=h;exact⟨S2,E.below I,D⟩
def TA{R L:Fz}{P:Tl}{E I:VL}{D:WD}(k:Nat)(x x':WD)(h:PhV O H U R L T T' S P E I V m w D k x)(Y:bW x x'):PhV O H U R L T T' S P E I V m w D k x':=by
 match k,h with
 |0,h=>exact(h).trans<|Y.mono (h).size
 |1,⟨V',h1,h2,h3⟩=>exact⟨V',h1.below Y,h2.below Y,h3⟩
 |_+2,⟨S',sv',mv',V',h1,h2,h3⟩=>exact⟨S',_,_,V',h1.below Y,h2.below Y,h3⟩
def wh{R L:Fz}{P:Tl}{E I:VL}{D:WD}(h:PhV O H U R L T T' S P E I V m w D k x)(Y:k<=0):bW D x:=by
 cases(wq:k=0)
 exact h
def AfterW.of{o:Fz}{Y:Tl}{L P:VL}(D:FT O H U o T Y L P V x)(I:Kb S w x)(c:∀k,bi U T V k->k<w.heap.size)(c:w.heap.size<=gb)(hg5:gb∉Y)(c:gb≠0)(j:x.rowIs gb 137 N f)(h:cj O U T T' V [gb] m x x'):AfterW O H U o T T' S Y L P V m w x':=by
 let⟨l,c,A,z,Z,k4,q,k6⟩:=h;refine⟨l,⟨D.fr.kb z (λk E R=>?_) (λE=>?_)<|λg l l l E=>?_,A,D.ptr,λk E R=>?_⟩,⟨S++c.filter (λk=>decide (k<w.heap.size)),(I.mono<|λi c=>Xw _ c).trans z<|λi c=>?_,λi c=>?_⟩,λk c=>(k4 k c).imp id<|λh=>By I.size h,q,k6⟩
 .rcases Z k R with e|e
  .grind
  exact D.bs k E e
 .rcases Z 0 E with e|e
  .grind
  exact D.tr.bu e
 .rcases Z g E with e|e
  .rw[BY.1 e]at l;exact jT l j tb3 W
  exact D.tr.bO l e
 .rcases k4 k R with e|e
  .exact D.bs k E e
  have:=D.fr.aU k E;omega
 .grind
 grind
theorem call_I(wk:Wk)(J:Nat)(hop:J<=255)(w:WD)(h:FT O H U F T S X C V w)(hdl:F.depth<=1000)(hcs:∀a,(T.aw a).ae.size<=1000)
  (hwk:∀asked Z v data F',F'.depth=F.depth->F'.ro=F.ro->F'.ak=F.ak->F'.ax=F.ax->F'.value=F.value->F'.ac<=F.ac->data.size<=65536->jV F' T v=true->∀c d,jj wk J F T=(ji {F' with ac:=F'.ac-eA F' asked} (wk (eu J asked Z v data F' T) T v F'.ak Z).1.st (wk (eu J asked Z v data F' T) T v F'.ak Z).1.ac (wk (eu J asked Z v data F' T) T v F'.ak Z).1.aa c d).map (λy=>((wk (eu J asked Z v data F' T) T v F'.ak Z).2,y.2))->WakeOk wk m (eu J asked Z v data F' T) T v F'.ak Z)(hn:V.n+m<800000000000):
  Calls prog 244 #[.pointer<|some ⟨H,0,none⟩,.int .u8 (J:Int)] w (Out2 (lY<|jj wk J F T) O H U T V S m w):=by
 have HFT:=cV h;go_enter func244,ntmps244;go_wp2;refine Vd hop h.fr rfl rfl rfl ?_ ?_
 .intro u pv s x hno hd hk
  have e:jj wk J F T=none:=by
   rcases hno with e|e|e
   .exact dE (LZ e)
   .exact dE (A4<|dE<|LZ e)
   .exact dE (A4<|dE<|A4<|dE<|LZ e)
  refine⟨hd,?_⟩;rw[e];exact⟨⟨_,_,rfl⟩,hk⟩
 intro x S0 sv0 mv0 b0 b1 b2 hf0 hk0 hs0 n0 g0 r0 n1 g1 r1 n2 g2 r2;change Fr O H (oK J F) S0 sv0 mv0 x at hf0;have B0:Wbx S0 x b0 (eP F):=⟨n0,r0⟩;have B1:Wbx S0 x b1 (eV F):=⟨n1,r1⟩;have B2:Wbx S0 x b2 (dV<|eZ J<|eb F):=⟨n2,r2⟩;have hsm0:100000<(oK J F).ac\/Same F (oK J F):=Ko<|fy<|fy<|A4<|Same.refl F;have e0:∀r,dX _ (dX (db<|A1<|db F)<|dX (eZ J<|eb F) r)=(r:Option<|TS×Fz):=λr=>(ed λe=>gG (IX<|lO<|eD e) hf0).trans<|(ed λe=>gG (IX<|eD e) hf0).trans<|ed λe=>gG (eD e) hf0
 simp only[n8,sx9];clear n0 g0 r0 n1 g1 r1 n2 g2 r2 h;go_wp2;refine Cz hf0 ?_ ?_
 .intro u pv s y hno hd hk
  have e:jj wk J F T=none:=(e0 _).trans (by
   rcases hno with e|e
   .exact dE (LZ e)
   .exact dE (A4<|dE<|LZ e))
  refine⟨hd,?_⟩;rw[e];exact⟨⟨_,_,rfl⟩,hk0.trans hk hs0⟩
 intro x1 S1 sv1 mv1 b3 b4 hf1 hk1 hs1 n3 g3 r3 n4 g4 r4;change Fr O H (eb<|oK J F) S1 sv1 mv1 x1 at hf1;have B0:=B0.step hk1 hs1;have B1:=B1.step hk1 hs1;have B2:=B2.step hk1 hs1;have B3:Wbx S1 x1 b3 (eP _):=⟨n3,r3⟩;have B4:Wbx S1 x1 b4 (eV _):=⟨n4,r4⟩;have hk1:=hk0.trans hk1 hs0;have hs1:∀j∈S1,j∈S\/w.heap.size<=j:=λj hj=>(hs1 j hj).elim (hs0 j)<|λh=>A4<|By hk0.size h
 have e1:∀r,dX _ (dX (db<|A1<|db<|oK J F) r)=(r:Option<|TS×Fz):=λr=>(ed λe=>gG (lO<|eD e) hf1).trans<|ed λe=>gG (eD e) hf1
 simp only[n8,sx9];clear n3 g3 r3 n4 g4 r4 hf0 hk0 hs0;go_wp2;refine Cz hf1 ?_ ?_
 .intro u pv s y hno hd hk
  have e:jj wk J F T=none:=(e0 _).trans<|(e1 _).trans (by
   rcases hno with e|e
   .exact dE (LZ e)
   .exact dE (A4<|dE<|LZ e))
  refine⟨hd,?_⟩;rw[e];exact⟨⟨_,_,rfl⟩,hk1.trans hk hs1⟩
 intro x2 S2 sv2 mv2 b5 b6 hf2 hk2 hs2 n5 g5 r5 n6 g6 r6;change Fr O H (eb<|eb<|oK J F) S2 sv2 mv2 x2 at hf2;have B0:=B0.step hk2 hs2;have B1:=B1.step hk2 hs2;have B2:=B2.step hk2 hs2;have B3:=B3.step hk2 hs2;have B4:=B4.step hk2 hs2;have B5:Wbx S2 x2 b5 (eP _):=⟨n5,r5⟩;have B6:Wbx S2 x2 b6 (eV _):=⟨n6,r6⟩;have hk2:=hk1.trans hk2 hs1;have hs2:∀j∈S2,j∈S\/w.heap.size<=j:=λj hj=>(hs2 j hj).elim (hs1 j)<|λh=>A4<|By hk1.size h
 have e2:jj wk J F T=CP wk J _ _ (dV<|eZ J<|eb F) _ _ _ _ _ T:=
  (e0 _).trans ((e1 _).trans<|(ed λe=>gG (lO<|eD e) hf2).trans<|ed λe=>gG (eD e) hf2)
 have hsm:Same F (eb<|eb _):=(fy<|fy<|fy<|fy hsm0).resolve_left (λhb=>absurd hf2.aN (by have:(eb<|eb<|oK J F).ac=(A1<|db<|A1<|db<|A1<|db<|A1<|db<|oK J F).ac:=rfl;omega));simp only[n8,sx9]
 have HST:Hd ((eb<|eb<|oK J F).st.length<=1018):=by
  show _<=_;have h1:(A1<|db F).st.length<=F.st.length-1:=oA F;have h2:(eb F).st.length<=(A1 _).st.length-1:=oA _;have h3:(oK J F).st.length<=(eb F).st.length:=RV J;have h4:(A1 _).st.length<=(oK J F).st.length-1:=oA _;have h5:(eb<|oK J F).st.length<=(A1 _).st.length-1:=oA _;have h6:(A1 _).st.length<=(eb<|oK J F).st.length-1:=oA _;have h7:(eb<|eb<|oK J F).st.length<=(A1 _).st.length-1:=oA _;have h8:=HFT.aa.fr.aV;generalize(eb<|eb<|oK J F).st.length=a7 at*;generalize(A1<|db<|eb<|oK J F).st.length=a6 at*;generalize(eb<|oK J F).st.length=a5 at*;generalize(A1<|db<|oK J F).st.length=a4 at*;generalize(oK J F).st.length=a3 at*;generalize(eb F).st.length=a2 at*;generalize(A1<|db F).st.length=a1 at*;omega
 have HE:=cV e2;clear n5 g5 r5 n6 g6 r6 hf1 hk1 hs1 e0 e1 e2 hsm0;generalize(eb<|eb<|oK J F)=Fq at*;generalize eP (eb<|oK J F)=rp at*;generalize eV (eb<|oK J F)=rl at*;generalize eP (oK J F)=dp at*;generalize eV (oK J F)=dl at*;generalize dV (eZ J<|eb F)=v at*;generalize eV F=Z at*;generalize eP F=asked at*;generalize jj wk J F T=R at*;have hez:=pJ v;obtain⟨z0,z1,z2,z3⟩:_/\_/\_/\_:=⟨hf2.zr 0 wq,hf2.zr 1 wq,hf2.zr 2 wq,hf2.zr 3 wq⟩;obtain⟨c0,c1,c2,c3⟩:=cW B2.row;obtain⟨d0,d1,d2,d3⟩:=cW B3.row;obtain⟨f0,f1,f2,f3⟩:=cW B4.row;by_cases hv:v%M=0
 case' pos=>
  have hkp:=Keep.of hsm
  have HEZ:Hd (R=mF wk J asked Z v dp dl rp rl Fq T):=by
   show R=_;rw[HE.aa];unfold CP pd;rw[At hv]
  rw[mw hv]at hez;clear HE hsm hv;go_wp2_with fail
  have hf3:=hf2;clear hf2;obtain⟨x3,rfl⟩:=hJ x2
 case' neg=>
  rw[kV hv]at hez;have HMC:=cV<|qj x2 hf2
  have HEZ:Hd (R=if Fq.ro=true then none else match im 900 Fq with|none=>none|some (_,F1)=>mF wk J asked Z v dp dl rp rl F1 T):=by
   show R=_;rw[HE.aa];unfold CP pd;rw[iF hv];by_cases hr:Fq.ro=true
   .rw[At hr,At hr]
   .rw[iF hr,iF hr]
  have HPY:=cV<|Qd 900 wq x2 hf2;clear HE hv;go_wp2_with fail
  refine HMC.aa.mono ?_;rintro e x3⟨h1,hx3⟩;cases hx3.symm;clear hx3;by_cases hro:Fq.ro=true
  case pos=>
   rw[At hro]at h1;obtain⟨u,pv,rfl⟩:=h1;have e:=HEZ.aa.trans<|At hro;refine⟨rfl,?_⟩;rw[e];exact⟨⟨_,_,rfl⟩,hk2⟩
  rw[iF hro]at h1;subst h1;have HEZ:Hd (R=match im _ Fq with|none=>none|some (_,F1)=>mF wk J _ Z v dp dl rp rl F1 T):=HEZ.aa.trans<|iF hro;clear hro;go_wp2_with fail
  refine HPY.aa.mono ?_;intro e x3 hp;have hpf:im _ Fq=if Fq.ac<900 then none else some ((),{Fq with ac:=Fq.ac-900}):=rfl
  by_cases hg:Fq.ac<900
  case pos=>
   rw[At hg]at hp hpf;rw[hpf]at HEZ;obtain⟨⟨u,pv,rfl⟩,hk⟩:=hp;have e:R=none:=HEZ.aa;refine⟨rfl,?_⟩;rw[e];exact⟨⟨_,_,rfl⟩,hk2.trans hk K2⟩
  rw[iF hg]at hp hpf;rw[hpf]at HEZ;obtain⟨rfl,hf3,hk3⟩:=hp;have hfbS:∀i∈[H],i∈S2:=λi hi=>by rw[BY.1 hi,hf2.aH];simp
  have hk3:=hk3.mono hfbS;have hkp:Keep F {Fq with ac:=Fq.ac-900}:=(Keep.of hsm).trans<|Qs Fq 900;have B0:=B0.step hk3<|λj hj=>LZ hj;have B1:=B1.step hk3<|λj hj=>LZ hj;have B2:=B2.step hk3<|λj hj=>LZ hj;have B3:=B3.step hk3<|λj hj=>LZ hj;have B4:=B4.step hk3<|λj hj=>LZ hj;have B5:=B5.step hk3<|λj hj=>LZ hj;have B6:=B6.step hk3<|λj hj=>LZ hj;have hk2:=hk2.trans hk3 hs2;have HEZ:Hd (R=mF wk J _ Z v dp dl rp rl {Fq with ac:=Fq.ac-900} T):=HEZ;have HST:Hd (({Fq with ac:=Fq.ac-900}:Fz).st.length<=1018):=HST;clear hk3 hf2 HPY HMC hpf hg hsm hfbS c0 c1 c2 c3 d0 d1 d2 d3 f0 f1 f2 f3 z0 z1 z2 z3;generalize({Fq with ac:=Fq.ac-900}:Fz)=Fq at*;obtain⟨d0,d1,d2,d3⟩:=cW B3.row;obtain⟨f0,f1,f2,f3⟩:=cW B4.row;go_wp2_with fail
 all_goals(
  refine(nC dp dl x3 hf3).mono ?_;intro e x4 ho;cases hq:dC dp dl Fq with
  |none=>
   rw[hq]at ho;obtain⟨⟨u,pv,rfl⟩,hk⟩:=ho;have e:R=none:=by rw[HEZ.aa];unfold mF;rw[hq]
   refine⟨rfl,?_⟩;rw[e];exact⟨⟨_,_,rfl⟩,hk2.trans hk hs2⟩
  |some z=>
   obtain⟨⟨a,b⟩,F4⟩:=z;rw[hq]at ho;obtain⟨vv,S4,sv4,mv4,rfl,hf4,hk4,hs4,hpo⟩:=ho;have hlen:=iC hq hf3.aT;have hkp4:=hkp.trans<|nw hq;have HST4:Hd (F4.st.length<=1018):=by show F4.st.length<=1018;rw[zT hq];exact HST.aa
   have hstr:=(hpo.bD hf4.me hlen).bJ
   have hdl9:(dI<|dM F4.mem a b).size<=65536:=by
    have:=vg hlen;have:=hf4.bv;show(dM F4.mem a b).length<=65536;omega
   have HEZ4:Hd (R=match dC rp rl F4 with|none=>none|some ((c,d),F5)=>um wk J asked Z v (dI<|dM F4.mem a b) c d {F5 with ret:=⟨#[]⟩} T):=by
    show R=_;rw[HEZ.aa];unfold mF;rw[hq]
   change (convert 26 9 vv).run prog x4=.ok (.string<|dI<|dM F4.mem a b) x4 at hstr;generalize dI (dM F4.mem a b)=dat at*;obtain⟨adv,cv,rfl, -⟩:=hpo;have C0:=B0.step hk4 hs4;have C1:=B1.step hk4 hs4;have C2:=B2.step hk4 hs4;have C5:=B5.step hk4 hs4;have C6:=B6.step hk4 hs4;have hk4:=hk2.trans hk4 hs2;have hs4:∀j∈S4,j∈S\/w.heap.size<=j:=λj hj=>(hs4 j hj).elim (hs2 j) (λh=>A4<|By hk2.size h)
   clear B0 B1 B2 B3 B4 B5 B6 hk2 hs2 hf3 HEZ hq hkp hlen hez d0 d1 d2 d3 f0 f1 f2 f3;obtain⟨d0,d1,d2,d3⟩:=cW C5.row;obtain⟨f0,f1,f2,f3⟩:=cW C6.row;go_wp2_with fail
   refine(nC rp rl x4 hf4).mono ?_;intro e x5 ho;cases hq2:dC rp rl F4 with
   |none=>
    rw[hq2]at ho HEZ4;obtain⟨⟨u,pv,rfl⟩,hk⟩:=ho;have e:R=none:=HEZ4.aa;refine⟨rfl,?_⟩;rw[e];exact⟨⟨_,_,rfl⟩,hk4.trans hk hs4⟩
   |some z2=>
    obtain⟨⟨c,d⟩,F5⟩:=z2;rw[hq2]at ho HEZ4;obtain⟨room,S5,sv5,mv5,rfl,hf5,hk5,hs5,hpo5⟩:=ho;have hkp5:=hkp4.trans<|nw hq2;have HST6:Hd (({F5 with ret:=⟨#[]⟩}:Fz).st.length<=1018):=by show F5.st.length<=1018;rw[zT hq2];exact HST4.aa
    obtain⟨adr,cr,rfl,hpr⟩:=hpo5;have HPR:Hd (PartOf _ _ c d):=⟨_,cr,rfl,hpr⟩;have C0:=C0.step hk5 hs5;have C1:=C1.step hk5 hs5;have C2:=C2.step hk5 hs5;have hk5:=hk4.trans hk5 hs4;have hs5:∀j∈S5,j∈S\/w.heap.size<=j:=λj hj=>(hs5 j hj).elim (hs4 j) (λh=>A4<|By hk4.size h)
    have cr1:=hf5.row.cell (i:=21) K3;have fr1:=hf5.row.frozen 21;change _=some (Value.string F5.ret)at cr1;have hfb5:H∈S5:=by rw[hf5.aH];simp
    have hkc:Kb _ x5 (x5.setCell ⟨H,21,none⟩<|.string ⟨#[]⟩):=(Kb.refl [H] x5).setCell AI _;have hf6:Fr O H {F5 with ret:=⟨#[]⟩} S5 sv5 mv5 (x5.setCell ⟨H,21,none⟩<|.string ⟨#[]⟩):=hf5.cc (F':={F5 with ret:=⟨#[]⟩}) rfl rfl rfl rfl hf5.aN (kF hf5.row<|Du _ _) hkc;have hkc:=hkc.mono (λi hi=>by rw[BY.1 hi];exact hfb5);have C0:=C0.step hkc<|λj hj=>LZ hj;have C1:=C1.step hkc<|λj hj=>LZ hj;have C2:=C2.step hkc<|λj hj=>LZ hj;have hk6:=hk5.trans hkc hs5;have hkp6:Keep F {F5 with ret:=⟨#[]⟩}:=hkp5.trans ⟨rfl,rfl,rfl,rfl,rfl,rfl,DO _⟩;have HEZ6:Hd (R=um wk J _ Z v _ c d {F5 with ret:=⟨#[]⟩} T):=HEZ4.aa;obtain⟨F6,HF6⟩:∃F6:Fz,Hd (F6={F5 with ret:=⟨#[]⟩}):=⟨_,rfl⟩;obtain⟨x6,HX6⟩:=dP<|x5.setCell ⟨H,21,none⟩<|.string ⟨#[]⟩;rw[<-HF6.aa]at hf6 hkp6 HEZ6 HST6;have hne2:b2≠H:=λe=>C2.no (by rw[e];exact hfb5)
    have hne2':H≠b2:=λe=>hne2 e.symm
    obtain⟨q0,q1,q2,q3⟩:=cW C2.row;rw[<-HX6.aa]at hf6 hk6 C0 C1 C2;have hft:=HFT.aa.next hkp6.aC hf6 hk6 hs5;have HMAY:=cV (Et v x6 hft (by rw[hkp6.depth];exact hdl));have HC0:=cV C0;have HC1:=cV C1;have HC2:=cV C2;have HFT6:=cV hft;have HK6:=cV hk6;have HS6:=cV hs5;have HKP:=cV hkp6;clear hkc hf6 hf5 hk5 hs5 hkp5 hkp6 hk6 C0 C1 C2 hft HEZ4 hq2 hpr hf4 hk4 hs4 hkp4 d0 d1 d2 d3 f0 f1 f2 f3 hfb5;go_wp2_with fail
    rw[<-HX6.aa];refine HMAY.aa.mono ?_;rintro e x7⟨rfl,hb7⟩;have hft7:=HFT6.aa.below hb7;have HK7:Hd _:=HK6.aa.below hb7;have C0:=HC0.aa.below hb7;have C1:=HC1.aa.below hb7;have C2:=HC2.aa.below hb7;clear hb7 q0 q1 q2 q3 HMAY HC0 HC1 HC2 HFT6 HK6 hne2 hne2' HX6 cr1 fr1;cases hmay:jV F6 T v with
    |false=>
     have hR9:Hd (dB 0 F6=none->R=none):=λe=>by
      rw[HEZ6.aa];unfold um;rw[hmay,iF K2,e];rfl
     have hRS:R=(dB 0 F6).map λy=>(T,y.2):=by
      rw[HEZ6.aa];unfold um;rw[hmay,iF K2]
     have hf7:=hft7.fr;have HRS:=cV hRS;have HFT7:=cV hft7;clear hRS hft7 C0 C1 C2 HEZ6;go_wp2
     refine dy (PhF _ H (λk=>match k with|0=>F6|_=>A1<|dB 0 F6) S5 x7) (λ_ _ _=>True) [(0,(.pointer _))] (nV 64 [.pointer<|some ⟨H,0,none⟩,.pointer<|some ⟨H,0,none⟩,.pointer<|some ⟨H,19,none⟩,_,_]) [4] [3] (PhF.bn hf7) (PhF.bel)
       ⟨(@λs x hdf hl K hph hv hK=>by
        refine gz hph @hv (λS' X C hf=>ix x hf) rfl (λ_ _ _=>rfl) (λhno u pv x' hk=>?_)<|λx' hp=>hK _ x' hp AF nn1 rfl;refine⟨hdf,?_⟩;rw[hR9.aa (hno:dB 0 F6=none)];exact⟨⟨_,_,rfl⟩,HK7.aa.trans hk HS6.aa⟩),AF⟩
       ⟨(@λk s x hk hlo hdf hl K hhi hph hv hK=>by
        obtain⟨S',sv',mv',hf,_⟩:=hph;exact Dg (n:=0) (hf.zr 0 wq) (hf.zr 1 wq) (hf.zr 2 wq) (hf.zr 3 wq)<|kx hK),AF⟩
       (nl rfl) (nl rfl) ?_
     intro gg z hz _
     have HO:Hd (Out2 (lY R) O H U T V S m w AG z):=by
      show Out2 _ _ _ _ _ _ _ _ _ _ _;have ho:=PhF.bo hz;rw[HRS.aa];cases hpu:dB 0 F6 with
      |none=>rw[hpu]at ho;obtain⟨⟨u,pv,e⟩,_⟩:=ho;cases e
      |some y=>
       obtain⟨u,F9⟩:=y;rw[hpu]at ho
       have ht:F9.aC=F6.aC:=by
        unfold dB at hpu;split at hpu
        .cases hpu
        .obtain⟨_,rfl⟩:=Xi<|hV hpu;rfl
       refine⟨rfl,?_⟩;have:=HFT7.aa.bq ht ho.2;have h9:=To2.comp (m:=0) HFT.aa.aH (λk hk=>HFT.aa.tr.lt hk) ⟨S,HK7.aa,λk hk=>LZ hk⟩ HS6.aa (λk hk=>LZ hk) (DO _) rfl this;obtain⟨S',sv',mv',V',y1,y2,y3,y4,y5,y6⟩:=h9;exact⟨S',_,_,V',y1,y2,y3,y4,wq,y6⟩
     clear hz hf7;simp only[n8,sx9];go_wp2;go_end0;exact HO.aa
    |true=>
     have HRS:Hd (R=(ji {F6 with ac:=F6.ac-eA F6 asked} (wk (eu J asked Z v dat F6 T) T v F6.ak Z).1.st (wk (eu J asked Z v dat F6 T) T v F6.ak Z).1.ac (wk (eu J asked Z v dat F6 T) T v F6.ak Z).1.aa c d).map λy=>((wk (eu J asked Z v dat F6 T) T v F6.ak Z).2,y.2)):=by
      show R=_;rw[HEZ6.aa];unfold um;rw[hmay,At rfl]
     have HWK:=cV<|hwk _ Z v _ F6 HKP.aa.depth HKP.aa.ro HKP.aa.ak HKP.aa.ax HKP.aa.value HKP.aa.ac hdl9 hmay c d HRS.aa;have HCA:=cV (FE J Z v hop x7 hft7 (hcs Z) (by rw[HKP.aa.depth];exact hdl));obtain⟨q0,q1,q2,q3⟩:=cW C1.row;obtain⟨p0,p1,p2,p3⟩:=cW C2.row;have HFT7:=cV hft7;have HC0:=cV C0;have HC1:=cV C1;have HC2:=cV C2;have HNB1:=cV C1.no;have HNB2:=cV C2.no;clear HEZ6 hft7 C0 C1 C2 hmay;go_wp2_with fail
     refine HCA.aa.mono ?_;rintro e x8⟨gb,jd,rfl,hgb,hb8,hfg⟩;clear q0 q1 q2 q3 p0 p1 p2 p3 HCA;have HGR:=cV<|DJ asked x8 (HFT7.aa.below hb8).fr;obtain⟨q0,q1,q2,q3⟩:=cW (HC0.aa.below hb8).row;have HB8:=cV hb8;have HFG:=cV hfg;have HGB:=cV hgb;clear hb8 hfg hgb;go_wp2_with fail
     refine HGR.aa.mono ?_;rintro e x9⟨rfl,hb9⟩;have hgrl:eA F6 asked<=F6.ac:=by unfold eA sD;split<;>omega
     have hgal:=HFT7.aa.fr.aN;have hB79:Below x7.heap.size x7 x9:=HB8.aa.trans<|hb9.mono HB8.aa.size;have hft9:=HFT7.aa.below hB79;have hfg9:=HFG.aa.below hb9;have k1:=hfg9.fr.row.cell (i:=15) K3;have f1:=hfg9.fr.row.frozen 15;have k2:=hfg9.fr.row.cell (i:=16) K3;have f2:=hfg9.fr.row.frozen 16;change _=some (Value.string ⟨#[]⟩)at k1;change _=some (Value.int .i64 0)at k2;have HCG:Hd (∀jd,({eu J _ Z v _ F6 T with aC:=.pointer _,jd:=jd}:Fz)={oC F6 U J Z v (T.aw Z).ae jd with data:=dat,ac:=eA F6 asked}):=λjd=>rfl
     have HCGG:Hd ((eu J asked Z v dat F6 T).ac=eA F6 asked):=rfl;obtain⟨W,HWd⟩:∃W:Res×TS,Hd (W=wk (eu J asked Z v dat F6 T) T v F6.ak Z):=⟨_,rfl⟩
     have HWK:Hd (W.1.ac<=eA F6 asked/\W.1.st<=255/\∀(O gb tb':Nat)(jd:VL)(V:TV)(x:WD),FT O gb tb' {eu J asked Z v dat F6 T with aC:=.pointer<|some ⟨tb',0,none⟩,jd:=jd} T [gb] dL dL V x->V.n+m<800000000000->
      Calls prog 61 #[.pointer<|some ⟨tb',0,none⟩,.pointer<|some ⟨gb,0,none⟩,wv v,wv F6.ak,wv Z] x λe x'=>e=.returned (iy W.1.st W.1.ac W.1.aa dL)/\cj O tb' T W.2 V [gb] m x x'):=by
      rw[HWd.aa];exact HWK.aa
     rw[<-HWd.aa]at HRS;generalize eA F6 asked=gr at*;obtain⟨G9,HG9⟩:∃G9:Fz,Hd (G9={oC F6 U J Z v (T.aw Z).ae jd with data:=dat,ac:=gr}):=⟨_,rfl⟩
     have HWK:Hd (W.1.ac<=gr/\W.1.st<=255/\∀(O gb tb':Nat)(jd':VL)(V:TV)(x:WD),tb'=U->jd'=jd->FT O gb tb' G9 T [gb] dL dL V x->V.n+m<800000000000->
      Calls prog 61 #[.pointer<|some ⟨tb',0,none⟩,.pointer<|some ⟨gb,0,none⟩,wv v,wv F6.ak,wv Z] x λe x'=>e=.returned (iy W.1.st W.1.ac W.1.aa dL)/\cj O tb' T W.2 V [gb] m x x'):=by
      refine⟨HWK.aa.1,HWK.aa.2.1,λO gb tb' jd' V x e1 e2 hf hn'=>?_⟩;subst e1 e2;rw[HG9.aa,<-HCG.aa]at hf;exact HWK.aa.2.2 _ gb _ _ V x hf hn'
     have hk10:Kb _ x9 ((x9.setCell ⟨gb,15,none⟩<|.string dat).setCell ⟨gb,16,none⟩<|.int .i64 gr):=((Kb.refl [gb] x9).setCell AI _).setCell AI _
     have hfg10:FT O gb U G9 T [gb] dL dL V ((x9.setCell ⟨gb,15,none⟩<|.string dat).setCell ⟨gb,16,none⟩<|.int .i64 gr):=by
      rw[HG9.aa];have ha:=hfg9.aD (F':={oC F6 U J Z v (T.aw Z).ae jd with data:=dat}) rfl rfl rfl rfl rfl hfg9.fr.aN (kF hfg9.fr.row<|Ah _ _)<|(Kb.refl _ x9).setCell AI _;exact ha.aD (F':={oC F6 U J Z v (T.aw Z).ae jd with data:=dat,ac:=gr}) rfl rfl rfl rfl rfl (by show gr<=100000;omega) (kF ha.fr.row<|mJ _ _ _ gr) ((Kb.refl _ _).setCell AI _)
     have hgb7:=HGB.aa;have hgb5:gb∉S5:=λhm=>by have:=HFT7.aa.fr.aU gb hm;omega
     have hgbT:¬bi U T V gb:=λhm=>by have:=HFT7.aa.tr.lt hm;omega
     have hgb0:gb≠0:=by have:=HFT7.aa.fr.hs;omega
     have hft10:=hft9.kb hk10 (λk hk=>by rw[BY.1 hk];exact⟨hgb5,hgbT,hgb0,_,_,hfg9.fr.row⟩);have hbx1:=hk10.row (cY HC1.aa.row hB79) (λhm=>by have:=HC1.aa.row.lt;have:=BY.1 hm;omega);have hbx2:=hk10.row (cY HC2.aa.row hB79) (λhm=>by have:=HC2.aa.row.lt;have:=BY.1 hm;omega);have HGBw:Hd _:=By HK7.aa.size HGB.aa;have HTLw:Hd (∀k,bi U T V k->k<w.heap.size):=λk hk=>HFT.aa.tr.lt hk
     have hkw10:Kb S w ((x9.setCell ⟨gb,15,none⟩<|.string dat).setCell ⟨gb,16,none⟩<|.int .i64 (gr:Int)):=(HK7.aa.below hB79).trans hk10 (λi hi=>A4 (by rw[BY.1 hi];exact HGBw.aa));obtain⟨x10,HX10⟩:=dP<|(x9.setCell ⟨gb,15,none⟩<|.string dat).setCell ⟨gb,16,none⟩<|.int .i64 gr;rw[<-HX10.aa]at hfg10 hft10 hbx1 hbx2 hkw10;have hlt10:=hft10.fr.row.lt;have cg10:=hft10.fr.row.cell (i:=16) K3;have fg10:=hft10.fr.row.frozen 16;change _=some (Value.int .i64 (F6.ac:Int))at cg10;have hlg10:=hfg10.fr.row.lt;have cgg10:=hfg10.fr.row.cell (i:=16) K3;rw[(by rw[HG9.aa];rfl:G9.cell _ _ 16=.int _ gr)]at cgg10;clear hk10 hft9 hfg9 hb9 HGR hB79 HC0 HC1 HC2 HCG HCGG HWd q0 q1 q2 q3 hgbT hgb7;go_wp2;rw[<-HX10.aa]
     refine dy (QN x10 ⟨H,16,none⟩<|.int .i64 ((F6.ac-gr:Nat):Int)) (λ_ _ _=>True) [(0,(.pointer _)),(13,(.pointer _))] (nV 84 [.pointer<|some ⟨H,0,none⟩,.pointer<|some ⟨H,0,none⟩,.pointer<|some ⟨H,16,none⟩,.int .i64 (F6.ac:Int),.pointer<|some ⟨gb,0,none⟩,.pointer<|some ⟨gb,0,none⟩,.pointer<|some ⟨gb,16,none⟩,_,.int .i64 ((F6.ac-gr:Nat):Int),.pointer<|some ⟨H,0,none⟩,.pointer<|some ⟨H,16,none⟩]++[(none,.v _)]) [11] [3,7,8] ((dO _ _).drew) (ww)
       ⟨(@λs x hdf hl K hph hv hK=>uq (v:=((F6.ac-gr:Nat):Int)) (hv rfl) (hv rfl) ((hph.cell hlt10).trans cg10) ((hph.frozen hlt10).trans fg10)<|hK _ _ ⟨x,hph,dO _ _⟩ AF (λ_=>rfl) rfl),AF⟩
       ⟨(@λk s x hk hlo hdf hl K hhi hph hv hK=>by
           have hx:Below x10.heap.size x10 x:=mY hph<|hhi 0 11;exact dm (v:=.int .i64 (F6.ac:Int)) (hv rfl) ((hx.cell hlt10).trans cg10)<|kx hK),(@λk s x hk hlo hdf hl K hhi hph hv hK=>by
           have hx:Below x10.heap.size x10 x:=mY hph<|hhi 0 11;exact dm (v:=.int .i64 (gr:Int)) (hv rfl) ((hx.cell hlg10).trans cgg10)<|kx hK),(@λk s x hk hlo hdf hl K hhi hph hv hK=>Js (hv rfl) (hv rfl) hgrl wq<|kx hK),AF⟩
       (nl rfl) (nl rfl) ?_
     intro gg x11 hph _;obtain⟨y,hy1,hy2⟩:QN _ _ (.int .i64 ((F6.ac-gr:Nat):Int)) 1 _:=hph;obtain⟨F7,HF7⟩:∃F7:Fz,Hd (F7={F6 with ac:=F6.ac-gr}):=⟨_,rfl⟩;rw[<-HF7.aa]at HRS;have hk11:=((Kb.h (S:=[H]) hy1).setCell (p:=⟨H,16,none⟩) AI _).below hy2
     have hf11:Fr O H F7 S5 sv5 mv5 x11:=by
      rw[HF7.aa];exact((hft10.fr.below hy1).cc (F':={F6 with ac:=F6.ac-gr}) rfl rfl rfl rfl (by show F6.ac-gr<=100000;omega) (kF (hft10.fr.below hy1).row<|mJ F6 _ _ _)<|(Kb.refl _ y).setCell AI _).below hy2
     have hfb5:H∈S5:=by rw[hft10.fr.aH];simp
     have hfg11:=hfg10.kb hk11 (λk hk=>by rw[BY.1 hk];exact⟨λhm=>hgb5 (by rw[<-BY.1 hm];exact hfb5),hft10.bs H hfb5,λe=>hft10.fr.bu (by rw[<-e];exact hfb5),_,_,hft10.fr.row⟩);have hft11:FT _ H U F7 T S5 _ _ V _:=⟨hf11,hfg11.tr,by rw[HF7.aa];exact hft10.ptr,hft10.bs⟩;have hbx1:=hk11.row hbx1 (λhm=>HNB1.aa (by rw[BY.1 hm];exact hfb5));have hbx2:=hk11.row hbx2 (λhm=>HNB2.aa (by rw[BY.1 hm];exact hfb5));have hkw11:=hkw10.trans hk11 (λi hi=>by rw[BY.1 hi];exact HS6.aa H hfb5)
     have htk:ji F7 W.1.st W.1.ac W.1.aa c d=some ((),A1<|ji F7 W.1.st W.1.ac W.1.aa c d):=by
      refine ou λe=>?_
      unfold ji dB at e;split at e
      .rename_i hl;have h9:(zB F7 W.1.ac W.1.aa c d).st.length=F6.st.length:=by rw[HF7.aa];rfl
       have:=HST6.aa;omega
      .cases e
     have hself:F7.ak=F6.ak:=by rw[HF7.aa]
     have HFIN:Hd (R=some (W.2,A1<|ji F7 W.1.st W.1.ac W.1.aa c d)):=by
      show R=_;rw[HRS.aa,htk];rfl
     have hwg:=HWK.aa.1;have hF7g:F7.ac=F6.ac-gr:=by rw[HF7.aa]
     clear hy1 hy2 hk11 hf11 hft10 hfg10 hkw10 cg10 fg10 cgg10 hlt10 hlg10 HX10 k1 f1 k2 f2;simp only[n8,sx9];go_wp2
     refine dy (PhV O H U F7 (A1<|ji F7 W.1.st W.1.ac W.1.aa c d) T W.2 S S5 sv5 mv5 V m w x11) (λ_ _ _=>True) [(0,(.pointer _)),(12,(.slice _ d cr)),(13,(.pointer _)),(6,(.pointer _)),(5,(.pointer _))] (nV 95 [.pointer<|some ⟨H,0,none⟩,.pointer<|some ⟨H,0,none⟩,.pointer<|some ⟨H,0,none⟩,.pointer<|some ⟨H,0,none⟩,.pointer<|some ⟨U,0,none⟩,.pointer<|some ⟨gb,0,none⟩,_,.pointer<|some ⟨H,0,none⟩,.pointer<|some ⟨H,0,none⟩,.pointer<|some ⟨H,3,none⟩,_,_,iy W.1.st W.1.ac W.1.aa dL,.slice adr d cr,.tuple _]) [12,14] [4,6,10,11] ((dO _ _).drew) (TA)
       ⟨(@λs x hdf hl K hph hv hK=>by
           have hx:Below _ _ x:=hph;refine o6 @hv (HWK.aa.2.2 _ gb U jd V x rfl rfl (hfg11.below hx) hn) (λv' y h=>?_) (λl y h=>absurd h.1 K2)<|λy h=>absurd h.1 K2;obtain⟨e,htt⟩:=h;injection e with e
           subst e;exact hK _ y (AfterW.of (hft11.below hx) (hkw11.below hx) HTLw.aa HGBw.aa hgb5 hgb0 (hfg11.below hx).fr.row htt) AF nn1 rfl),(@λs x hdf hl K hph hv hK=>by
           obtain⟨V9,y1,y2,y3,y4,y5⟩:=hph;refine o6 @hv (A4Q (lv:=dL) W.1.ac W.1.aa HWK.aa.2.1 ⟨_,_,_,rfl⟩ x y1.fr (by rw[hF7g];omega) HPR.aa) (λv' y h=>?_) (λl y h=>?_) (λy h=>?_)
           .rw[htk]at h;obtain⟨e,hto⟩:=h;injection e with e
            subst e;refine hK _ y ?_ AF nn1 rfl;have h9:=To2.comp HFT.aa.aH (λk hk=>HFT.aa.tr.lt hk) y2 HS6.aa y3 y4 y5<|y1.bq (F':=A1<|ji F7 W.1.st W.1.ac W.1.aa c d) (Dl htk) hto;exact h9
           .rw[htk]at h;obtain⟨e,_⟩:=h;cases e
           .rw[htk]at h;obtain⟨e,_⟩:=h;cases e),AF⟩
       ⟨(@λk s x hk hlo hdf hl K hhi hph hv hK=>by
           have hx:Below x11.heap.size x11 x:=wh hph<|hhi 0 12;exact dm (v:=.pointer<|some ⟨U,0,none⟩) (hv rfl) (rc (hft11.below hx).fr.row 0 |>.trans (Xl some hft11.ptr))<|kx hK),(@λk s x hk hlo hdf hl K hhi hph hv hK=>by
           have hx:Below x11.heap.size x11 x:=wh hph<|hhi 0 12;obtain⟨q0,q1,q2,q3⟩:=cW<|cY hbx2 hx;exact dD (n:=v) (hv rfl) q0 q1 q2 q3<|kx hK),(@λk s x hk hlo hdf hl K hhi hph hv hK=>by
           have hx:Below x11.heap.size x11 x:=wh hph<|hhi 0 12;have hr:=(hft11.below hx).fr.row;exact dD (n:=F6.ak) (hv rfl) ((rc hr 3).trans<|Xl (λz=>some<|Value.int .u64<|cX z 0) hself) ((rc hr 4).trans<|Xl (λz=>some<|Value.int .u64<|cX z 1) hself) ((rc hr 5).trans<|Xl (λz=>some<|Value.int .u64<|cX z 2) hself) ((rc hr 6).trans<|Xl (λz=>some<|Value.int .u64<|cX z 3) hself)<|kx hK),(@λk s x hk hlo hdf hl K hhi hph hv hK=>by
           have hx:Below x11.heap.size x11 x:=wh hph<|hhi 0 12;obtain⟨q0,q1,q2,q3⟩:=cW<|cY hbx1 hx;exact dD (n:=Z) (hv rfl) q0 q1 q2 q3<|kx hK),AF⟩
       (nl rfl) (nl rfl) ?_
     intro gg z hz _
     have HO:Hd (Out2 (lY R) O H U T V S m w AG z):=by
      show Out2 _ _ _ _ _ _ _ _ _ _ _;rw[HFIN.aa];exact⟨rfl,hz⟩
     clear hz hft11 hfg11 hbx1 hbx2 hkw11;simp only[n8,sx9];go_wp2;go_end0;exact HO.aa)
def wO:(prog.info? 112).map (λi=>(i.zero,i.size,i.bytes))=some (some<|.agg #[iU 0,iU 0,iU 0,iU 0,.slice none 0 0,.string ⟨#[]⟩],6,72):=N0
def zQ{P:Program}{S D:Vr}{u:VL}(h:(convert S D u).run P x=.ok v x):((do pure (Next.value<|<-convert S D u):Sem Next)).run P x=.ok (.value v) x:=Q1
def EI{L:List LogE}(h:tv.length=L.length)(l:LogE)(t:VL):qM (L++[l]) (tv++[t])=qM L tv++wI l t:=by
 induction L generalizing tv with
 |nil=>grind[qM]
 |cons a L D=>
  cases tv with
  |nil=>cases h
  |cons b tv=>grind[wI,qM]
def AB{I:Vr}{tv:VL}{D:BA}(he:tG s t<|.agg #[lu n 0,lu n 1,lu n 2,lu n 3,tv,.string D])(G:K (Wb s d<|sL x.heap.size 1 1)<|x.alloc<|.cells #[lu n 0,lu n 1,lu n 2,lu n 3,tv,.string D] 112):Oper.wp prog ⟨some d,.buildSlice 36 1 #[(0,.tmp t)],I,pos,af,gd⟩ s x K Q:=by
 have E:s.tmps[t]?.getD undef=.agg #[lu n 0,lu n 1,lu n 2,lu n 3,tv,.string D]:=Q1
 go_simp;exact G
def PhL(O U:Nat)(V:TV)(L9:List LogE)(tvs:Tn)(w:WD):Nat->X4
 |0,x=>bW w x
 |1,x=>Kb V.lv.ownBlock.toList w x
 |_,x=>∃v',x.ownsRow O 112 6 v' L9.length (qM L9 tvs)/\Fresh w V.lv v'/\Up V.lv.ownBlock.toList U 3 v' w x
def RelL(U:Nat):Nat->WD->X4:=λp x x'=>p=1->∃u,x'=x.setCell ⟨U,3,none⟩ u
def Wx(w:WD)(n:Nat)(dat:BA)(tv:VL):Kp:=λp v x=>∃q,v=.slice (some ⟨q,0,none⟩) 1 1/\(p<=0->q<x.heap.size/\∀(j:Nat) u,[Value.int .u64<|cX n 0,lu n 1,lu n 2,lu n 3,tv,.string dat][j]?=some u->x.cell? ((⟨q,0,none⟩:Addr).add j)=some u)
def Na(O:Nat)(V:TV)(L9:List LogE)(tvs:Tn)(w:WD):Kp:=λp v x=>p≠0/\x.ownsRow O 112 6 v L9.length (qM L9 tvs)/\Fresh w V.lv v
def wM(h:PhL O U V L9 tvs w k x)(D:k<=0):bW w x:=by
 cases(wq:k=0)
 exact h
def MI(h:PhL O U V L9 tvs w k x)(D:k<=1):Kb V.lv.ownBlock.toList w x:=by
 match k,D,h with
 |0,_,h=>exact Kb.h h
 |1,_,h=>exact h
def Tm(D:U<w.heap.size)(k:Nat)(x x':WD)(h:PhL O U V L9 tvs w k x)(E:bW x x'):PhL O U V L9 tvs w k x':=by
 match k,h with
 |0,h=>exact(h).trans<|E.mono (h).size
 |1,h=>exact(h).below E
 |_+2,⟨v',h1,h2,h3⟩=>exact⟨v',dh h1 E,h2,Kb.up h3 E D⟩
def Fresh.pre(h:Fresh x v v')(D:bW w x):Fresh w v v':=h.imp id<|λh k E=>By D.size<|h k E
def NL(G:Tr O U T V w)(E:U∉V.lv.ownBlock.toList)(J:p<2)(D:PhL O U V L9 tvs w p x)(hrel:RelL U p x x')(I:Na O V L9 tvs w p v x):Na O V L9 tvs w (p+1) v x':=by
 match p,J,D,hrel,I with
 |0,_,_,_,I=>exact absurd W I.1
 |1,_,D,hrel,I=>obtain⟨u,rfl⟩:=hrel W;exact⟨wq,fC I.2.1 (dS ((D).row G.row E) I.2.1 yO) _ _,I.2.2⟩
structure TL(O H:Nat)(S:Tl)(w:WD)(G:Fz)(l:Tl)(S':Tl)(sv' mv' tv:VL)(b0 p b1 q:Nat)(x:WD):Prop where
 fr:Fr O H G S' sv' mv' x
 kb:Kb S w x
 sub:∀k∈S',k∈S\/w.heap.size<=k
 wd:Wds x O tv l
 no:∀k,tv.ownBlock=some k->w.heap.size<=k/\k∉S'/\k≠b0/\k≠b1
 B0:Wbx S' x b0 p
 B1:Wbx S' x b1 q
theorem zW{F:Fz}:∀{i:Nat}{l:Tl}{G:Fz},eM i F=some (l,G)->Keep F G
 |0,l,G,h=>by obtain⟨_,rfl⟩:=Xi<|hV h;exact⟨W,W,W,W,W,W,DO _⟩
 |i+1,l,G,h=>by
  rw[eM]at h;split at h
  .cases h
  rename_i E I D;split at h
  .cases h
  rename_i n J L;obtain⟨_,rfl⟩:=Xi<|hV h;refine(zW D).trans ?_;unfold db at L;split at L
  .cases L
  obtain⟨_,rfl⟩:=Xi<|hV L;exact⟨W,W,W,W,W,W,DO _⟩
def log_to{S2:Tl}{c A tv:VL}{R z:WD}{e:LogE}(h:FT O H U F T S2 c A V R)(u1:z.ownsRow O 112 6 v' (T.ay++[e]).length<|qM (T.ay++[e])<|V.tv++[tv])(u2:Fresh R V.lv v')(I:Up V.lv.ownBlock.toList U 3 v' R z)(j:Wds R O tv e.aM)(Y:∀k,tv.ownBlock=some k->w.heap.size<=k/\k∉S2)(Z:Kb S w R)(a:∀k∈S2,k∈S\/w.heap.size<=k)(u:∀k,bi U T V k->k<w.heap.size):To2 O H U F T {T with ay:=T.ay++[e]} V S 0 w z:=by
 have c:∀k∈U::V.lv.ownBlock.toList,k=U\/V.lv.ownBlock=some k:=λk q=>K9
 have J:∀k∈U::V.lv.ownBlock.toList,bi U T V k:=λk q=>by
  rcases c k q with e|e
  .exact LZ e
  exact A4<|A4<|A4<|A4<|LZ e
 have o:∀k,(∃r cl,R.heap[k]?=some _)->k∉U::V.lv.ownBlock.toList:=λk P q=>by
  rcases c k q with e|e
  .exact gx h.tr.row P e.symm
  exact iD h.tr.lo.2.1 P e
 have G:∀{e size n v xs b},R.ownsRow b e size v n xs->131≠e->112≠e->∀k,v.ownBlock=some k->k∉U::V.lv.ownBlock.toList:=λr D E k q P=>by
  rcases c k P with e|e
  .exact dS h.tr.row r D k q e
  rcases yb h.tr.lo.2.1 r E with m|m
  .grind
  grind
 have h0:0∉U::V.lv.ownBlock.toList:=λP=>h.tr.bu<|J 0 P;have r:Lo z O v' (V.tv++[tv]) (T.ay++[e]):=by
  refine⟨by rw[Xm,Xm,h.tr.lo.1];rfl,u1,λi l t D E=>?_,XW.2 ⟨h.tr.lo.2.2.2,XO _ _,λt c t' ht' k q hk'=>?_⟩⟩;rotate_left
  .obtain rfl:=BY.1 ht';have D:=u k<|A4<|A4<|A4<|A4<|A4 ⟨t,c,q⟩;grind
  have L:=h.tr.lo.1;by_cases u:i<T.ay.length
  .rw[Xv u]at D;rw[Xv wq]at E;have h3:=h.tr.lo.2.2.1 i l t D E;exact I.kb.aD h3<|G h3 BR OA
  rw[Xx wq]at D;rw[Xx (by rw[L];omega),L]at E;have hz:i-T.ay.length=0:=by have:=(Do.1 D).1;simp at this;omega
  rw[hz]at D E;cases(by simpa using D:e=l)
  cases(by simpa using E:tv=t)
  exact I.kb.aD j<|G j BR OA
 have hT:Tr O U {T with ay:=T.ay++[e]} {V with lv:=v',tv:=V.tv++[tv]} z:=by refine⟨?_,h.tr.aw.kb I.kb<|λk q P=>o k (h.tr.aw.isMap P) q,h.tr.aP.kb I.kb<|o _ h.tr.aP.is,I.kb.aD h.tr.ch<|G h.tr.ch xH<|Ne.symm GB,r,h.tr.zr.kb I.kb h0,By h.tr.hb I.kb.size,h.tr.aA,h.tr.pn⟩;refine(I.row h.tr.row).congr λi u=>?_;have u:=u;rcases NC u with rfl|rfl|rfl|rfl<;>rfl
 have y:∀k,bi U {T with ay:=T.ay++[e]} {V with lv:=v',tv:=V.tv++[tv]} k->bi U T V k\/R.heap.size<=k\/tv.ownBlock=some k:=λk q=>by
  rcases q with e|e|e|e|e|⟨t,c,e⟩
  .exact LZ (LZ e)
  .exact LZ (A4<|LZ e)
  .exact LZ (A4<|A4<|LZ e)
  .exact LZ (A4<|A4<|A4<|LZ e)
  .rcases u2 with m|m
   .exact LZ (A4<|A4<|A4<|A4<|LZ<|m▸e)
   exact A4<|LZ<|m k e
  rcases Xr.1 c with D|D
  .exact LZ (A4<|A4<|A4<|A4<|A4 ⟨t,D,e⟩)
  exact A4<|A4 (by rw[<-BY.1 D];exact e)
 refine⟨S2,_,_,_,⟨h.fr.kb I.kb (λk D E=>h.bs k D<|J k E) h0<|λg N f r c=>h.tr.bO r<|J g c,hT,h.ptr,λk D E=>?_⟩,⟨_,(Z.mono<|λi u=>Xw _ u).trans I.kb<|λi u=>LZ<|Xn _ u,λk q=>?_⟩,a,λk q=>?_,DO _,W⟩
 .rcases y k E with e|e|e
  .exact h.bs k D e
  .have:=h.fr.aU k D;omega
  exact(Y k e).2 D
 .rcases Xr.1 q with e|e
  .exact LZ e
  exact A4<|J k e
 rcases y k q with e|e|e
 .exact LZ e
 .exact A4 (By Z.size e)
 exact A4 (Y k e).1
def yP(ak:Nat)(p l:Nat)(ts:Tl)(F:Fz)(T:TS):Option (TS×Fz):=match dC p l F with
 |none=>none
 |some ((a,b),F2)=>if F2.ac<8*b then none else some ({T with ay:=T.ay++[⟨ak,ts,dI<|dM F2.mem a b⟩]},{F2 with ac:=F2.ac-8*b})
def xL(n p l:Nat)(F:Fz)(T:TS):Option (TS×Fz):=match eM n F with
 |none=>none
 |some (ts,F1)=>yP F1.ak p l ts F1 T
def rJ(n:Nat)(F:Fz)(T:TS):Option (TS×Fz):=if F.ro=true then none else dX (db F)<|dX (db<|A1<|db F)<|xL n (eP F) (eV F) (eb F) T
def log_I(hn:n<=4)(w:WD)(h:FT O H U F T S X C V w)(c:T.ay.length<1000000000):cP 242 #[pt H,iI (n:Int)] w (Out2 (lY<|rJ n F T) O H U T V S 0 w):=by
 have c:=cV<|qj w h.fr;have i3:=cV h;go_enter func242,ntmps242;go_wp2_with fail
 refine c.mono ?_;rintro e w1⟨h1,g9⟩;obtain rfl:=g9.symm;clear g9 c;by_cases a0:F.ro=true;case pos=>rw[At a0]at h1;obtain⟨u,pv,rfl⟩:=h1;refine⟨W,?_⟩;rw[show rJ n F T=none from At a0];exact⟨⟨_,_,W⟩,Kb.refl _ _⟩
 rw[iF a0]at h1;subst h1;have g5:rJ n F T=dX _ (dX (db<|A1<|db F)<|xL n (eP F) (eV F) (eb F) T):=iF a0;clear a0;go_wp2;refine Cz h.fr ?_ ?_
 .intro u pv s x hno hd hk;have e:=g5.trans (by
   rcases hno with e|e
   .exact dE (LZ e)
   exact dE<|A4<|dE<|LZ e)
  refine⟨hd,?_⟩;rw[e];exact⟨⟨_,_,W⟩,hk⟩
 intro x S0 sv0 mv0 b0 b1 c h6 h5 n0 g0 r0 n1 g1 r1;change Fr O H (eb F) S0 sv0 mv0 x at c;have g8:Same F (eb F):=(fy<|fy<|A4<|Same.refl F).resolve_left (λhb=>absurd c.aN (by have:(eb F).ac=(A1<|db<|A1<|db F).ac:=rfl;omega));have HR:Hd (rJ n F T=xL n (eP F) (eV F) (eb F) T):=g5.trans<|(ed λe=>gG (lO<|eD e) c).trans<|ed λe=>gG (eD e) c;have i1:Hd (TL _ H S w _ [] S0 _ _ _ b0 (eP F) b1 (eV F) x):=⟨c,h6,h5,Xy x _ _ _,λk hk=>(by cases hk),⟨n0,r0⟩,⟨n1,r1⟩⟩
 have HKP:=cV<|Keep.of g8;simp only[n8,sx9];clear n0 g0 r0 n1 g1 r1 c h6 h5 g8 g5 h;generalize eb F=c at*;generalize eP F=p at*;generalize eV F=q at*;generalize rJ n F T=R at*;go_wp2;go_loopw[6,19] (λt6 f9 wr=>∃(i:Nat)(l:Tl)(G:Fz)(S':Tl)(sv' mv':VL)(ad:Gj)(cp:Nat),i<=n/\f9=iI (i:Int)/\t6=.slice ad i cp/\Hd (eM i c=some (l,G))/\Hd (TL O H S w G l S' sv' mv' (.slice ad i cp) b0 p b1 q wr)) (λ_ f9 _=>n-nI f9);case atStart=>exact⟨0,[],c,S0,_,_,_,0,wq,W,W,W,i1⟩
 obtain⟨i,l,G,S1,sv1,mv1,ad,cp,hi,rfl,rfl,HP,HT⟩:=hrel;have h4:=lj HP;by_cases hlt:i<n
 .have hd:=dT<|(i:Int)<n;have a3:=cV<|kO _ HT.fr;cases a1:db G with
  |none=>
   rw[a1]at a3;have e:R=none:=by rw[HR.aa];unfold xL;rw[mN (i:=i+1) (by rw[eM,HP.aa];show(match db G with|none=>none|some (n,G')=>some (l++[n],G'))=_;rw[a1]) n wq]
   have HE:=cV e;have HK:=cV HT.kb;have HS:=cV HT.sub;clear a1 HP HT e;go_wp2_with fail
   refine a3.mono ?_;rintro e y⟨⟨u,pv,rfl⟩,hk⟩;refine⟨W,?_⟩;rw[HE.aa];exact⟨⟨_,_,W⟩,HK.trans hk HS⟩
  |some r=>
   let⟨t,G2⟩:=r;rw[a1]at a3;have HP2:Hd (eM (i+1) c=some (l++[t],G2)):=by show _=_;rw[eM,HP.aa];show(match db G with|none=>none|some (n,G')=>some (l++[n],G'))=_;rw[a1]
   clear a1 HP;go_wp2_with fail
   refine a3.mono ?_;rintro e y⟨rfl,S2,c9,b6,Y,c,A⟩;have hT:=HT.aa;have b7:∀k,(Value.slice ad i cp).ownBlock=some k->k<wr.heap.size:=λk hk=>(hT.wd.lt k hk).2;have d6:Wds y _ _ l:=c.aD hT.wd<|λk hk=>(hT.no k hk).2.1;have hB:Below _ y (y.alloc<|.cells #[lu t 0,lu t 1,lu t 2,lu t 3] 24):=ai (dO _ y) _;let⟨i0,d9,d5,e0,d7⟩:=YI sy;let⟨v',z,a9,f1,e3,e9⟩:=fh _ _ 110 110 24 i0 (.agg #[iU 0,iU 0,iU 0,iU 0]) 4 32 N0 d9 d5 e0 d7 W K3 _ _ _ (dh d6 hB) ⟨y.heap.size,0,none⟩ 1 1 [lu t 0,lu t 1,lu t 2,lu t 3] W (fJ y #[lu t 0,lu t 1,lu t 2,lu t 3] 24) (by intro u hu;simp at hu;rcases hu with rfl|rfl|rfl|rfl<;>rfl) (by unfold maxLen;omega) wq (by have:=Y.hb;simp;omega);have a7:Wds z O v' (l++[t]):=by unfold Wds;rw[lB,Xm];exact f1
   obtain⟨h9,g6,rfl⟩:=dt a7;have g7:(y.alloc<|.cells #[lu t 0,lu t 1,lu t 2,lu t 3] 24).heap.size=y.heap.size+1:=K2
   have b8:∀k,(Value.slice ad i cp).ownBlock=some k->k∉S2:=λk hk P=>(A k P).elim (hT.no k hk).2.1 (λh=>by have:=b7 k hk;omega);have b9:Kb (Value.slice ad i cp).ownBlock.toList y z:=(Kb.h hB).trans ((Kb.refl _ _).grown e3<|λk hk=>LZ (by rw[hk];simp))<|λk hk=>LZ hk;have d8:=hT.B0.step c A;have c8:=hT.B1.step c A;have h3:Hd (TL O H S w G2 (l++[t]) S2 c9 b6 (.slice h9 (l++[t]).length g6) b0 p b1 q z):=by
    have i2:=hT.kb.trans c hT.sub;refine⟨Y.kb b9 (λk h1 h2=>b8 k (by simpa using h2) h1) (λh0=>?_)<|λg N f hr hg=>dS hr d6 tb1 g (by simpa using hg) W,i2.trans b9<|λk hk=>A4 (hT.no k<|by simpa using hk).1,λk hk=>(A k hk).elim (hT.sub k)<|λh=>A4<|By hT.kb.size h,a7,λk hk=>?_,⟨d8.no,b9.row d8.row<|λP=>(hT.no b0<|by simpa using P).2.2.1 W⟩,⟨c8.no,b9.row c8.row<|λP=>(hT.no b1<|by simpa using P).2.2.2 W⟩⟩
    .have h1:=(d6.lt 0<|by simpa using h0).1;have:=Y.aA;omega
    rcases e9 with e|e
    .rw[e]at hk;exact⟨(hT.no k hk).1,b8 k hk,(hT.no k hk).2.2⟩
    have h1:=e k hk;rw[g7]at h1;refine⟨by have:=i2.size;omega,λP=>by have:=Y.aU k P;omega,λe=>?_,λe=>?_⟩
    .have:=d8.row.lt;omega
    have:=c8.row.lt;omega
   have I:(l++[t]).length=i+1:=by rw[Xm,h4];rfl
   rw[I]at h3 a9;have i4:=cV a9;clear hT b7 d6 hB f1 e3 e9 a7 b8 b9 d8 c8 Y c A a3 HT d9 d5 e0 d7 g7 a9;go_wp2_with(at_builtin;refine Lib.wpList_append_run _ W _ _ _ _ W _ _ W W _ _ i4 ?_);go_roundw;case rel=>exact⟨_,_,G2,S2,c9,b6,h9,g6,wq,N1,N1,HP2,h3⟩
   simp[nI];omega
 obtain rfl:i=n:=wq
 have hd:=dF<|(i:Int)<i;have hT:=HT.aa;have f5:Hd (R=yP G.ak p q l G T):=by show R=_;rw[HR.aa];unfold xL;rw[HP.aa]
 have f0:Hd _:=HKP.aa.trans<|zW HP;let⟨c0,c1,c2,c3⟩:=cW hT.B0.row;let⟨d0,d1,d2,d3⟩:=cW hT.B1.row;have h7:=cV<|nC p q wr hT.fr;clear hT HP HR i1;go_wp2_with fail
 refine h7.mono ?_;intro e y ho;have hT:=HT.aa;cases hq:dC p q G with
 |none=>
  rw[hq]at ho;obtain⟨⟨u,pv,rfl⟩,hk⟩:=ho;have e:R=none:=by rw[f5.aa];unfold yP;rw[hq]
  refine⟨W,?_⟩;rw[e];exact⟨⟨_,_,W⟩,hT.kb.trans hk hT.sub⟩
 |some z=>
  let⟨⟨a,b⟩,F2⟩:=z;rw[hq]at ho;obtain⟨dv,S2,c9,b6,rfl,Y,c,A,a1⟩:=ho;have I:=iC hq hT.fr.aT;have a2:=f0.aa.trans<|nw hq;have e6:=(nw hq).ak;have f7:Hd (R=if F2.ac<8*b then none else some ({T with ay:=T.ay++[⟨F2.ak,l,dI<|dM F2.mem a b⟩]},{F2 with ac:=F2.ac-8*b})):=by show R=_;rw[f5.aa,<-e6];unfold yP;rw[hq]
  have hb16:b<=65536:=by have:=Y.bv;omega
  have a5:Wds y _ _ l:=c.aD hT.wd<|λk hk=>(hT.no k hk).2.1;have b7:∀k,(Value.slice ad i cp).ownBlock=some k->k<wr.heap.size:=λk hk=>(hT.wd.lt k hk).2;have o:∀k,(Value.slice ad i cp).ownBlock=some k->w.heap.size<=k/\k∉S2:=λk hk=>⟨(hT.no k hk).1,λP=>(A k P).elim (hT.no k hk).2.1 (λh=>by have:=b7 k hk;omega)⟩
  have m:=hT.kb.trans c hT.sub;have L:∀k∈S2,k∈S\/w.heap.size<=k:=λk hk=>(A k hk).elim (hT.sub k)<|λh=>A4<|By hT.kb.size h;have g3:=cV<|Qd (8*b) wq y Y;rw[show((8*b:Nat):Int)=8*b by omega]at g3;obtain⟨f8,cv,rfl,e8⟩:=a1;have a3:Hd (PartOf b6 _ a b):=⟨f8,cv,W,e8⟩
  have HX:=cV<|aIn a5<|aIn o<|aIn m<|aIn L<|aIn a2 I;have HF2:=cV Y;clear hT HT f5 h7 e8 Y c A hq a5 b7 o m L a2 I e6 c0 c1 c2 c3 d0 d1 d2 d3 f0;go_wp2_with fail
  refine g3.mono ?_;intro e w9 hp;let⟨a5,o,m,L,a2,I⟩:=HX.aa;by_cases hg:F2.ac<8*b
  .rw[At hg]at hp;obtain⟨⟨u,pv,rfl⟩,hk⟩:=hp;have e:=f7.aa.trans<|At hg;refine⟨W,?_⟩;rw[e];exact⟨⟨_,_,W⟩,m.trans hk K2⟩
  rw[iF hg]at hp;obtain⟨rfl,f4,g4⟩:=hp;have f6:Hd (R=some ({T with ay:=T.ay++[⟨F2.ak,l,dI<|dM F2.mem a b⟩]},{F2 with ac:=F2.ac-8*b})):=f7.aa.trans<|iF hg;have a8:H∈S2:=by rw[HF2.aa.aH];simp
  have f3:=m.trans g4 (λk hk=>by rw[BY.1 hk];exact L H a8);have D:FT O H U {F2 with ac:=F2.ac-8*b} T S2 c9 b6 V w9:=i3.aa.next (F':={F2 with ac:=F2.ac-8*b}) a2.aC f4 f3 L;have f2:Wds w9 _ _ l:=g4.aD a5 (λk hk P=>(o k hk).2 (by rw[BY.1 P];exact a8));have e4:∀x,Below _ w9 x->(convert 26 9 _).run _ x=.ok (.string<|dI<|dM F2.mem a b) x:=λx Z=>(a3.bD (f4.below Z).me I).bJ;obtain⟨F9,c⟩:∃F9:Fz,Hd (F9={F2 with ac:=F2.ac-8*b}):=⟨_,W⟩
  have f6:Hd (R=some ({T with ay:=T.ay++[⟨F9.ak,l,dI<|dM F2.mem a b⟩]},F9)):=by show R=_;rw[c.aa];exact f6
  rw[<-c.aa]at D;generalize dI (dM F2.mem a b)=c at*;have a4:U∉V.lv.ownBlock.toList:=λP=>dS D.tr.row D.tr.lo.2.1 yO U (by simpa using P) W;have e5:H∉V.lv.ownBlock.toList:=λP=>D.bs H (by rw[D.fr.aH];simp) (A4<|A4<|A4<|A4<|LZ<|by simpa using P);have e7:∀u∈wI ⟨F9.ak,l,c⟩ (.slice ad i cp),u.oneCell'=true:=by intro u hu;unfold wI at hu;simp at hu;rcases hu with rfl|rfl|rfl|rfl|rfl|rfl<;>rfl
  have HNO:=cV o;have HKW:=cV f3;have HSW:=cV L;clear m L o f4 g4 a2 HX g3 a8 I f7;go_wp2;refine dy (PhL O U V (T.ay++[⟨F9.ak,l,c⟩]) (V.tv++[.slice ad i cp]) w9) (RelL U) [(0,(pt H)),(6,(.slice ad i cp)),(7,(.slice f8 b cv))] [(some 38,.v<|pt H),(some 39,.v<|pt H),(some 40,.v<|pt H),(some 41,.v<|pt U),(some 42,.v<|pt H),(some 43,.v<|pt H),(some 44,.v<|pt H),(some 45,.v<|pt U),(some 46,.v<|pt U),(some 47,.v<|pq U 3),(some 48,.v V.lv),(some 49,.v<|pt H),(some 50,.v<|pt H),(some 51,.v<|pq H 3),(some 52,.v<|wv F9.ak),(some 53,.v<|.slice ad i cp),(some 54,.v<|.slice f8 b cv),(some 55,.v<|.string c),(some 56,.v<|.agg #[lu F9.ak 0,lu F9.ak 1,lu F9.ak 2,lu F9.ak 3,.slice ad i cp,.string c]),(some 57,.l<|Wx w9 F9.ak c<|.slice ad i cp),(some 58,.l<|Na O V (T.ay++[⟨F9.ak,l,c⟩]) (V.tv++[.slice ad i cp]) w9),(some 59,.v<|pt U),(some 60,.v<|pq U 3),(none,.v undef)] [20,23] [3,7,10,14,17,19] ((dO _ _).drew) (Tm D.tr.row.lt)
    ⟨(@λs x hdf hl K E hv hK=>by
     have Z:Below _ w9 x:=E;let⟨q,e1,e2⟩:=hl 57 _ W;let⟨hq,d4⟩:=e2 wq;let⟨i0,d9,d5,e0,d7⟩:=YI wO;refine mq _ 112 i0 _ 6 72 N0 d9 d5 e0 d7 W K3 _ _ _ (hv W) (D.below Z).tr.lo.2.1 _ 1 1 (wI ⟨F9.ak,l,c⟩ _) e1 W d4 e7 (by unfold maxLen;omega) wq (D.below Z).tr.hb ?_;intro v' y ho e3 hfr;refine hK v' y ((Kb.h Z).grown e3<|λk hk=>LZ (by rw[hk];simp)) (λh=>absurd h wq) nn1 ⟨wq,?_,hfr.pre Z⟩;rw[EI<|D.tr.lo.1];rw[Xm];exact ho),(@λs x hdf hl K E hv hK=>by
     have Z:Kb _ w9 x:=E;obtain⟨-,h1,h2⟩:=hl 58 _ W;have a0:=Z.row D.tr.row a4;let⟨ad,cp,e⟩:=dt h1;exact kY (λ_=>N0) ⟨_,_,_,e⟩ (hv W) W (rc a0 _) (a0.frozen 3)<|hK _ _ ⟨_,fC h1 (dS a0 h1 yO) _ _,h2,Up.bM _ Z a4 D.tr.row.lt⟩ (λ_=>⟨_,W⟩) (λ_=>W) W),AF⟩
    ⟨(λJ E hv hK=>by
     have Z:=MI E<|J 1 23;exact dm (v:=pt U) (hv W) ((rc (Z.row D.fr.row e5) _).trans<|Xl _ D.ptr)<|kx hK),(λJ E hv hK=>by
     have Z:=MI E<|J 1 23;exact dm (v:=pt U) (hv W) ((rc (Z.row D.fr.row e5) _).trans<|Xl _ D.ptr)<|kx hK),(λJ E hv hK=>by
     have Z:=wM E<|J 0 20;exact dm (hv W) (rc (D.below Z).tr.row _)<|kx hK),(λJ E hv hK=>by
     have Z:=wM E<|J 0 20;have hr:=(D.below Z).fr.row;exact dD (hv W) (rc hr _) (rc hr _) (rc hr _) (rc hr _)<|kx hK),(λJ E hv hK=>by
     have Z:=wM E<|J 0 20;exact rR @hv (zQ<|e4 _ Z)<|kx hK),(λJ E hv hK=>by
     have Z:=wM E<|J 0 20;refine AB (hv W)<|hK _ _ (ai (dO _ _) _) nn1 ⟨_,W,λ_=>⟨K2,?_⟩⟩;exact fJ _ #[lu F9.ak 0,lu F9.ak 1,lu F9.ak 2,lu F9.ak 3,.slice ad i cp,.string c] 112),AF⟩
    (λi d T' he p v x x' hne hp E hrel hT=>by
     have P:=Xe he;simp only[IF,XV,reduceCtorEq,Zb,Za,XI,Xk,En.l.injEq]at P;rcases P with⟨-,rfl⟩|⟨-,rfl⟩
     .obtain⟨q,e1,e2⟩:=hT;exact⟨q,e1,λh=>wq⟩
     .exact NL D.tr a4 hp E hrel hT) (λi d T' he p v x x' E hb hT=>by
     have P:=Xe he;simp only[IF,XV,reduceCtorEq,Zb,Za,XI,Xk,En.l.injEq]at P;rcases P with⟨-,rfl⟩|⟨-,rfl⟩
     .obtain⟨q,e1,e2⟩:=hT;exact⟨q,e1,λh=>⟨Xg (e2 h).1 hb.size,λj u hu=>(hb.cell (by rw[nD];exact(e2 h).1)).trans<|(e2 h).2 j u hu⟩⟩
     exact⟨hT.1,dh hT.2.1 hb,hT.2.2⟩) ?_
  intro gg z hz _;obtain⟨v',u1,u2,u3⟩:PhL _ U V (T.ay++[⟨_,l,c⟩]) _ w9 2 z:=hz;have c:Hd (Out2 (lY R) O H U T V S 0 w AG z):=by show Out2 _ _ _ _ _ _ _ _ _ _ _;rw[f6.aa];exact⟨W,log_to D u1 u2 u3 f2 HNO HKW HSW<|λk hk=>i3.tr.lt hk⟩
  clear hz u1 u2 u3 D f2 e4 a4 e7;simp only[n8,sx9];go_wp2;go_end0;exact c
def DM{a:Act}(h:Fr O H F S X C w)(m:([2,3,4,5,6,7,8,9,10,11,12,13]:Tl).all (λd=>decide (d<a.tmps.size))=true)(c:tG a 0<|pt H)(J:∀u b s x,(db (F)=none\/dC (dV<|db<|F) (32) (A1<|db<|F)=none\/dB (lK<|qZ<|dC (dV<|db<|F) (32)<|A1<|db<|F) (A1<|dC (dV<|db<|F) (32)<|A1<|db<|F)=none)->s.defers=a.defers->Kb S w x->Q (.panic [{v:=.iface u b,recovered:=false}]) s x)(o:∀(x:WD)(f:Tl)(sv' mv':VL)(z9:VL),Fr O H (A1<|dB (lK<|qZ<|dC (dV<|db<|F) (32)<|A1<|db<|F)<|A1<|dC (dV<|db<|F) (32)<|A1<|db<|F) f sv' mv' x->Kb S w x->(∀j∈f,j∈S\/w.heap.size<=j)->(Pr 2<|dC (dV<|db<|F) (32)<|A1<|db<|F) (4,mv') f z9 x->Q .normal (dQ a [(2,pt H),(3,pt H),(4,pq H 19),(5,pt H),(6,pt H),(7,pt H),(8,pq H 19),(9,wv<|dV<|db<|F),(10,wv<|32),(11,z9),(12,wv<|lK<|qZ<|dC (dV<|db<|F) (32)<|A1<|db<|F),(13,Value.tuple #[])]) x):(ym f265 0).wp prog Q a w:=by
 exact fG (λk=>match k with|0=>F|1=>A1 _|2=>A1 _|3=>A1 _|_=>A1 _) h [(0,.pointer _)] [(some 2,.v _),(some 3,.v _),(some 4,.v _),(some 5,.v _),(some 6,.v _),(some 7,.v _),(some 8,.v _),(some 9,.v _),(some 10,.v _),(some 11,.l _),(some 12,.v _),(some 13,.v _)] [7,9,10,11] [8] (ha:=⟨N0,m,(eR c W),N0⟩) (aIn (sk<|mn) AF)
  ⟨(λs x S1 V P E G D I Y q K R=>pM (r:=db<|F) lZ (za<|Y 8 _ W) (kO x E) W (λ_ _ e=>by rw[e];rfl) (λL u b U c=>J u b s U (LZ L) I<|G.trans c D) R),(λs x S1 V P E G D I Y q K R=>A9 wX (PE (Y 5 _ W) (Y 9 _ W)<|Y 10 _ W) (nC _ _ x E) W (λL u b U c=>J u b s U (A4<|LZ L) I<|G.trans c D) R),(λs x S1 V P E G D I Y q K R=>eK qY (za W) (nB (qZ<|dC (dV<|db<|F) (32)<|A1<|db<|F) (By (Mm) K3) x<|Pr.bD (q 11 _ W) E)<|λe U Z=>⟨_,Z.1,R _ S1 V P U (E.below Z.2) (Kb.h Z.2) (λj p=>LZ p) nn1 W⟩),(λs x S1 V P E G D I Y q K R=>pM pT (xa (Y 4 _ W)<|Y 12 _ W) (ix x E) W (λ_ _ _=>W) (λL u b U c=>J u b s U (A4<|A4 L) I<|G.trans c D) R),AF⟩
  ⟨(λ_ _ R=>eK qJ (za W) (fT (32) wq _)<|λe U Z=>⟨_,Z.1,R _ U Z.2 nn1 W⟩),AF⟩
  λg x f sv' mv' E G D b=>o x f sv' mv' _ E G D<|b 9 _ _ W
def ie(F:Fz):Option (Unit×Fz):=dX (db F)<|dX (dC (dV<|db F) 32<|A1<|db F)<|dB (lK<|qZ<|dC (dV<|db F) 32<|A1<|db F)<|A1<|dC (dV<|db F) 32<|A1<|db F
def Gn(w:WD)(h:Fr O H F S X C w):cP 265 #[pt H] w (gC (ie F) dR O H S w):=by
 go_enter func265,ntmps265;go_wp2;refine DM h W W ?_ ?_
 .intro u pv s x G hd hk;have e:ie F=none:=by
   rcases G with e|e|e
   .exact dE (LZ e)
   .exact dE (A4<|dE<|LZ e)
   exact dE<|A4<|dE<|A4 e
  rw[e];exact⟨hd,⟨_,_,W⟩,hk⟩
 intro x P Q J z D I E U;have e:ie F=_:=(ed λe=>gG (sR<|Pg<|eD e) D).trans<|(ed λe=>gG (sR<|eD e) D).trans<|ou λe=>gG (eD e) D;have L:Hd (gC (ie F) dR O H S w AG x):=by rw[e];exact⟨W,P,_,_,D,I,E⟩
 simp only[n8];go_wp2;go_end0;exact L
def Fz.sj(F:Fz)(t j:VL):Fz:={F with aC:=t,jd:=j}
def kU{α:Type}(t j:VL)(r:Option<|α×Fz):Option (α×Fz):=r.map λy=>(y.1,y.2.sj t j)
section
variable {t j:VL} {α β:Type}
def jN(a:α)(F:Fz):kU t j (some (a,F))=some (a,F.sj t j):=rfl
theorem fM{r:Option<|α×Fz}{k C:Option<|β×Fz}(h:r≠none->C=kU t j k):dX (kU t j r) C=kU t j (dX r k):=by
 cases r with
 |none=>rfl
 |some y=>exact h K2
theorem kw(r:Option<|Nat×Fz):dV (kU t j r)=dV r:=by cases r<;>rfl
theorem gq{r:Option<|α×Fz}(h:r≠none):A1 (kU t j r)=(A1 r).sj t j:=by
 cases r with
 |none=>grind
 |some y=>rfl
theorem Ug(r:Option<|(Nat×Nat)×Fz):qZ (kU t j r)=qZ r:=by cases r<;>rfl
def DR{r:Option<|(Nat×Nat)×Fz}(h:r≠none)(L:Vf):kN (kU t j r) L=(kN r L).sj t j:=by
 cases r with
 |none=>grind
 |some y=>rfl
theorem fR(F:Fz):db (F.sj t j)=kU t j (db F):=by unfold db;show(match F.st with|[]=>none|n::r=>some (n,{F.sj t j with st:=r}))=_;cases F.st<;>rfl
theorem jR(F:Fz):dB n (F.sj t j)=kU t j (dB n F):=by
 unfold dB;show(if F.st.length=1024 then none else some ((),{F.sj t j with st:=n::F.st}))=_;by_cases h:F.st.length=1024
 .rw[At h,At h];rfl
 rw[iF h,iF h];rfl
def G8(c:Nat)(F:Fz):im c (F.sj t j)=kU t j (im c F):=by
 unfold im;show(if F.ac<c then none else some ((),{F.sj t j with ac:=F.ac-c}))=_;by_cases h:F.ac<c
 .rw[At h,At h];rfl
 rw[iF h,iF h];rfl
def Te(n:Nat)(F:Fz):jH n (F.sj t j)=kU t j (jH n F):=by
 unfold jH;rw[G8];show(if n<=dw F.mem.length then some ((),F.sj t j)else match kU t j (im (3*(n-dw F.mem.length)) F)with|none=>none|some (_,F1)=>some ((),{F1 with mem:=F1.mem++List.replicate (32*(n-dw F.mem.length)) 0}))=_;by_cases h:n<=dw F.mem.length
 .rw[At h,At h];rfl
 rw[iF h,iF h];cases im (3*(n-dw F.mem.length)) F<;>rfl
theorem jP(p n:Nat)(F:Fz):dC p n (F.sj t j)=kU t j (dC p n F):=by
 unfold dC;rw[Te];by_cases h:n%M=0
 .rw[At h,At h];rfl
 rw[iF h,iF h];by_cases C:jp p n 65536
 .rw[At C,At C];cases jH (dw<|p%M+n%M) F<;>rfl
 rw[iF C,iF C];rfl
theorem AR(F:Fz):∀n,eM n (F.sj t j)=kU t j (eM n F)
 |0=>rfl
 |n+1=>by rw[eM,eM,AR F n];grind[eM,db,kU,fR]
theorem Uw(J:Nat)(F:Fz):re J (F.sj t j)=kU t j (re J F):=by
 unfold re;rw[AR];cases eM (fY J) F with
 |none=>rfl
 |some y=>
  let⟨l,G⟩:=y;show(match(if J=10 then im (10*(pl (l.getD 1 0) 0).length) (G.sj t j)else some ((),G.sj t j))with|none=>none|some (_,C)=>dB (ep J (l.getD 0 0%M) (l.getD 1 0%M)<|l.getD 2 0%M) C)=kU t j (match(if J=10 then im (10*(pl (l.getD 1 0) 0).length) G else some ((),G))with|none=>none|some (_,C)=>dB (ep J (l.getD 0 0%M) (l.getD 1 0%M)<|l.getD 2 0%M) C);by_cases h:J=10
  .rw[At h,At h,G8];cases im (10*(pl (l.getD 1 0) 0).length) G with
   |none=>rfl
   |some z=>let⟨u,C⟩:=z;exact jR C
  rw[iF h,iF h];exact jR G
theorem AVQ(n:Nat)(F:Fz):fF n (F.sj t j)=kU t j (fF n F):=by unfold fF;rw[jR];show(match kU t j (dB (lK<|dH F.ae (F.nx%M) n) F)with|none=>none|some (_,F1)=>some ((),{F1 with nx:=F1.nx+n}))=_;cases dB (lK<|dH F.ae (F.nx%M) n) F<;>rfl
theorem dup_sj(n:Nat)(F:Fz):vR n (F.sj t j)=kU t j (vR n F):=by
 unfold vR;rw[jR];show(if n<=F.st.length then kU t j (dB (F.st.getD (n-1) 0) F)else none)=_;by_cases h:n<=F.st.length
 .grind
 rw[iF h,iF h];rfl
theorem Rx(n:Nat)(F:Fz):nv n (F.sj t j)=kU t j (nv n F):=by
 unfold nv;show(if n<F.st.length then some ((),{F.sj t j with st:=pC n F.st})else none)=_;by_cases h:n<F.st.length
 .rw[At h,At h];rfl
 rw[iF h,iF h];rfl
theorem end_sj(J:Nat)(F:Fz):sV J (F.sj t j)=kU t j (sV J F):=by
 unfold sV;by_cases h:J=0
 .rw[At h,At h];rfl
 rw[iF h,iF h];show(match db (Fz.sj {F with aG:=true} t j)with|none=>none|some (p,E)=>match db E with|none=>none|some (n,G)=>match dC p n G with|none=>none|some ((a,b),C)=>some ((),if J=253 then{C with aa:=⟨(dM C.mem a b).toArray⟩,aE:=1}else{C with aa:=⟨(dM C.mem a b).toArray⟩}))=_;rw[fR];cases db {F with aG:=true}with
 |none=>rfl
 |some y=>
  let⟨p,E⟩:=y;simp only[jN];rw[fR];cases db E with
  |none=>rfl
  |some z=>
   let⟨n,G⟩:=z;simp only[jN];rw[jP];cases dC p n G with
   |none=>rfl
   |some q=>
    let⟨⟨a,b⟩,C⟩:=q;simp only[jN];by_cases D:J=253
    .rw[At D,At D];rfl
    rw[iF D,iF D];rfl
theorem IV(p:Nat)(F:Fz):lV p (F.sj t j)=kU t j (lV p F):=by
 unfold lV;show(if (LQ p F.ae.size&&(SY F.ae).getD (p%M) false)=true then some ((),{F.sj t j with nx:=p%M})else none)=_;by_cases h:(LQ p F.ae.size&&(SY F.ae).getD (p%M) false)=true
 .rw[At h,At h];rfl
 rw[iF h,iF h];rfl
def Oe(F:Fz):nG (F.sj t j)=kU t j (nG F):=by grind[nG,fR,fM,kw,gq,IV]
def KT(F:Fz):kL (F.sj t j)=kU t j (kL F):=by
 unfold kL;simp only[eP,eV,eb];rw[fR];refine fM λh=>?_;rw[gq h,fR];refine fM λC=>?_;rw[kw,kw,gq C];split
 .rfl
 grind[IV]
def EW(F:Fz):ie (F.sj t j)=kU t j (ie F):=by grind[ie,fR,fM,kw,gq,jP,Ug,jR]
def Ca(F:Fz):hE (F.sj t j)=kU t j (hE F):=by unfold hE;simp only[eP,eV,eb];rw[fR];refine fM λh=>?_;rw[gq h,fR];refine fM λC=>?_;rw[kw,kw,gq C,jP];refine fM λD=>?_;rw[DR D];rfl
def Ch(F:Fz):hH (F.sj t j)=kU t j (hH F):=by unfold hH;simp only[eP,eV,eb];rw[fR];refine fM λh=>?_;rw[gq h,fR];refine fM λC=>?_;rw[kw,kw,gq C,jP];refine fM λD=>?_;rw[DR D];rfl
theorem uk(src:BA)(a b n:Nat)(F:Fz):ez src a b n (F.sj t j)=kU t j (ez src a b n F):=by
 unfold ez;rw[jP];cases dC a n F with
 |none=>rfl
 |some y=>
  let⟨⟨c,d⟩,C⟩:=y;simp only[jN];show(if C.ac<3*dw d then none else some ((),{C.sj t j with ac:=C.ac-3*dw d,mem:=splice C.mem c<|dH src (b%M) d}))=_;by_cases h:C.ac<3*dw d
  .rw[At h,At h];rfl
  rw[iF h,iF h];rfl
def KI(a b n:Nat)(F:Fz):zam a b n (F.sj t j)=kU t j (zam a b n F):=by
 unfold zam;rw[jP];cases dC b n F with
 |none=>rfl
 |some y=>
  let⟨⟨c,d⟩,D⟩:=y;simp only[jN];rw[jP];cases dC a n D with
  |none=>rfl
  |some z=>
   let⟨⟨e,f⟩,C⟩:=z;simp only[jN];show(if C.ac<3*dw d then none else some ((),{C.sj t j with ac:=C.ac-3*dw d,mem:=splice C.mem e<|dM D.mem c d}))=_;by_cases h:C.ac<3*dw d
   .rw[At h,At h];rfl
   rw[iF h,iF h];rfl
def Gq{g:Nat->Nat->Nat->Fz->Option (Unit×Fz)}(C:∀a b c G,g a b c (G.sj t j)=kU t j (g a b c G)):Kr (F.sj t j) (g (eP<|F.sj t j) (eV<|F.sj t j) (pX<|F.sj t j)<|mU<|F.sj t j)=kU t j (Kr F<|g (eP F) (eV F) (pX F)<|mU F):=by unfold Kr;simp only[eP,eV,pX,eb,mU];rw[fR];grind[fM,gq,fR,kw]
def zt:gi src (F.sj t j)=kU t j (gi src F):=Gq (g:=λa b c G=>ez src a b c G)<|λa b c G=>uk src a b c G
def vQ(a b n:Nat)(F:Fz):kJ a b n (F.sj t j)=kU t j (kJ a b n F):=by
 unfold kJ;show(if n%M≠0/\LN b n F.ret.size=false then none else ez F.ret a b n<|F.sj t j)=_;by_cases h:n%M≠0/\LN b n F.ret.size=false
 .rw[At h,At h];rfl
 rw[iF h,iF h];grind[uk]
def vS:fW (F.sj t j)=kU t j (fW F):=Gq (g:=λa b c G=>kJ a b c G)<|λa b c G=>vQ a b c G
def zi(F:Fz):gZ (F.sj t j)=kU t j (gZ F):=Gq (g:=λa b c G=>zam a b c G)<|λa b c G=>KI a b c G
def Rj(C:Nat)(F:Fz)(T:TS):nk C (F.sj t j) T=kU t j (nk C F T):=by unfold nk;rw[fR];refine fM λh=>?_;rw[kw,gq h,jR];rfl
def SH(J:Nat)(F:Fz):eZ J (F.sj t j)=kU t j (eZ J F):=by
 unfold eZ;split
 .exact fR F
 rfl
def sjT(t j:VL)(r:Option<|Fz×TS):Option (Fz×TS):=r.map λy=>(y.1.sj t j,y.2)
theorem OC(E:Nat)(F:Fz)(T:TS):iP E (F.sj t j) T=sjT t j (iP E F T):=by
 unfold iP;show(if F.ro=true then none else _)=_;by_cases C:F.ro=true
 .rw[At C,At C];rfl
 rw[iF C,iF C];simp only[eP,eV,eb];rw[fR];cases E:db F with
 |none=>rfl
 |some y=>
  let⟨a,D⟩:=y;simp only[jN,A1,dV];rw[fR];cases E:db D with
  |none=>rfl
  |some z=>rfl
def U8{E:Nat}(p l:Nat)(D:Tl)(F:Fz)(T:TS):yP E p l D (F.sj t j) T=kU t j (yP E p l D F T):=by
 unfold yP;rw[jP];cases dC p l F with
 |none=>rfl
 |some y=>
  let⟨⟨a,b⟩,C⟩:=y;simp only[jN];show(if C.ac<8*b then none else some (({T with ay:=T.ay++[⟨E,D,dI<|dM C.mem a b⟩]}:TS),({C.sj t j with ac:=C.ac-8*b}:Fz)))=_;by_cases h:C.ac<8*b
  .rw[At h,At h];rfl
  rw[iF h,iF h];rfl
theorem UZ(n p l:Nat)(F:Fz)(T:TS):xL n p l (F.sj t j) T=kU t j (xL n p l F T):=by
 unfold xL;rw[AR];cases eM n F with
 |none=>rfl
 |some y=>let⟨C,D⟩:=y;exact U8 p l C D T
theorem log_sj(n:Nat)(F:Fz)(T:TS):rJ n (F.sj t j) T=kU t j (rJ n F T):=by
 unfold rJ;show(if F.ro=true then none else _)=_;by_cases C:F.ro=true
 .rw[At C,At C];rfl
 rw[iF C,iF C];simp only[eP,eV,eb];grind[fR,fM,gq,kw,UZ]
def M5(D:Wk)(J:Nat){C:Nat}(Z v:Nat)(data:BA)(c d:Nat)(F:Fz)(T:TS):um D J C Z v data c d (F.sj t j) T=kU t j (um D J C Z v data c d F T):=by
 unfold um;show(if jV F T v=true then
  (ji (Fz.sj {F with ac:=F.ac-eA F C} t j) (D (eu J C Z v data F T) T v F.ak Z).1.st (D (eu J C Z v data F T) T v F.ak Z).1.ac (D (eu J C Z v data F T) T v F.ak Z).1.aa c d).map λy=>((D (eu J C Z v data F T) T v F.ak Z).2,y.2)
 else(dB 0<|F.sj t j).map λy=>(T,y.2))=_
 by_cases h:jV F T v=true
 .rw[At h,At h];unfold ji;rw[show∀(G:Fz) g o,zB (G.sj t j) g o c d=(zB G g o c d).sj t j from λ_ _ _=>W,jR];cases dB _ _<;>rfl
 rw[iF h,iF h,jR];cases dB 0 F<;>rfl
def D6(E:Wk)(J C Z v I D O L:Nat)(F:Fz)(T:TS):mF E J C Z v I D O L (F.sj t j) T=kU t j (mF E J C Z v I D O L F T):=by
 unfold mF;rw[jP];cases dC I D F with
 |none=>rfl
 |some y=>
  let⟨⟨a,b⟩,G⟩:=y;simp only[jN];rw[jP];cases dC O L G with
  |none=>rfl
  |some z=>let⟨⟨c,d⟩,H⟩:=z;exact M5 E J Z v (dI _) c d {H with ret:=⟨_⟩} T
def PG(G:Wk)(J C Z v I E O L:Nat)(F:Fz)(T:TS):CP G J C Z v I E O L (F.sj t j) T=kU t j (CP G J C Z v I E O L F T):=by
 unfold CP pd;show(match(if v%M=0 then some ((),F.sj t j)else if F.ro=true then none else im 900<|F.sj t j)with|none=>none|some (_,H)=>mF G J C Z v I E O L H T)=_;by_cases h:v%M=0
 .rw[At h,At h];exact D6 ..
 rw[iF h,iF h];by_cases D:F.ro=true
 .rw[At D,At D];rfl
 rw[iF D,iF D,G8];cases im 900 F with
 |none=>rfl
 |some y=>let⟨u,H⟩:=y;exact D6 ..
theorem U4(C:Wk)(J:Nat)(F:Fz)(T:TS):jj C J (F.sj t j) T=kU t j (jj C J F T):=by unfold jj oK;simp only[eP,eV,eb];rw[fR];refine fM λH=>?_;rw[gq H,fR];refine fM λE=>?_;rw[gq E,SH];refine fM λO=>?_;rw[gq O,fR];refine fM λG=>?_;rw[gq G,fR];refine fM λL=>?_;rw[gq L,fR];refine fM λD=>?_;rw[gq D,fR];refine fM λI=>?_;simp only[kw];rw[gq I,PG]
end
def kP(r:Option<|Unit×Fz)(T:TS):Option (Fz×TS):=r.map λy=>(y.2,T)
def xn(J:Nat)(F:Fz)(T:TS):Option (Unit×Fz):=
 if J=48 then dB F.ak F else if J=49 then dX (db F)<|dB (T.aw<|dV<|db F).ai<|A1<|db F
 else if J=51 then dB F.ax F else if J=52 then dB F.value F
 else if J=53 then dX (db F)<|dB (lK<|dH F.data (dV (db F)%M) 32)<|A1<|db F
 else if J=54 then dB F.data.size F else if J=55 then gi F.data F
 else if J=56 then dB F.ae.size F else if J=57 then gi F.ae F
 else if J=61 then dB F.ret.size F else fW F
def vG(J:Nat)(F:Fz)(T:TS):Option (Unit×Fz):=
 if J=80 then yj F else if J=81 then ie F else if J=82 then hE F else if J=83 then hH F
 else if J=84 then nk 1 F T else if J=86 then nG F else if J=87 then kL F else if J=88 then dB F.pc F
 else if J=89 then dB F.mem.length F else if J=90 then dB F.ac F else if J=91 then some ((),F)
 else if J=92 then nk 2 F T else gZ F
def xz(J:Nat)(F:Fz)(T:TS):Option (Fz×TS):=if J=85 then iP 1 F T else if J=93 then iP 2 F T else kP (vG J F T) T
def vW(wk:Wk)(J:Nat)(F:Fz)(T:TS):Option (Fz×TS):=
 if pA J=true then kP (re J F) T else if J<48 then kP (sV J F) T else if J<80 then kP (xn J F T) T
 else if J<95 then xz J F T else if J<128 then kP (fF (J-95) F) T else if J<144 then kP (vR (J-128+1) F) T
 else if J<160 then kP (nv (J-144+1) F) T else if J<165 then lY<|rJ (J-160) F T
 else if J=241\/J=244\/J=250 then lY (jj wk J F T)else kP (sV J F) T
def eG(F:Fz)(c:Nat):Fz:={si F with ac:=F.ac-c}
def mh(wk:Wk)(F:Fz)(T:TS):Option (Fz×TS):=match eF (kv F)with
 |none=>none
 |some c=>if F.ac<c then none else vW wk (kv F) (eG F c) T
section
variable {t j:VL}
theorem I4(r:Option<|Unit×Fz)(T:TS):kP (kU t j r) T=sjT t j (kP r T):=by cases r<;>rfl
theorem swp_sj(r:Option<|TS×Fz):lY (kU t j r)=sjT t j (lY r):=by cases r<;>rfl
theorem Sh(J:Nat)(F:Fz)(T:TS):xn J (F.sj t j) T=kU t j (xn J F T):=by
 unfold xn;have C:dX (db<|F.sj t j) (dB (T.aw<|dV<|db<|F.sj t j).ai<|A1<|db<|F.sj t j)=kU t j (dX (db F)<|dB (T.aw<|dV<|db F).ai<|A1<|db F):=by grind[fR,fM,kw,gq,jR]
 have D:dX (db<|F.sj t j) (dB (lK<|dH F.data (dV (db<|F.sj t j)%M) 32)<|A1<|db<|F.sj t j)=kU t j (dX (db F)<|dB (lK<|dH F.data (dV (db F)%M) 32)<|A1<|db F):=by grind[fR,fM,kw,gq,jR]
 repeat' split
 all_goals first|exact jR _|exact C|exact D|exact zt|exact vS
def VF(F:Fz):yj (F.sj t j)=kU t j (yj F):=by unfold yj;rw[fR];cases db F<;>rfl
theorem QE(J:Nat)(F:Fz)(T:TS):vG J (F.sj t j) T=kU t j (vG J F T):=by have C:(F.sj t j).pc=F.pc:=rfl;have E:(F.sj t j).mem=F.mem:=rfl;have D:(F.sj t j).ac=F.ac:=rfl;unfold vG;simp only[apply_ite<|kU t j,VF,EW,Ca,Ch,Rj,Oe,KT,C,E,D,jR,zi,jN]
theorem MB(J:Nat)(F:Fz)(T:TS):xz J (F.sj t j) T=sjT t j (xz J F T):=by grind[xz,OC,QE,I4]
def doM_sj(C:Wk)(J:Nat)(F:Fz)(T:TS):vW C J (F.sj t j) T=sjT t j (vW C J F T):=by grind[vW,Uw,end_sj,Sh,MB,AVQ,dup_sj,Rx,log_sj,U4,I4,swp_sj]
def PD(C:Wk)(F:Fz)(T:TS):mh C (F.sj t j) T=sjT t j (mh C F T):=by
 unfold mh;show(match eF (kv F)with|none=>none|some c=>if F.ac<c then none else vW C (kv F) ((eG F c).sj t j) T)=_;cases eF (kv F)with
 |none=>rfl
 |some c=>
  show(if F.ac<c then none else vW C (kv F) ((eG F c).sj t j) T)=sjT t j (if F.ac<c then none else vW C (kv F) (eG F c) T);by_cases h:F.ac<c
  .rw[At h,At h];rfl
  rw[iF h,iF h,doM_sj]
end
def P5(F F':Fz):=∃st mem ac,F'={F with st:=st,mem:=mem,ac:=ac}/\ac<=F.ac
theorem P5.refl(F:Fz):P5 F F:=⟨F.st,F.mem,F.ac,W,DO _⟩
theorem P5.trans(h:P5 F G)(k:P5 G Hq9):P5 F Hq9:=by obtain⟨a,b,c,rfl,H⟩:=h;obtain⟨D,I,E,rfl,C⟩:=k;exact⟨D,I,E,W,By C H⟩
def PF5{α:Type}(F:Fz)(r:Option<|α×Fz):=∀a F',r=some (a,F')->P5 F F'
section
variable {α β:Type}
theorem PF5.none(F:Fz):PF5 (α:=α) F none:=λa F' h=>by cases h
theorem PF5.ak(F:Fz)(a:α):PF5 F (some (a,F)):=λa F' h=>by grind[Xi,hV,P5.refl]
def PF5.then{r:Option<|α×Fz}{k:Option<|β×Fz}(h:PF5 F r)(C:r≠Option.none->PF5 (A1 r) k):PF5 F (dX r k):=by
 cases r with
 |none=>exact PF5.none F
 |some y=>let⟨a,G⟩:=y;exact λb F' e=>(h a G W).trans<|C K2 b F' e
theorem eQ(F:Fz):PF5 F (db F):=λa F' h=>by
 unfold db at h;split at h
 .cases h
 obtain⟨_,rfl⟩:=Xi<|hV h;exact⟨_,_,_,W,DO _⟩
theorem za3(F:Fz):PF5 F (dB n F):=λa F' h=>by
 unfold dB at h;split at h
 .cases h
 obtain⟨_,rfl⟩:=Xi<|hV h;exact⟨_,_,_,W,DO _⟩
def AJ(F:Fz):PF5 F (im n F):=λa F' h=>by
 unfold im at h;split at h
 .cases h
 obtain⟨_,rfl⟩:=Xi<|hV h;exact⟨_,_,_,W,ZF _ _⟩
def VA(F:Fz):PF5 F (jH n F):=λa F' h=>by
 unfold jH at h;split at h
 .exact PF5.ak F () a F' h
 split at h
 .cases h
 rename_i u C D;obtain⟨_,rfl⟩:=Xi<|hV h;exact(AJ F _ _ D).trans ⟨_,_,_,W,DO _⟩
def iH(n:Nat)(F:Fz):PF5 F (dC p n F):=λa F' h=>by
 unfold dC at h;split at h
 .exact PF5.ak F _ a F' h
 split at h
 .split at h
  .cases h
  rename_i u C D;obtain⟨_,rfl⟩:=Xi<|hV h;exact VA F _ _ D
 grind
theorem wH(F:Fz):∀n,PF5 F<|eM n F
 |0=>PF5.ak F _
 |n+1=>λa F' h=>by
  rw[eM]at h;split at h
  .cases h
  rename_i l G E;split at h
  .cases h
  rename_i m D C;obtain⟨_,rfl⟩:=Xi<|hV h;exact(wH F n _ _ E).trans<|eQ G _ _ C
def I6(J:Nat)(F:Fz):PF5 F (re J F):=λa F' h=>by
 unfold re at h;split at h
 .cases h
 rename_i l G E;split at h
 .cases h
 rename_i u C D;refine(wH F _ _ _ E).trans<|P5.trans ?_<|za3 C _ _ h;split at D
 .exact AJ G _ _ D
 exact PF5.ak G () _ _ D
def Nm(F:Fz):PF5 F (vR n F):=by grind[vR,za3,PF5.none]
def I5(F:Fz):PF5 F (nv n F):=λa F' h=>by
 unfold nv at h;split at h
 .obtain⟨_,rfl⟩:=Xi<|hV h;exact⟨_,_,_,W,DO _⟩
 grind
def LV{r:Option<|(Nat×Nat)×Fz}(h:PF5 F r)(C:r≠Option.none)(L:Vf):P5 F (kN r L):=by
 cases r with
 |none=>grind
 |some y=>let⟨⟨a,b⟩,G⟩:=y;exact(h _ _ W).trans ⟨_,_,_,W,DO _⟩
theorem sn:PF5 F (ez src a b n F):=λu F' h=>by
 unfold ez at h;split at h
 .cases h
 rename_i c d C D;split at h
 .cases h
 obtain⟨_,rfl⟩:=Xi<|hV h;exact(iH _ F _ _ D).trans ⟨_,_,_,W,ZF _ _⟩
def KN:PF5 F (zam a b n F):=λu F' h=>by
 unfold zam at h;split at h
 .cases h
 rename_i c d D H;split at h
 .cases h
 rename_i e f E C;split at h
 .cases h
 obtain⟨_,rfl⟩:=Xi<|hV h;exact((iH _ F _ _ H).trans<|iH _ D _ _ C).trans ⟨_,_,_,W,ZF _ _⟩
def FC{r:Option<|Unit×Fz}(h:PF5 (mU F) r):PF5 F (Kr F r):=by unfold Kr;exact(eQ F).then λ_=>(eQ _).then λ_=>(eQ _).then λ_=>h
def Jr(J:Nat)(F:Fz)(T:TS):PF5 F (xn J F T):=by
 unfold xn;repeat' split
 all_goals first
  |exact za3 F
  |exact(eQ F).then λ_=>za3 _
  |exact FC<|sn
  |(refine FC ?_;grind[kJ,PF5.none,sn])
def P6(F F':Fz):=∃G n,P5 F G/\F'={G with nx:=n}/\(n=F.nx\/n<=F.ae.size)
def P6.of(h:P5 F F'):P6 F F':=by obtain⟨a,b,c,rfl,C⟩:=h;exact⟨_,_,⟨a,b,c,W,C⟩,W,LZ W⟩
def P6.pre(h:P5 F G)(k:P6 G Hq9):P6 F Hq9:=by let⟨C,n,E,D,H⟩:=k;refine⟨C,n,h.trans E,D,?_⟩;obtain⟨a,b,c,rfl,_⟩:=h;exact H
def Jx{u:Unit}(h:lV p F=some (u,F')):P6 F F':=by
 unfold lV at h;split at h
 .rename_i hb;obtain⟨_,rfl⟩:=Xi<|hV h;refine⟨F,_,P5.refl F,W,A4 ?_⟩;grind[LQ]
 grind
def EU(F:Fz):PF5 F (ie F):=(eQ F).then λ_=>(iH _ _).then λ_=>za3 _
def zF(F:Fz)(n:Nat)(L:Vf):PF5 F (dX (db F)<|dX (db<|A1<|db F)<|dX (dC (eP F) n<|eb F)<|some ((),kN (dC (eP F) n<|eb F) L)):=by
 refine(eQ F).then λD=>(eQ _).then λC=>?_;intro a F' e;cases E:dC (eP F) n (eb F)with
 |none=>rw[E]at e;cases e
 |some y=>rw[E]at e;obtain⟨_,rfl⟩:=Xi<|hV e;exact LV (E▸iH n _) K2 L
def Ic(F:Fz)(T:TS):PF5 F (nk kd F T):=(eQ F).then λ_=>za3 _
def TP(F:Fz):PF5 F (yj F):=λu F' h=>by
 unfold yj at h;cases C:db F with
 |none=>grind
 |some y=>let⟨n,G⟩:=y;rw[C]at h;obtain⟨_,rfl⟩:=Xi<|hV h;exact eQ F _ _ C
def Mn{u:Unit}(h:nG F=some (u,F')):P6 F F':=by
 unfold nG at h;cases C:db F with
 |none=>rw[C]at h;cases h
 |some y=>let⟨n,G⟩:=y;rw[C]at h;exact P6.pre (eQ F _ _ C)<|Jx h
def ci{u:Unit}{c:Prop}[Decidable c]{a b:Option<|Unit×Fz}(ha:a=some (u,F')->P6 F F')(C:b=some (u,F')->P6 F F')(h:(if c then a else b)=some (u,F')):P6 F F':=K9
def FU(y:α×Fz)(k:Option<|β×Fz):dX (some y) k=k:=rfl
def JV(n:Nat)(F:Fz):dV (some (n,F))=n:=rfl
def Gv(a:α)(F:Fz):A1 (some (a,F))=F:=rfl
def JZ{u:Unit}(h:kL F=some (u,F')):P6 F F':=by
 unfold kL at h;simp only[eP,eV,eb]at h;cases D:db F with
 |none=>rw[D]at h;cases h
 |some y=>
  let⟨n,G⟩:=y;rw[D]at h;have h:dX (db G) (if dV (db G)%M=0 then some ((),A1<|db G)else lV n<|A1<|db G)=some _:=h;cases C:db G with
  |none=>rw[C]at h;cases h
  |some z=>let⟨m,Hq9⟩:=z;rw[C]at h;simp only[FU,JV,Gv]at h;refine P6.pre ((eQ F _ _ D).trans<|eQ G _ _ C) ?_;exact ci (λh=>P6.of<|PF5.ak Hq9 () _ _ h) Jx h
def Cv(F:Fz):PF5 F (hE F):=zF F 32<|qc (eV F) 0
def Bo(F:Fz):PF5 F (hH F):=zF F 1 [xA<|eV F]
def zg(F:Fz):PF5 F (gZ F):=FC<|KN
def C4{u:Unit}(h:vG J F T=some (u,F')):P6 F F':=by unfold vG at h;exact ci (λh=>P6.of<|TP F _ _ h) (ci (λh=>P6.of<|EU F _ _ h)<|ci (λh=>P6.of<|Cv F _ _ h)<|ci (λh=>P6.of<|Bo F _ _ h)<|ci (λh=>P6.of<|Ic F T _ _ h)<|ci Mn<|ci JZ<|ci (λh=>P6.of<|za3 F _ _ h)<|ci (λh=>P6.of<|za3 F _ _ h)<|ci (λh=>P6.of<|za3 F _ _ h)<|ci (λh=>P6.of<|PF5.ak F () _ _ h)<|ci (λh=>P6.of<|Ic F T _ _ h)<|λh=>P6.of<|zg F _ _ h) h
end
structure Wf(F:Fz):Prop where
 cs:F.ae.size<=1000
 ds:F.data.size<=65536
 rs:F.ret.size<=65536
 dp:F.depth<=16
 nx:F.nx<=3000
 pc:F.pc<=3000
structure WfT(T:TS):Prop where
 cs:∀a,(T.aw a).ae.size<=1000
 ch:T.ch.length<10000000
 lo:T.ay.length<10000000
 kd:∀c∈T.ch,c.kind<3
def Out2.mono{r:Option<|Fz×TS}{e:Ending}(h:Out2 r O H U T V S m w e w')(Y:m<=m'):Out2 r O H U T V S m' w e w':=by
 cases r with
 |none=>exact h
 |some y=>let⟨F',Z⟩:=y;let⟨P,E,Q,R,I,D,G,L,k4,d,k6⟩:=h;exact⟨P,E,_,_,I,D,G,L,k4,wq,k6⟩
def P5.aC(h:P5 F F'):F'.aC=F.aC:=by obtain⟨a,b,c,rfl,_⟩:=h;rfl
def P6.aC(h:P6 F F'):F'.aC=F.aC:=by obtain⟨G,n,⟨a,b,c,rfl,_⟩,rfl,_⟩:=h;rfl
def vX{u:Unit}(h:fF n F=some (u,F')):F'.aC=F.aC:=by
 unfold fF at h;split at h
 .cases h
 rename_i D;obtain⟨_,rfl⟩:=Xi<|hV h;exact(za3 F _ _ D).aC
def Ax{u:Unit}(h:sV J F=some (u,F')):F'.aC=F.aC:=by
 unfold sV at h;split at h
 .grind
 split at h
 .cases h
 rename_i p L E;split at h
 .cases h
 rename_i n I D;split at h
 .cases h
 rename_i a b P G;obtain⟨_,rfl⟩:=Xi<|hV h;split<;>exact(((eQ _ _ _ E).trans<|(eQ _ _ _ D).trans<|iH _ _ _ _ G).aC)
theorem Io:∀J,J<256->eF J≠none->pA J=false->J<48->J=0:=K3
def GQ:((List.range 256).all λJ=>(eF J).isNone||decide (J<48)||decide (80<=J)||([48,49,51,52,53,54,55,56,57,61,62]:Tl).contains J)=true:=N0
theorem vi(J:Nat)(D:J<256)(I:eF J≠none)(G:48<=J)(E:J<80):J∈([48,49,51,52,53,54,55,56,57,61,62]:Tl):=by have h:=Xp.1 GQ J<|XS.2 D;rw[W8<|show¬J<48 by omega,W8<|show¬80<=J by omega]at h;simp_all
def Ln:((List.range 256).all λJ=>(eF J).isNone||decide (J<165)||([241,244,250,243,253]:Tl).contains J)=true:=N0
theorem IW(J:Nat)(D:J<256)(G:eF J≠none)(E:165<=J):J=241\/J=244\/J=250\/J=243\/J=253:=by have h:=Xp.1 Ln J<|XS.2 D;rw[W8<|show¬J<165 by omega]at h;simp_all
def RE:∀J,J<256->∀c,eF J=some c->c<=1000:=by
 intro J D c h;have:∀J,J<256->(eF J).getD 0<=1000:=K3
 grind
def surr_I(J:Nat)(D:J<256)(L:eF J≠none)(I:48<=J)(G:J<80)(w:WD)(h:FT O H U F T S X C V w)(Y:Wf F):cP 233 #[pt H,iB (J:Int)] w (gC (xn J F T) dR O H S w):=by
 have E:=vi J D L I G;have Q:=Y.ds;have d2:=Y.rs;have P:=Y.cs;simp at E;repeat' rcases E with rfl|E
 .exact hX (.inl W) w h.fr
 .exact UR h.ptr h.bs h.fr.bu w h.tr h.fr
 .exact hX (.inr<|.inl W) w h.fr
 .exact hX (.inr<|.inr W) w h.fr
 .exact Vw wq w h.fr
 .exact eX (.inl W) wq w h.fr
 .exact SB wq w h.fr
 .exact eX (.inr<|.inl W) wq w h.fr
 .exact SF wq w h.fr
 .exact eX (.inr<|.inr W) wq w h.fr
 exact Ul wq w h.fr
def SJ(J:Nat)(I:80<=J)(G:J<95)(Y:J≠85)(R:J≠93)(w:WD)(h:FT O H U F T S X C V w)(Z:Wf F):cP 234 #[pt H,iB (J:Int)] w (gC (vG J F T) dR O H S w):=by
 have Q:=Z.cs;have P:=Z.pc;have D:∀r:Option _,oi (gC r _ O H S w):=λr e x L=>oU e x L;obtain hm:J=80\/J=81\/J=82\/J=83\/J=84\/J=86\/J=87\/J=88\/J=89\/J=90\/J=91\/J=92\/J=94:=wq
 repeat' rcases hm with rfl|hm
 .exact P8 w h.fr
 .exact pH H w K2 (D _) (Gn w h.fr)
 .exact pH H w K2 (D _) (Da w h.fr)
 .exact pH H w K2 (D _) (ES w h.fr)
 .exact pH H w K2 (D _) (Ip 1 w h<|λx E=>vJ _ _ x E)
 .exact UQ wq w h.fr
 .exact pH H w K2 (D _) (PL wq w h.fr)
 .exact jX (.inl W) wq w h.fr
 .exact L8 (by have:=h.fr.bv;omega) w h.fr
 .exact jX (.inr W) (by have:=h.fr.aN;omega) w h.fr
 .exact(TR H w).mono λe x⟨I,G⟩=>⟨I,by rw[G];exact h.fr.to⟩
 .exact pH H w K2 (D _) (Ip 2 w h<|λx E=>vt _ _ x E)
 exact pH H w K2 (D _)<|Cw w h.fr
def Fo{u:Unit}(h:vG J F T=some (u,F')):F'.aC=F.aC:=(C4 h).aC
def do_I(I:Wk)(G:J<256)(g:eF J≠none)(w:WD)(h:FT O H U F T S X C V w)(l:Wf F)(q:WfT T)(A:2<=m)(hn:V.n+m<800000000000)(j:J=241\/J=244\/J=250->∀D Z v data F',F'.depth=F.depth->F'.ro=F.ro->F'.ak=F.ak->F'.ax=F.ax->F'.value=F.value->F'.ac<=F.ac->data.size<=65536->jV F' T v=true->∀c d,jj I J F T=(ji {F' with ac:=F'.ac-eA F' D} (I (eu J D Z v data F' T) T v F'.ak Z).1.st (I (eu J D Z v data F' T) T v F'.ak Z).1.ac (I (eu J D Z v data F' T) T v F'.ak Z).1.aa c d).map (λy=>((I (eu J D Z v data F' T) T v F'.ak Z).2,y.2))->WakeOk I m (eu J D Z v data F' T) T v F'.ak Z):cP 205 #[pt H,iB (J:Int)] w (Out2 (vW I J F T) O H U T V S m w):=by
 have L:∀{e x}{r:Option _},(∀F',r=some ((),F')->F'.aC=F.aC)->gC r _ _ H S w e x->Out2 (kP r T) _ H U T V S m w e x:=λK E=>(h.lift' (B:=dR) K E).mono<|In _;have d2:=l.nx;have b:=l.dp;unfold vW;by_cases c1:pA J=true
 .rw[At c1];exact rX H J wq w fD (LZ ⟨c1,W,W⟩)<|(J3 J wq w h.fr).mono λe x E=>L (λF' e=>(I6 J F _ _ e).aC) E
 rw[iF c1];by_cases c2:J<48
 .rw[At c2];obtain rfl:=Io J G g (by simpa using c1:pA J=false) c2;exact rX H 0 wq w fD (A4<|A4<|A4<|LZ ⟨LZ W,W,W⟩)<|(Gh w h.fr).mono λe x E=>L (λF' e=>Ax e) E
 rw[iF c2];by_cases c3:J<80
 .rw[At c3];have p:J<=62:=by have:=vi J G g wq c3;simp at this;omega
  exact rX H J wq w fD (A4<|LZ ⟨⟨wq,p⟩,W,W⟩)<|(surr_I J G g wq c3 w h l).mono λe x E=>L (λF' e=>(Jr J F T _ _ e).aC) E
 rw[iF c3];by_cases c4:J<95
 .rw[At c4];refine rX H J wq w fD (A4<|A4<|LZ ⟨⟨wq,wq⟩,W,W⟩) ?_;unfold xz;by_cases f:J=85
  .rw[At f];subst f;exact pH H w K2 fD<|(Ea 1 w h<|λN v x o=>DK v x o (by have:=q.ch;omega) wq).mono λe x E=>E.mono A
  rw[iF f];by_cases Y:J=93
  .rw[At Y];subst Y;exact pH H w K2 fD<|(Ea 2 w h<|λN v x o=>EZ v x o (by have:=q.ch;omega) wq).mono λe x E=>E.mono A
  rw[iF Y];exact(SJ J wq c4 f Y w h l).mono λe x E=>L (λF' e=>Fo e) E
 rw[iF c4];by_cases c5:J<128
 .rw[At c5];exact rX H J wq w fD (A4<|A4<|A4<|A4<|A4<|LZ ⟨⟨wq,wq⟩,W,W⟩)<|(Dm wq l.cs wq w h.fr).mono λe x E=>L (λF' e=>vX e) E
 rw[iF c5];by_cases c6:J<144
 .rw[At c6];refine rX H J wq w fD (A4<|A4<|A4<|A4<|A4<|A4<|LZ ⟨⟨wq,wq⟩,W,W⟩) ?_;have R:=dup_I (J-128+1) wq wq w h.fr;rw[show((J-128+1:Nat))=((J-128:Nat):Int)+1 by omega]at R;exact R.mono λe x E=>L (λF' e=>(Nm F _ _ e).aC) E
 rw[iF c6];by_cases c7:J<160
 .rw[At c7];refine rX H J wq w fD (A4<|A4<|A4<|A4<|A4<|A4<|A4<|LZ ⟨⟨wq,wq⟩,W,W⟩) ?_;have R:=swap_I (J-144+1) wq w h.fr;rw[show((J-144+1:Nat))=((J-144:Nat):Int)+1 by omega]at R;exact R.mono λe x E=>L (λF' e=>(I5 F _ _ e).aC) E
 rw[iF c7];by_cases z:J<165
 .rw[At z];exact rX H J wq w fD (A4<|A4<|A4<|A4<|A4<|A4<|A4<|A4 ⟨⟨wq,wq⟩,W,W⟩)<|(log_I wq w h (by have:=q.lo;omega)).mono λe x E=>E.mono<|In _
 rw[iF z];by_cases P:J=241\/J=244\/J=250
 .rw[At P];exact rX H J wq w fD (A4<|A4<|A4<|A4<|LZ ⟨P,W,W⟩)<|call_I I J wq w h wq q.cs (j P) hn
 rw[iF P];have Q:J=243\/J=253:=by
  rcases IW J G g wq with e|e|e|e|e
  .exact absurd (LZ e) P
  .exact absurd (A4<|LZ e) P
  .exact absurd (A4<|A4 e) P
  .exact LZ e
  exact A4 e
 exact rX H J wq w fD (A4<|A4<|A4<|LZ ⟨A4 Q,W,W⟩)<|(Lf J Q w h.fr).mono λe x E=>L (λF' e=>Ax e) E
theorem Ey(w:WD)(h:FT O H U F T S X C V w)(b:F.nx<=1000000)(k:F.ae.size<=1000)(G:eF (kv F)=none\/∃c,eF (kv F)=some c/\c<=1000/\F.ac<c):cP 158 #[pt H] w (Out2 none O H U T V S m w):=by
 have c1:=h.fr.row.cell (i:=23) K3;have N:=h.fr.row.frozen 23;have c2:=h.fr.row.cell (i:=22) K3;have t:=h.fr.row.frozen 22;rw[show F.cell X C 23=.int _ _ from W]at c1;rw[show F.cell X C 22=.int _ _ from W]at c2;have Z:kv F<=255:=by grind[kv,rU]
 have I:=cV<|tI Z;go_enter func158,ntmps158;go_wp2;rw[(wq:F.nx+1=((F.nx+1:Nat):Int))];have d:To _ H (si F) S w _:=(h.fr.bt 22 _ (H5 F X C F.nx) W W W W h.fr.aN).trans λS1 g R L=>L.bt 23 _ (wJ _ _) W W W W h.fr.aN;let⟨S1,g,R,L,j,o⟩:=d;generalize((w.setCell ⟨H,22,none⟩<|iI (F.nx:Int)).setCell ⟨H,23,none⟩<|iI ((F.nx+1:Nat):Int))=x at*;have z:=L.row.cell (i:=22) K3;rw[show(si F).cell _ _ 22=.int _ F.nx from W]at z;have s:=L.row.cell (i:=1) K3;rw[show(si F).cell _ _ 1=.string F.ae from W]at s;have p:=cV j;have K:=cV o;have P:Hd (∀y c,Below _ x y->c<=1000->F.ac<c->Calls _ _ _ y _):=λy c n Q Y=>by have q:=E4 c wq y<|L.below n;unfold im at q;rwa[At<|show(si F).ac<c from Y]at q
 clear L j o h c1 N c2 t;rcases G with G|⟨c,G,Q,Y⟩
 .rw[G]at I;rw[show uf _=.tuple #[.int _ 0,.bool false] from W]at I;by_cases E:F.nx<F.ae.size
  .have D:kv F=mS _ _:=At E;have l:=rW _ _ E;rw[<-D]at l;generalize kv F=J at*;clear D;go_region;go_wp2;go_region;go_wp2_with(first
    |(go_at_call 203;refine(I _).mono ?_;rintro e A⟨rfl,rfl⟩)
    |fail)
   exact⟨W,⟨_,_,W⟩,p.aa.below<|(dO _ x).drew.drew⟩
  have D:kv F=0:=iF E;rw[D]at G;exact absurd G K3
 rw[G]at I;have f:(uf<|some c)=.tuple #[.int _ c,.bool true]:=rfl;rw[f]at I;by_cases E:F.nx<F.ae.size
 .have D:kv F=mS _ _:=At E;have l:=rW _ _ E;rw[<-D]at l;generalize kv F=J at*;clear D;go_region;go_wp2;go_region;go_wp2_with(first
   |(go_at_call 203;refine(I _).mono ?_;rintro e A⟨rfl,rfl⟩)
   |fail)
  refine(P _ c ((dO _ x).drew.drew) Q Y).mono ?_;rintro e y⟨⟨u,v,rfl⟩,r⟩;exact⟨W,⟨_,_,W⟩,(p.aa.below<|(dO _ x).drew.drew).trans r K.aa⟩
 grind[kv,eF]
def step_I(I:Wk)(l:Wf F)(b:F.nx<=2000)(u:WfT T)(t:2<=m)(G:∀D Z v data F',F'.depth=F.depth->F'.ro=F.ro->F'.ak=F.ak->F'.ax=F.ax->F'.value=F.value->F'.ac+100<=F.ac->data.size<=65536->jV F' T v=true->∀c d,mh I F T=lY ((ji {F' with ac:=F'.ac-eA F' D} (I (eu (kv F) D Z v data F' T) T v F'.ak Z).1.st (I (eu (kv F) D Z v data F' T) T v F'.ak Z).1.ac (I (eu (kv F) D Z v data F' T) T v F'.ak Z).1.aa c d).map<|λy=>((I (eu (kv F) D Z v data F' T) T v F'.ak Z).2,y.2))->WakeOk I m (eu (kv F) D Z v data F' T) T v F'.ak Z):qo F T m (mh I F T):=by
 intro O H U S X C V w h k;have J:kv F<256:=by grind[kv,rU]
 have Q:=l.cs;unfold mh at G⊢;cases b:eF (kv F)with
 |none=>grind[Ey]
 |some c=>
  have R:=RE _ J c b;rw[b]at G;dsimp only at G⊢;by_cases q:F.ac<c
  .rw[At q];grind[Ey]
  rw[iF q]at G⊢;refine Vs w h wq Q b R wq λS1 N g x n=>?_;refine do_I I J (by rw[b];simp) x n ⟨l.cs,l.ds,l.rs,l.dp,by show F.nx+1<=3000;omega,l.nx⟩ u t k ?_;intro E D Z v data F' s z i l f Y o K j A p;have P:c=100:=by rcases E with e|e|e<;>rw[e]at b<;>exact(hV b).symm
  have L:vW I (kv F) (eG F c) T=lY (jj I (kv F) (eG F c) T):=by unfold vW;rw[(by rcases E with e|e|e<;>rw[e]<;>rfl:pA (kv F)=false),iF K2,AQ,AQ,AQ,AQ,AQ,AQ,AQ,At E]
  exact G _ Z v _ F' s z i l f (by have Y:F'.ac<=F.ac-c:=Y;omega) o K j A<|L.trans<|Xl _ p
variable {wk:Wk}
structure Ext(T T':TS):Prop where
 ch:∃l,T'.ch=T.ch++l/\∀c∈l,c.kind<3
 lo:∃l,T'.ay=T.ay++l
 ae:∀a,(T'.aw a).ae=(T.aw a).ae
theorem Ext.refl(T:TS):Ext T T:=⟨⟨[],K2,K2⟩,⟨[],K2⟩,λ_=>W⟩
theorem Ext.trans{C V:TS}(h:Ext T C)(k:Ext C V):Ext T V:=by let⟨l,Q,E⟩:=h.ch;let⟨P,L,D⟩:=k.ch;let⟨m,R⟩:=h.lo;let⟨H,O⟩:=k.lo;refine⟨⟨_,K9,λc I=>(Xr.1 I).elim (E c)<|D c⟩,⟨m++H,K9⟩,λa=>(k.ae a).trans<|h.ae a⟩
def Ai{b:Acc}(D:b.ae=(A a).ae)(C:∀m,m%M=a%M->A m=A a)(m:Nat):(fQ A a b m).ae=(A m).ae:=by
 by_cases e:m%M=a%M
 .grind[jC]
 rw[iV e]
def fB(T:TS):=∀m m',m%M=m'%M->T.aw m=T.aw m'
def zX(C:fB T)(k a:Nat)(v:Nat)(m:Nat):((jK T k a N v).aw m).ae=(T.aw m).ae:=by
 unfold jK;split
 .exact Ai (b:={T.aw a with ai:=v}) W (λm e=>C m a e) m
 split
 .exact Ai (b:={T.aw a with ar:=lE _ _ v}) W (λm e=>C m a e) m
 rfl
def zI(D:fB T)(k a:Nat)(v:Nat):fB (jK T k a N v):=by
 unfold jK;intro m C e;split
 .exact qL a e (D m C e)
 split
 .exact qL a e (D m C e)
 exact D m C e
def qS(D:fB T)(k a N v:Nat)(E:k<3:=by omega):Ext T (iZ T k a N v)/\fB (iZ T k a N v):=by
 have C:fB {T with ch:=T.ch++[⟨k,a,N,xX T k a N⟩]}:=D;refine⟨⟨⟨[⟨k,a,N,xX T k a N⟩],?_,K9⟩,⟨[],?_⟩,λm=>?_⟩,zI C k a v⟩
 .exact(uh k a v).1
 .rw[YQ];exact(uh k a v).2
 exact zX C k a v m
def tq(T:TS)(k a N v:Nat):(iZ T k a N v).ch.length=T.ch.length+1/\(iZ T k a N v).ay=T.ay:=by grind[uh,iZ]
def sN(H:fB T)(C fr Z:Nat):Ext T (fU T C fr Z)/\fB (fU T C fr Z)/\(fU T C fr Z).ch.length=T.ch.length+2/\(fU T C fr Z).ay=T.ay:=by
 have E:=qS H 0 fr 0<|ep 3 ((T.aw fr).ai%M) (C%M) 0;have D:=qS E.2 0 Z 0<|ep 1 (((nN T C fr).aw Z).ai%M) (C%M) 0;refine⟨E.1.trans D.1,D.2,?_,?_⟩
 .show(iZ (nN T C fr) 0 Z 0 _).ch.length=_;rw[(tq (nN T C fr) 0 Z 0<|ep 1 (((nN T C fr).aw Z).ai%M) (C%M) 0).1];show(iZ T 0 fr 0 _).ch.length+1=_;rw[(tq T 0 fr 0<|ep 3 ((T.aw fr).ai%M) (C%M) 0).1]
 rfl
theorem Aq{T:TS}(D:fB T):∀l:List Chg,(∀m,((jo l T).aw m).ae=(T.aw m).ae)/\fB (jo l T)
 |[]=>⟨λ_=>W,D⟩
 |c::r=>by have C:=Aq D r;exact⟨λm=>(zX C.2 _ _ _ m).trans<|C.1 m,zI C.2 _ _ _⟩
def NK(I:fB T')(h:Ext T T')(st:Nat):Ext T (lD T T' st)/\fB (lD T T' st):=by
 unfold lD;split
 .grind
 let⟨l,E,D⟩:=h.ch;let⟨m,H⟩:=h.lo;have C:=Aq I<|T'.ch.drop T.ch.length;refine⟨⟨⟨[],?_,K2⟩,⟨[],?_⟩,λa=>(C.1 a).trans<|h.ae a⟩,C.2⟩
 .show T'.ch.take T.ch.length=_;grind
 show T'.ay.take T.ay.length=_;grind
def Nc(h:Ext T T')(st:Nat):(lD T T' st).ch.length<=T'.ch.length/\(lD T T' st).ay.length<=T'.ay.length:=by
 unfold lD;split
 .omega
 constructor
 .show(T'.ch.take _).length<=_;grind
 show(T'.ay.take _).length<=_;grind
def Ext.len(h:Ext T T'):T.ch.length<=T'.ch.length/\T.ay.length<=T'.ay.length:=by let⟨l,C,_⟩:=h.ch;let⟨m,D⟩:=h.lo;grind
def ux(h:dC p n F=some ((a,b),F1)):b<=65536:=by grind[dC]
theorem mQ{m:Vf}:(dM m a b).length<=b:=by grind[dM]
structure Fx(F F':Fz):Prop where
 ae:F'.ae=F.ae
 data:F'.data=F.data
 depth:F'.depth=F.depth
 ak:F'.ak=F.ak
 ax:F'.ax=F.ax
 value:F'.value=F.value
 ro:F'.ro=F.ro
theorem Fx.trans(h:Fx F G)(k:Fx G Hq9):Fx F Hq9:=⟨k.ae.trans h.ae,k.data.trans h.data,k.depth.trans h.depth,k.ak.trans h.ak,k.ax.trans h.ax,k.value.trans h.value,k.ro.trans h.ro⟩
def P5.fx(h:P5 F F'):Fx F F':=by obtain⟨a,b,c,rfl,_⟩:=h;exact⟨W,W,W,W,W,W,W⟩
def P5.bB(h:P5 F F'):F'.ac<=F.ac/\F'.nx=F.nx/\F'.pc=F.pc/\F'.ret=F.ret/\F'.aa=F.aa/\F'.aE=F.aE/\F'.aG=F.aG:=by obtain⟨a,b,c,rfl,C⟩:=h;grind
structure WkP(wk:Wk)(G:Fz)(T:TS)(v fr Z:Nat):Prop where
 ext:Ext T (wk G T v fr Z).2
 aO:fB (wk G T v fr Z).2
 ac:(wk G T v fr Z).1.ac<=G.ac
 st:(wk G T v fr Z).1.st<=2
 os:(wk G T v fr Z).1.aa.size<=65536
 cf:(wk G T v fr Z).2.ch.length+(wk G T v fr Z).2.ay.length+(wk G T v fr Z).1.ac<=T.ch.length+T.ay.length+2+G.ac
def eS{α β:Type}{r:Option<|α×Fz}{k:Option<|β×Fz}{y:β×Fz}(h:dX r k=some y):r≠none/\k=some y:=by
 cases r with
 |none=>cases h
 |some z=>exact⟨K2,h⟩
def PF5.next{α:Type}{r:Option<|α×Fz}(h:PF5 F r)(C:r≠Option.none):P5 F (A1 r):=by
 cases r with
 |none=>grind
 |some y=>exact h _ _ W
def I7(J:Nat):PF5 F (eZ J F):=by grind[eZ,eQ,PF5.ak]
def Gb(h:jj wk J F T=some (T',F')):∃G,P5 F G/\((T'=T/\P5 {G with ret:=⟨#[]⟩} F')\/∃C Z v data c d,data.size<=65536/\jV {G with ret:=⟨#[]⟩} T v=true/\jj wk J F T=(ji {({G with ret:=⟨#[]⟩}:Fz)with ac:=G.ac-eA {G with ret:=⟨#[]⟩} C} (wk (eu J C Z v data {G with ret:=⟨#[]⟩} T) T v G.ak Z).1.st (wk (eu J C Z v data {G with ret:=⟨#[]⟩} T) T v G.ak Z).1.ac (wk (eu J C Z v data {G with ret:=⟨#[]⟩} T) T v G.ak Z).1.aa c d).map (λy=>((wk (eu J C Z v data {G with ret:=⟨#[]⟩} T) T v G.ak Z).2,y.2))):=by
 have E:=h;have g:=h;unfold jj at h;let⟨j,h⟩:=eS h;let⟨l,h⟩:=eS h;let⟨r3,h⟩:=eS h;let⟨X,h⟩:=eS h;let⟨f,h⟩:=eS h;let⟨V,h⟩:=eS h;let⟨Y,h⟩:=eS h;have m:P5 F (eb _):=((eQ F).next j).trans<|((eQ _).next l).trans<|((I7 J).next r3).trans<|((eQ _).next X).trans<|((eQ _).next f).trans<|((eQ _).next V).trans<|(eQ _).next Y;generalize eb (eb<|oK J F)=l at*;unfold CP at h;cases j:pd (dV<|eZ J<|eb F) l with
 |none=>grind
 |some y=>
  let⟨u,F8⟩:=y;rw[j]at h;have H:P5 F F8:=by
   refine m.trans ?_;unfold pd at j;split at j
   .exact PF5.ak l () _ _ j
   split at j
   .cases j
   exact AJ l _ _ j
  dsimp only at h;unfold mF at h;split at h
  .cases h
  rename_i a b U Q;split at h
  .cases h
  rename_i c d L O;refine⟨_,H.trans<|(iH _ _ _ _ Q).trans<|iH _ _ _ _ O,?_⟩;have I:(dI<|dM U.mem a b).size<=65536:=By (mQ)<|ux Q;have P:=h;unfold um at h;split at h
  .rename_i D;refine A4 ⟨eP F,eV F,_,dI _,c,d,I,D,?_⟩;rw[E];unfold um at P;rw[At D]at P;exact P.symm
  refine LZ ?_;cases j:dB 0 {L with ret:=⟨#[]⟩}with
  |none=>rw[j]at h;cases h
  |some z=>let⟨u,R⟩:=z;rw[j]at h;obtain⟨rfl,rfl⟩:=Xi<|hV h;exact⟨W,za3 _ _ _ j⟩
structure SI(F F':Fz)(T T':TS):Prop where
 fx:Fx F F'
 ac:F'.ac<=F.ac
 lt:F'.aG=false->F'.ac<F.ac
 nx:F'.aG=false->F'.nx<=1100
 pc:F'.pc<=1100
 rs:F'.ret.size<=65536
 os:F'.aa.size<=65536
 st:F'.aE<=1
 ext:Ext T T'
 aO:fB T'
 cf:T'.ch.length+T'.ay.length+F'.ac<=T.ch.length+T.ay.length+F.ac
structure RunF(F:Fz):Prop where
 cs:F.ae.size<=1000
 ds:F.data.size<=65536
 rs:F.ret.size<=65536
 dp:F.depth<=16
 nx:F.nx<=1100
 pc:F.pc<=1100
 os:F.aa.size<=65536
 st:F.aE<=1
theorem KG:((List.range 256).all λJ=>decide (eF J≠some 0)||([0,243,253]:Tl).contains J)=true:=N0
def mD(C:J<256)(H:eF J=some c)(G:J≠0)(E:J≠243)(D:J≠253:=by omega):1<=c:=by grind[Xp,KG]
def v6(h:kv F≠0):F.nx<F.ae.size:=by grind[kv,absurd]
def WI(F:Fz):kv F<256:=by grind[kv,rU]
def vr(V:RunF F)(X:fB T)(R:1<=c)(Q:c<=F.ac)(U:F.nx<F.ae.size)(h:P5 (eG F c) F'):SI F F' T T:=by let⟨L,H,I,D,E,C,P⟩:=h.bB;have O:=V.cs;have L:F'.ac<=F.ac-c:=L;have H:F'.nx=F.nx+1:=H;have I:F'.pc=F.nx:=I;have D:F'.ret=F.ret:=D;have E:F'.aa=F.aa:=E;have C:F'.aE=F.aE:=C;exact⟨Fx.trans (G:=eG F c) ⟨W,W,W,W,W,W,W⟩ h.fx,wq,λ_=>wq,λ_=>wq,wq,by rw[D];exact V.rs,by rw[E];exact V.os,by rw[C];exact V.st,Ext.refl T,X,wq⟩
def si_p6(P:RunF F)(Q:fB T)(I:1<=c)(D:c<=F.ac)(L:F.nx<F.ae.size)(h:P6 (eG F c) F'):SI F F' T T:=by
 obtain⟨G,n,C,rfl,E⟩:=h;have O:=vr P Q I D L C;refine⟨⟨O.fx.ae,O.fx.data,O.fx.depth,O.fx.ak,O.fx.ax,O.fx.value,O.fx.ro⟩,O.ac,O.lt,λ_=>?_,O.pc,O.rs,O.os,O.st,O.ext,O.aO,O.cf⟩;have H:=P.cs;show n<=1100;rcases E with e|e
 .have e:n=F.nx+1:=e;omega
 have e:n<=F.ae.size:=e;omega
def Vo{u:Unit}(O:RunF F)(P:fB T)(H:1<=c)(D:c<=F.ac)(I:F.nx<F.ae.size)(hn:n<=32)(h:fF n (eG F c)=some (u,F')):SI F F' T T:=by
 unfold fF at h;split at h
 .cases h
 rename_i G L;obtain⟨_,rfl⟩:=Xi<|hV h;have C:=za3 _ _ _ L;have L:=vr O P H D I C;refine⟨⟨L.fx.ae,L.fx.data,L.fx.depth,L.fx.ak,L.fx.ax,L.fx.value,L.fx.ro⟩,L.ac,L.lt,λ_=>?_,L.pc,L.rs,L.os,L.st,L.ext,L.aO,L.cf⟩;have E:=O.cs;have e:G.nx=F.nx+1:=C.bB.2.1;grind
theorem LS{u:Unit}(r:RunF F)(s:fB T)(S:c<=F.ac)(h:sV J (eG F c)=some (u,F')):SI F F' T T:=by
 have I:=r.nx;unfold sV at h;split at h
 .obtain⟨_,rfl⟩:=Xi<|hV h;exact⟨⟨W,W,W,W,W,W,W⟩,ZF _ _,λe=>(by cases e),λe=>(by cases e),I,r.rs,r.os,r.st,Ext.refl T,s,by show _+(F.ac-c)<=_;omega⟩
 split at h
 .cases h
 rename_i p l f;split at h
 .cases h
 rename_i n A Y;split at h
 .cases h
 rename_i a b F3 V;obtain⟨_,rfl⟩:=Xi<|hV h;have l:=(eQ _ _ _ f).trans<|(eQ _ _ _ Y).trans<|iH _ _ _ _ V;let⟨U,z,Q,O,t,E,R⟩:=l.bB;have U:F3.ac<=F.ac-c:=U;have Q:F3.pc=F.nx:=Q;have O:F3.ret=F.ret:=O;have E:F3.aE=F.aE:=E;have R:F3.aG=true:=R;have fx:Fx F F3:=by have q:=l.fx;exact⟨q.ae,q.data,q.depth,q.ak,q.ax,q.value,q.ro⟩
 have L:(⟨(dM F3.mem a b).toArray⟩:BA).size<=65536:=By (mQ)<|ux V;have N:∀C:Fz,C.ae=F3.ae->C.data=F3.data->C.depth=F3.depth->C.ak=F3.ak->C.ax=F3.ax->C.value=F3.value->C.ro=F3.ro->C.ac=F3.ac->C.aG=F3.aG->C.pc=F3.pc->C.ret=F3.ret->C.aa.size<=65536->C.aE<=1->SI F C T T:=by
  intro C m g o y X d Z k K j G P H;have l:C.aG=false->False:=λe=>K9
  refine⟨⟨m.trans fx.ae,g.trans fx.data,o.trans fx.depth,y.trans fx.ak,X.trans fx.ax,d.trans fx.value,Z.trans fx.ro⟩,wq,λe=>(l e).elim,λe=>(l e).elim,wq,?_,P,H,Ext.refl T,s,wq⟩;rw[G,O];exact r.rs
 by_cases D:J=253
 .grind
 rw[iF D];exact N _ W W W W W W W W W W W L (by show F3.aE<=1;rw[E];exact r.st)
def C9(V:RunF F)(P:fB T)(H:1<=c)(G:c<=F.ac)(L:F.nx<F.ae.size)(U:kd<3)(h:iP kd (eG F c) T=some (F',T')):SI F F' T T':=by
 unfold iP at h;split at h
 .cases h
 .cases hq:(dX (db<|eG F c)<|dX (db<|A1<|db<|eG F c)<|some ((),eb<|eG F c))with
  |none=>grind
  |some y=>
   rw[hq]at h;obtain⟨O,E⟩:=eS hq;obtain⟨X,D⟩:=eS E;obtain⟨rfl,rfl⟩:=Xi<|hV h;cases hV D;have Q:P5 _ (eb _):=((eQ _).next O).trans<|(eQ _).next X;have O:=vr V P H G L Q;have C:=qS P kd (eG F c).ak (eP<|eG F c) (eV<|eG F c) U;have P:=tq T kd (eG F c).ak (eP<|eG F c)<|eV<|eG F c;have I:(eb _).ac<=F.ac-c:=Q.bB.1;refine⟨O.fx,O.ac,O.lt,O.nx,O.pc,O.rs,O.os,O.st,C.1,C.2,?_⟩
   grind
def si_log(X:RunF F)(V:fB T)(O:1<=c)(G:c<=F.ac)(L:F.nx<F.ae.size)(h:rJ n (eG F c) T=some (T',F')):SI F F' T T':=by
 unfold rJ at h;split at h
 .cases h
 let⟨Y,h⟩:=eS h;let⟨Z,h⟩:=eS h;have U:P5 _ (eb _):=((eQ _).next Y).trans<|(eQ _).next Z;unfold xL at h;split at h
 .cases h
 rename_i Q P H;unfold yP at h;split at h
 .cases h
 rename_i a b D E;split at h
 .cases h
 obtain⟨rfl,rfl⟩:=Xi<|hV h;have C:P5 _ {D with ac:=D.ac-8*b}:=U.trans<|(wH _ _ _ _ H).trans<|(iH _ _ _ _ E).trans ⟨_,_,_,W,ZF _ _⟩;have U:=vr X V O G L C;have I:D.ac-8*b<=F.ac-c:=C.bB.1;refine⟨U.fx,U.ac,U.lt,U.nx,U.pc,U.rs,U.os,U.st,⟨⟨[],K2,K2⟩,⟨_,W⟩,λ_=>W⟩,V,?_⟩;grind
def T4(E:Wk)(q:RunF F)(r:fB T)(t:2<=c)(S:c<=F.ac)(N:F.nx<F.ae.size)(h:jj E J (eG F c) T=some (T',F'))(Y:∀C Z v data G,G.depth=F.depth->G.ro=F.ro->G.ak=F.ak->G.ax=F.ax->G.value=F.value->G.ac+c<=F.ac->data.size<=65536->jV G T v=true->WkP E (eu J C Z v data G T) T v G.ak Z):SI F F' T T':=by
 let⟨G,b,d⟩:=Gb h;let⟨o,g,j,k,X,V,K⟩:=b.bB;have A:=q.cs;have o:G.ac<=F.ac-c:=o;have g:G.nx=F.nx+1:=g;have j:G.pc=F.nx:=j;have X:G.aa=F.aa:=X;have V:G.aE=F.aE:=V;have fx:Fx F {G with ret:=⟨#[]⟩}:=by have:=Fx.trans (F:=F) (G:=eG F c) ⟨W,W,W,W,W,W,W⟩ b.fx;exact⟨this.ae,this.data,this.depth,this.ak,this.ax,this.value,this.ro⟩
 rcases d with⟨rfl,P⟩|⟨C,Z,v,data,s,i,l,b,e⟩
 .obtain⟨Q,U,n3,I,H,n6,x⟩:=P.bB;have Q:F'.ac<=G.ac:=Q;have U:F'.nx=G.nx:=U;have n3:F'.pc=G.pc:=n3;have I:F'.ret=⟨_⟩:=I;have H:F'.aa=G.aa:=H;have n6:F'.aE=G.aE:=n6;exact⟨fx.trans P.fx,wq,λ_=>wq,λ_=>wq,wq,by rw[I];exact In _,by rw[H,X];exact q.os,by rw[n6,V];exact q.st,Ext.refl _,r,wq⟩
 have O:=Y C Z v _ _ fx.depth fx.ro fx.ak fx.ax fx.value (by show G.ac+c<=F.ac;omega) l b;rw[e]at h;have z:eA {G with ret:=⟨#[]⟩} C<=G.ac:=by unfold eA sD;show(if C%M<=G.ac-G.ac/64 then C%M else G.ac-G.ac/64)<=_;split<;>omega
 have m:(E _ T v G.ak Z).1.ac<=eA _ _:=O.ac;have p:(E _ T v G.ak Z).2.ch.length+(E _ T v G.ak Z).2.ay.length+(E _ T v G.ak Z).1.ac<=T.ch.length+T.ay.length+2+eA _ _:=O.cf;have f:(E _ T v G.ak Z).1.aa.size<=65536:=O.os;have R:Ext T (E _ T v G.ak Z).2:=O.ext;have L:fB (E _ T v G.ak Z).2:=O.aO;generalize E (eu J C Z v data {G with ret:=⟨#[]⟩} T) T v G.ak Z=b at*;generalize eA {G with ret:=⟨#[]⟩} C=r at*;unfold ji at h;cases l:dB (if b.1.st=0 then 1 else 0) (zB {({G with ret:=⟨#[]⟩}:Fz)with ac:=G.ac-r} b.1.ac b.1.aa s i)with
 |none=>rw[l]at h;cases h
 |some y=>
  let⟨u,F9⟩:=y;rw[l]at h;obtain⟨rfl,rfl⟩:=Xi<|hV h;have P:=za3 _ _ _ l;let⟨Q,U,n3,I,H,n6,x⟩:=P.bB;have Q:F9.ac<=G.ac-r+b.1.ac:=Q;have U:F9.nx=G.nx:=U;have n3:F9.pc=G.pc:=n3;have I:F9.ret=b.1.aa:=I;have H:F9.aa=G.aa:=H;have n6:F9.aE=G.aE:=n6;have D:=P.fx;have D:Fx {G with ret:=⟨#[]⟩} F9:=⟨D.ae,D.data,D.depth,D.ak,D.ax,D.value,D.ro⟩
  show SI F F9 T b.2;exact⟨fx.trans D,wq,λ_=>wq,λ_=>wq,wq,by rw[I];exact f,by rw[H,X];exact q.os,by rw[n6,V];exact q.st,R,L,wq⟩
def fI{r:Option<|Unit×Fz}(h:kP r T=some (F',T')):r=some ((),F')/\T'=T:=by
 cases r with
 |none=>cases h
 |some y=>let⟨u,G⟩:=y;obtain⟨rfl,rfl⟩:=Xi<|hV h;simp
def tP{r:Option<|TS×Fz}(h:lY r=some (F',T')):r=some (T',F'):=by
 cases r with
 |none=>cases h
 |some y=>let⟨u,G⟩:=y;obtain⟨rfl,rfl⟩:=Xi<|hV h;rfl
def MN(Q:Wk)(V:RunF F)(U:fB T)(h:mh Q F T=some (F',T'))(R:∀O Z v data G,G.depth=F.depth->G.ro=F.ro->G.ak=F.ak->G.ax=F.ax->G.value=F.value->G.ac+100<=F.ac->data.size<=65536->jV G T v=true->WkP Q (eu (kv F) O Z v data G T) T v G.ak Z):SI F F' T T':=by
 have C:=WI F;unfold mh at h;cases X:eF (kv F)with
 |none=>grind
 |some c=>
  rw[X]at h;dsimp only at h;split at h
  .cases h
  rename_i E;have E:c<=F.ac:=wq
  unfold vW at h;split at h
  .rename_i c1;obtain⟨D,rfl⟩:=fI h;have H:kv F≠0:=λe=>by rw[e]at c1;cases c1
   exact vr V U (mD C X H (λe=>by rw[e]at c1;cases c1) (λe=>by rw[e]at c1;cases c1)) E (v6 H)<|I6 _ _ _ _ D
  split at h
  .obtain⟨D,rfl⟩:=fI h;grind[LS]
  rename_i c2;have H:kv F≠0:=wq
  have I:=v6 H;split at h
  .obtain⟨D,rfl⟩:=fI h;exact vr V U (mD C X H wq) E I<|Jr _ _ _ _ _ D
  split at h
  .have hp:=mD C X H wq;unfold xz at h;split at h
   .exact C9 V U hp E I wq h
   split at h
   .exact C9 V U hp E I wq h
   obtain⟨D,rfl⟩:=fI h;exact si_p6 V U hp E I<|C4 D
  split at h
  .obtain⟨D,rfl⟩:=fI h;exact Vo V U (mD C X H wq) E I wq D
  split at h
  .obtain⟨D,rfl⟩:=fI h;exact vr V U (mD C X H wq) E I<|Nm _ _ _ D
  split at h
  .obtain⟨D,rfl⟩:=fI h;exact vr V U (mD C X H wq) E I<|I5 _ _ _ D
  split at h
  .exact si_log V U (mD C X H wq) E I (tP h)
  split at h
  .rename_i P;have L:c=100:=by rcases P with e|e|e<;>rw[e]at X<;>exact(hV X).symm
   subst L;exact T4 Q V U wq E I (tP h) R
  obtain⟨D,rfl⟩:=fI h;exact LS V U E D
def fw(wk:Wk):Nat->Fz->TS->Option Fz×TS
 |0,F,T=>(none,T)
 |n+1,F,T=>if F.aG=true then(some F,T)else match mh wk F T with
  |none=>(none,T)
  |some (F',T')=>fw wk n F' T'
def outM(o:Option Fz):Res:=⟨sT o,px o,Hq o⟩
def dc:Nat->Wk
 |0=>λ_ T _ _ _=>(⟨2,0,⟨#[]⟩⟩,T)
 |d+1=>λG T v fr Z=>(outM (fw (dc d) (G.ac+2) G<|fU T v fr Z).1,lD T (fw (dc d) (G.ac+2) G<|fU T v fr Z).2<|sT (fw (dc d) (G.ac+2) G<|fU T v fr Z).1)
section
variable {t j:VL}
theorem Jw(wk:Wk):∀(n:Nat)(F:Fz)(T:TS),fw wk n (F.sj t j) T=((fw wk n F T).1.map<|λG=>G.sj t j,(fw wk n F T).2)
 |0,F,T=>rfl
 |n+1,F,T=>by
  rw[fw,fw];show(if F.aG=true then _ else _)=_;by_cases h:F.aG=true
  .grind
  rw[iF h,iF h,PD];cases mh wk F T with
  |none=>rfl
  |some y=>exact Jw wk n _ _
def Jb(o:Option Fz):sT (o.map λG=>G.sj t j)=sT o:=by cases o<;>rfl
def JA(o:Option Fz):px (o.map λG=>G.sj t j)=px o:=by cases o<;>rfl
def So(o:Option Fz):Hq (o.map λG=>G.sj t j)=Hq o:=by cases o<;>rfl
end
structure GoodT(T:TS):Prop where
 aO:fB T
 cs:∀a,(T.aw a).ae.size<=1000
 kd:∀c∈T.ch,c.kind<3
def GoodT.ext(h:GoodT T)(he:Ext T T')(H:fB T'):GoodT T':=by refine⟨H,λa=>by rw[he.ae a];exact h.cs a,λc C=>?_⟩;let⟨l,E,D⟩:=he.ch;rw[E]at C;exact(Xr.1 C).elim (h.kd c)<|D c
def ET(wk:Wk)(A aS:Nat):=∀G T v fr Z,RunF G->aS<G.depth->G.ac<=100000->GoodT T->T.ch.length+T.ay.length+2+G.ac<=1000000->
 WkP wk G T v fr Z/\WakeOk wk (A*(G.ac-(wk G T v fr Z).1.ac)+10) G T v fr Z
def WakeOk.mono{v:Nat}(h:WakeOk wk m G T v fr Z)(f:m<=m'):WakeOk wk m' G T v fr Z:=by let⟨H,D,L⟩:=h;refine⟨H,D,λO b U c V x P d=>(L _ b U c V x P wq).mono ?_⟩;rintro e Y⟨R,I,S2,C,Q,E,k4,X,k6⟩;exact⟨R,I,S2,C,Q,E,k4,wq,k6⟩
def uw{C v:Nat}(H:data.size<=65536)(D:jV G T v=true)(E:GoodT T):RunF (eu J C Z v data G T):=by unfold jV at D;rw[Xo]at D;have Bp:=Xd D.1;exact⟨E.cs Z,H,In _,Bp,In _,In _,In _,In _⟩
def qg(G:Fz)(C:Nat):eA G C<=G.ac:=by grind[eA,sD]
def costS(A:Nat)(F:Fz):Option (Fz×TS)->Nat
 |none=>A*F.ac+2
 |some (F',_)=>A*(F.ac-F'.ac)+(if F'.aG=true then 2 else 0)
def uY{A q:Nat}(hA:2<=A)(f:ET wk A q)(b:RunF F)(l:q<=F.depth)(k:F.ac<=100000)(l:GoodT T)(r:T.ch.length+T.ay.length+F.ac<=1000000):qo F T (costS A F<|mh wk F T) (mh wk F T)/\∀D T',mh wk F T=some (D,T')->SI F D T T':=by
 have E:∀C Z v data G,G.depth=F.depth->G.ac+100<=F.ac->data.size<=65536->jV G T v=true->WkP wk (eu (kv F) C Z v data G T) T v G.ak Z/\WakeOk wk (A*(eA G C-(wk (eu (kv F) C Z v data G T) T v G.ak Z).1.ac)+10) (eu (kv F) C Z v data G T) T v G.ak Z:=by intro C Z v data G Q P H L;have U:=qg G C;refine f _ T v _ Z (uw H L l) (by show q<G.depth+1;omega) (by show eA G C<=_;omega) l (by show T.ch.length+T.ay.length+2+eA G C<=_;omega)
 have I:∀D T',mh wk F T=some _->SI F D T T':=λD T' h=>MN wk b l.aO h λC Z v data G Q g K N X P H L=>(E _ Z v _ G Q P H L).1;refine⟨?_,I⟩;have o:=b.nx;have p:=b.pc;refine step_I wk ⟨b.cs,b.ds,b.rs,b.dp,wq,wq⟩ wq ⟨l.cs,wq,wq,l.kd⟩ ?_ ?_
 .cases hs:mh wk F T with
  |none=>show 2<=A*F.ac+2;omega
  |some y=>
   let⟨D,T'⟩:=y;have h:=I D T' hs;show 2<=A*(F.ac-D.ac)+(if D.aG=true then 2 else 0);split
   .omega
   rename_i s;have b:=h.lt K9;have:A*1<=A*(F.ac-D.ac):=Nat.mul_le_mul_left A wq;omega
 intro C Z v data D Q g K N X P H L c d Y;let⟨V,n⟩:=E C Z v _ D Q P H L;have U:=qg D C;refine n.mono ?_;have S:(wk _ T v _ Z).1.ac<=eA D _:=V.ac;generalize wk (eu (kv F) C Z v data D T) T v D.ak Z=b at*;rw[Y];unfold ji;cases l:dB (if b.1.st=0 then 1 else 0) (zB {D with ac:=D.ac-eA D C} b.1.ac b.1.aa c d)with
 |none=>show _<=A*F.ac+2;have R:A*(eA D C-b.1.ac+100)<=A*F.ac:=Nat.mul_le_mul_left A wq;rw[Nat.mul_add]at R;omega
 |some y=>let⟨u,O⟩:=y;have z:O.ac<=D.ac-eA D _+b.1.ac:=(za3 _ _ _ l).bB.1;show _<=A*(F.ac-O.ac)+(if O.aG=true then 2 else 0);have R:A*(eA D C-b.1.ac+100)<=A*(F.ac-O.ac):=Nat.mul_le_mul_left A wq;rw[Nat.mul_add]at R;omega
theorem Nz{wk:Wk}{A b:Nat}(hA:2<=A)(R:ET wk A b):∀(n:Nat)(F:Fz)(T:TS),(F.aG=false->F.ac+2<=n)->1<=n->RunF F->b<=F.depth->F.ac<=100000->GoodT T->T.ch.length+T.ay.length+F.ac<=1000000->(∃k m,Chain2 k m F T (fw wk n F T).1 (fw wk n F T).2/\m<=A*(F.ac-px (fw wk n F T).1)+2)/\px (fw wk n F T).1<=F.ac/\Ext T (fw wk n F T).2/\fB (fw wk n F T).2/\sT (fw wk n F T).1<=2/\(Hq (fw wk n F T).1).size<=65536/\(fw wk n F T).2.ch.length+(fw wk n F T).2.ay.length+px (fw wk n F T).1<=T.ch.length+T.ay.length+F.ac
 |0,F,T,_,h1,_,_,_,_,_=>wq
 |n+1,F,T,hn,h1,hr,hd,hg,hT,hb=>by
  rw[fw];by_cases E:F.aG=true
  .rw[At E];exact⟨⟨0,0,.done E,In _⟩,DO _,Ext.refl T,hT.aO,By hr.st wq,hr.os,DO _⟩
  rw[iF E];have E:F.aG=false:=K9
  let⟨I,s2⟩:=uY hA R hr hd hg hT hb;cases b:mh wk F T with
  |none=>rw[b]at I;exact⟨⟨1,_,.fail E I,by show A*F.ac+2<=A*(F.ac-0)+2;simp⟩,In _,Ext.refl T,hT.aO,DO _,In _,by show T.ch.length+T.ay.length+0<=_;omega⟩
  |some y=>
   let⟨C,T'⟩:=y;rw[b]at I;have h:=s2 C T' b;dsimp only;have Q:=hT.ext h.ext h.aO;have L:=h.ac;have U:=h.cf;have D:=h.fx;have o:=hn E;have H:RunF C\/C.aG=true:=by
    by_cases e:C.aG=true
    .grind
    have e:C.aG=false:=K9
    exact LZ ⟨by rw[D.ae];exact hr.cs,by rw[D.data];exact hr.ds,h.rs,by rw[D.depth];exact hr.dp,h.nx e,h.pc,h.os,h.st⟩
   rcases H with H|e
   .obtain⟨⟨k,m,O,V⟩,d,f,X,g,Y,i8⟩:=Nz hA R n C T' (λe=>by have:=h.lt e;omega) wq H (by rw[D.depth];exact hd) wq Q wq;refine⟨⟨_,_,.step E I O,?_⟩,By d L,h.ext.trans f,X,g,Y,wq⟩;show A*(F.ac-C.ac)+(if C.aG=true then 2 else 0)+m<=_;have P:A*(F.ac-px (fw wk n C T').1)=A*(F.ac-C.ac)+A*(C.ac-px (fw wk n C T').1):=by rw[<-Nat.mul_add];grind
    rw[P];split
    .rename_i e;cases n with
     |zero=>omega
     |succ n=>
      rw[fw,At e]at O V⊢;cases k with
      |zero=>have:=O.1;omega
      |succ k=>have p:=O.1;grind
    omega
   cases n with
   |zero=>omega
   |succ n=>rw[fw,At e];refine⟨⟨1,_,.step E I<|.done e,?_⟩,L,h.ext,h.aO,By h.st wq,h.os,by show T'.ch.length+T'.ay.length+C.ac<=_;omega⟩;show A*(F.ac-C.ac)+(if C.aG=true then 2 else 0)+0<=A*(F.ac-C.ac)+2;grind
theorem BI:∀d,d<=16->ET (dc d) (2*d+2) (16-d)
 |0,_=>λG T v fr Z b c=>by have:=b.dp;omega
 |d+1,h16=>λG T v fr Z b c z c l=>by
  have i:=BI d wq;let⟨f,S,s,l⟩:=sN c.aO v fr Z;have L:=c.ext f S;have N:∀t j,_:=λ(t j)=>Nz wq i (G.ac+2) (G.sj t j) _ (λ_=>DO _) wq ⟨b.cs,b.ds,b.rs,b.dp,b.nx,b.pc,b.os,b.st⟩ (by show 16-d<=G.depth;omega) z L (by show(fU T v fr Z).ch.length+(fU T v fr Z).ay.length+G.ac<=_;grind);have E:=N G.aC G.jd;have K:G.sj _ _=G:=rfl;rw[K]at E;let⟨_,Q,k4,R,k6,o,k8⟩:=E;rw[s,l]at k8;have H:=f.trans k4;have P:=NK R H<|sT (fw (dc d) (G.ac+2) G<|fU T v fr Z).1;have b:=Nc H<|sT (fw (dc d) (G.ac+2) G<|fU T v fr Z).1;refine⟨⟨P.1,P.2,Q,k6,o,?_⟩,Q,By k6 wq,λO b U jd V x b Y=>?_⟩
  .show(lD T _ _).ch.length+(lD T _ _).ay.length+px _<=_;omega
  let⟨⟨k,m,c1,c2⟩,_⟩:=N (pt U) jd;rw[Jw]at c1 c2;dsimp only at c1 c2;rw[JA]at c2;have Y:V.n+((2*(d+1)+2)*(G.ac-px _)+10)<800000000000:=Y;have c2:m<=(2*d+2)*(G.ac-px _)+2:=c2;have C:=H.len;have l:(2*(d+1)+2)*(G.ac-px (fw (dc d) (G.ac+2) G<|fU T v fr Z).1)=(2*d+2)*(G.ac-px (fw (dc d) (G.ac+2) G<|fU T v fr Z).1)+2*(G.ac-px (fw (dc d) (G.ac+2) G<|fU T v fr Z).1):=by rw[<-YO];congr 1
  have I:=(c.ext H R).kd;have D:=KB v fr Z x b c1 (by rw[Jb];omega) wq wq wq C.1 C.2 I;rw[Jb,JA,So]at D;refine D.mono ?_;rintro e b⟨rfl,X,S2,g,A,h,y,b,p⟩;refine⟨W,X,S2,g,A,h,y,?_,p⟩;show X.n<=V.n+((2*(d+1)+2)*(G.ac-px (fw (dc d) (G.ac+2) G<|fU T v fr Z).1)+10);omega
def rY(ae:BA)(fr Z B:Nat)(data:BA)(ac:Nat):Fz:={msgF 0 ae undef fr Z B data ac with aC:=undef}
def jZ(T:TS)(fr Z B:Nat)(data:BA)(ac:Nat):Res×TS:=dc 16 (rY (T.aw Z).ae fr Z B data ac) T B fr Z
def Mk(fr Z B:Nat)(data:BA)(ac:Nat)(D:GoodT T)(E:data.size<=65536)(C:ac<=100000)(G:T.ch.length+T.ay.length<=800000):WkP (dc 16) (rY (T.aw Z).ae fr Z B data ac) T B fr Z/\WakeOk (dc 16) 3400010 (rY (T.aw Z).ae fr Z B data ac) T B fr Z:=by have h:=BI 16 (DO _) (rY (T.aw Z).ae fr Z B _ _) T B fr Z ⟨D.cs Z,E,In _,by show 1<=16;omega,In _,In _,In _,In _⟩ (by show 0<1;omega) C D (by show T.ch.length+T.ay.length+2+ac<=_;omega);refine⟨h.1,h.2.mono ?_⟩;show 34*(ac-_)+10<=_;omega
def DelR(O U:Nat)(T T':TS)(V:TV)(st gs:Nat)(aa:BA)(w:WD)(e:Ending)(w':WD):=∃lv tv,e=.returned (iy st gs aa lv)/\cj O U T T' V [] 3400010 w w'/\Lo w' O lv tv T'.ay
def Qe{L:List LogE}(D:∀t∈tv,∃a n c,t=.slice a n c):∀u∈qM L tv,u.oneCell'=true:=by
 induction L generalizing tv with
 |nil=>intro u C;cases C
 |cons a L E=>
  cases tv with
  |nil=>intro u C;cases C
  |cons b tv=>
   intro u C;have C:u∈wI a b++qM L tv:=C;rcases Xr.1 C with h|h
   .obtain⟨x,y,z,rfl⟩:=D b K2;unfold wI at h;simp at h;rcases h with rfl|rfl|rfl|rfl|rfl|rfl<;>rfl
   grind
def Lo.sl{L:List LogE}(h:Lo w O lv tv L):∀t∈tv,∃a n c,t=.slice a n c:=λt C=>by
 let⟨i,G⟩:=XM C;have H:i<L.length:=by rw[<-h.1];grind
 let⟨E,D,e⟩:=dt<|h.2.2.1 i L[i] t (iN H) G;grind
def Ub{L:List LogE}(h:tv.length=L.length):(qM L tv).length=L.length*6:=by
 induction L generalizing tv with
 |nil=>rfl
 |cons a L C=>
  cases tv with
  |nil=>cases h
  |cons b tv=>show(wI a b++qM L tv).length=_;rw[Xm,C<|by simpa using h];show 6+L.length*6=(L.length+1)*6;omega
def KR{P:Program}{m:Sem VL}(h:m.run P x=.ok v x'):((do pure (Next.value<|<-m):Sem Next)).run P x=.ok (.value v) x':=Q1
def zm{P:Program}{H t:Vr}(E:tG s t1 v1)(D:tG s t2 v2)(C:(Builtin.append_ #[t,t] H #[v1,v2]).run P x=.ok v' x')(G:K (Wb s d v') x'):Oper.wp P ⟨some d,.call ⟨.builtin .append,#[.tmp t1,.tmp t2],#[t,t]⟩,H,pos,af,none⟩ s x K Q:=by exact Lib.wp_append_run x _ _ t t W v1 v2 E D v' x' C G
def yK{L:List LogE}(h:Lo x O lv tv L)(X:L.length<=1000000)(Y:O<=x.heap.size):∃v' x',(Builtin.append_ #[36,36] 36 #[dL,lv]).run prog x=.ok v' x'/\x'.ownsRow O 112 6 v' L.length (qM L tv)/\x.grownBy x' none/\∀k,v'.ownBlock=some k->x.heap.size<=k:=by
 rcases h.2.1.2 with⟨rfl,X⟩|⟨g,E,X,rfl,X,X,X,X,X,X⟩
 .refine⟨dL,x,N0,?_,World.grownBy.refl x _,λk X=>by cases X⟩;have P:=h.2.1;exact P
 let⟨J,H,C,D,G⟩:=YI wO;let⟨v',x',Z,c,r3,I⟩:=fh x _ 36 36 _ J _ 6 72 N0 H C D G W K3 dL 0 [] (Xy x _ _ _) ⟨g,0,none⟩ L.length E (qM L tv) (Ub h.1) (h.2.1.cells W) (Qe h.sl) wq wq Y;refine⟨v',x',Z,?_,r3,λk X=>?_⟩
 .grind
 rcases I with e|e
 .rw[e]at X;cases X
 grind
def Kd(O b:Nat)(L:List LogE)(tv:Tn)(w:WD):Nat->X4
 |0,x=>bW w x
 |1,x=>Kb [] w x
 |_,x=>∃v' y,Kb [] w y/\Below (y.setCell ⟨b,3,none⟩ v').heap.size (y.setCell ⟨b,3,none⟩ v') x/\y.ownsRow O 112 6 v' L.length (qM L tv)/\∀k,v'.ownBlock=some k->w.heap.size<=k
def RelD(b:Nat):Nat->WD->X4:=λp x x'=>p=1->∃u,x'=x.setCell ⟨b,3,none⟩ u
def Pe(O:Nat)(L:List LogE)(tv:Tn)(w:WD):Kp:=λp v x=>p≠0/\x.ownsRow O 112 6 v L.length (qM L tv)/\∀k,v.ownBlock=some k->w.heap.size<=k
def D4{L:List LogE}(h:Kd O b L tv w k x)(C:k<=0):bW w x:=by
 cases(wq:k=0)
 exact h
def MS{L:List LogE}(C:b<w.heap.size)(k:Nat)(x x':WD)(h:Kd O b L tv w k x)(D:bW x x'):Kd O b L tv w k x':=by
 match k,h with
 |0,h=>exact(h).trans<|D.mono (h).size
 |1,h=>exact(h).below D
 |_+2,⟨v',y,h1,h2,h3,h4⟩=>exact⟨v',y,h1,h2.trans<|D.mono h2.size,h3,h4⟩
def OY{L:List LogE}(D:b<w.heap.size)(G:p<2)(C:Kd O b L tv w p x)(hrel:RelD b p x x')(E:Pe O L tv w p v x):Pe O L tv w (p+1) v x':=by
 match p,G,C,hrel,E with
 |0,_,_,_,E=>exact absurd W E.1
 |1,_,C,hrel,E=>obtain⟨u,rfl⟩:=hrel W;exact⟨wq,fC E.2.1 (λk G e=>by have:=E.2.2 k G;omega) _ _,E.2.2⟩
def Df(fr Z B:Nat)(data:BA)(w:WD)(h:Tr O U T V w)(hg:ac<=100000)(hT:GoodT T)(c:data.size<=65536)(hl:T.ch.length+T.ay.length<=800000)(hn:V.n+3400010<800000000000):cP 35 #[pt U,SR fr Z B data ac] w (DelR O U T (jZ T fr Z B data ac).2 V (jZ T fr Z B data ac).1.st (jZ T fr Z B data ac).1.ac (jZ T fr Z B data ac).1.aa w):=by
 let⟨r,m⟩:=Mk fr Z B data ac hT c hg hl;have q:=hT.cs Z;have HBW:=cV h.hb;let⟨R,c⟩:=hJ<|jZ T fr Z B data ac;have a5:dc 16 (rY (T.aw Z).ae fr Z B data ac) T B fr Z=R:=c.symm;have A:R.2.ay.length<=1000000:=by have h1:=r.cf;rw[a5]at h1;have:(rY (T.aw Z).ae fr Z B data ac).ac=ac:=rfl;omega
 unfold WakeOk at m;rw[a5]at m;rw[<-c];let⟨⟨st,gs,aa⟩,g⟩:=R;dsimp only at m A⊢;have HLG:=cV A;clear c a5 r A;go_enter func35,ntmps35;go_wp2;have hB:bW w (d2 w fr Z B data ac):=ai (ai (dO _ w) _) _;have P:=h.below hB;have G:MsgAt (d2 w fr Z B data ac) w.heap.size fr Z B data ac:=cY (Hx w fr Z B data ac)<|ai (dO _ _) _;let⟨f,hf,d0⟩:=P.aw.map;let⟨X,e1,e3,e4,e5⟩:=P.aw.bL Z d0;obtain⟨c,rfl⟩:=e3.is;have c0:=rc P.row 0;rw[show zh V 0=.map (some V.ab) from W]at c0;refine Gz (Z:=Z) (ab:=V.ab) (bl:=(T.aw Z).ai) (o:=c) P q P.row.lt c0 (λx E=>?_) (λx E=>?_) (dO _ _).drew W W W ?_
 .have q:=cY G E;exact⟨rc q _,rc q _,rc q _,rc q _⟩
 .have:=(hf.kb (Kb.h (S:=[]) E) K2).aQ kT kE Z;grind
 rintro x z9 c E -⟨-,H,a,rfl,bg,L,Y⟩;simp only[n8,sx9];have cd:=Y.fr.row.cell (i:=18) K3;have fd:=Y.fr.row.frozen 18;rw[show(sB U (T.aw Z).ae a).cell dL dL 18=.int _ 0 from W]at cd;have hd:FT O H U {sB U (T.aw Z).ae a with depth:=1} T [H] dL dL V (x.setCell _<|iI 1):=Y.aD W W W W W Y.fr.aN (kF Y.fr.row<|xc dL dL 1)<|(Kb.refl [H] x).setCell AI _;have b1:Kb [H] x (x.setCell ⟨H,18,none⟩<|iI 1):=(Kb.refl [H] x).setCell AI _;have f8:w.heap.size+1<H:=by simp at bg;omega
 have e9:=cY G L;go_wp2;generalize x.setCell ⟨H,18,none⟩ (iI 1)=c at*;have I:∀y,Kb [H] c y->MsgAt y w.heap.size fr Z B data ac:=λy N=>(b1.trans N<|λi r=>LZ r).row e9 N3;refine GA (fr:=fr) (Z:=Z) (B:=B) c hd (λy N=>?_) (λy N=>?_) (λy N=>?_) ⟨hd.below (dO _ _).drew,(Kb.refl _ _).drew⟩ W W W ?_
 .have q:=I y N;exact⟨rc q _,rc q _,rc q _,rc q _⟩
 .have q:=I y N;exact⟨rc q _,rc q _,rc q _,rc q _⟩
 .have q:=I y N;exact⟨rc q _,rc q _,rc q _,rc q _⟩
 rintro x3⟨a7,c⟩;simp only[n8,sx9];go_wp2;refine Hk (gs:=ac) (data:=data) x3 a7 hg (λy N=>?_) (λy N=>?_) ⟨a7.below (dO _ _).drew,(Kb.refl _ _).drew⟩ W W W ?_
 .exact rc (I y<|c.trans N<|λi r=>LZ r) _
 .exact rc (I y<|c.trans N<|λi r=>LZ r) _
 rintro x4⟨d7,b8⟩;have j:Kb [H] x x4:=(b1.trans c<|λi r=>LZ r).trans b8<|λi r=>LZ r;have C:=I x4<|c.trans b8<|λi r=>LZ r;have m0:=rc C 0;have m1:=rc C 1;have m2:=rc C 2;have m3:=rc C 3;have m4:=rc C 4;have m5:=rc C 5;have m6:=rc C 6;have m7:=rc C 7;have m8:=rc C 8;have m9:=rc C 9;have f6:=rc C 10;have d4:=rc C 11;simp only[LF,Xh,Z2,List.getElem?_cons_zero,List.getElem?_cons_succ,X9]at m0 m1 m2 m3 m4 m5 m6 m7 m8 m9 f6 d4;have HW:=cV<|m.2.2 O H U a V x4 d7 wq;have e7:Hd (bW w x/\Kb [H] x x4/\w.heap.size+1<H):=⟨hB.trans<|L.mono hB.size,j,f8⟩
 have b9:Hd (ResAt x4 (w.heap.size+1) 0 0 ⟨#[]⟩ dL):=by
  have a:ResAt (d2 w fr Z B data ac) (w.heap.size+1) 0 0 ⟨#[]⟩ dL:=by unfold ResAt;simp[go_sem]
  exact(a.below L).kb j N3
 have e8:Hd _:=mZ b9.1.1;have f5:Hd (∀k,bi U T V k->k<w.heap.size):=λk a=>h.lt a;clear m hT C j b8 d7 c a7 I e9 b1 hd cd fd Y L bg E c0 e1 e3 e4 e5 hf d0 G P hB h;simp only[n8,sx9];go_wp2_with fail
 refine HW.mono ?_;rintro e w5⟨rfl,ht⟩;let⟨V5,S5,t1,t2,t3,t4,t5,t6⟩:=ht;clear m0 m1 m2 m3 m4 m5 m6 m7 m8 m9 f6 d4 HW;let⟨ad,cp,c⟩:=dt t1.lo.2.1;have f7:bW w5 (w5.alloc<|.cells #[iB (st:Int),iI (gs:Int),.string aa,.slice none 0 0] 38).drew:=(ai (dO _ w5) _).drew;have t7:=t1.below f7;have c3:=rc t7.row 3;rw[show zh V5 3=V5.lv from W,c]at c3;have a2:ResAt w5 (w.heap.size+1) 0 0 ⟨#[]⟩ dL:=by
  refine b9.kb t2 λG=>?_;rcases t3 _ G with e|e
  .have:=e7.aa.2.2;simp at e;omega
  have:=f5.aa _ e;omega
 have d3:=cV a2;have c:O<=w.heap.size:=HBW.aa;have d8:Hd (w.heap.size+1<w5.heap.size):=Xg e8 t2.size
 -- what follows holds wherever the ay come to lie
 have a3:Hd (∀(lv:VL)(y:WD),(∀k,lv.ownBlock=some k->w5.heap.size<=k)->Kb [w5.heap.size] w5 y->Lo y O lv V5.tv g.ay->Tr O U g V5 y->DelR O U T g V st gs aa w (.returned<|iy st gs aa lv) (gB y (w.heap.size+1) st gs aa lv)):=by
  intro lv y c J hlo hty;have hs4:w.heap.size+1<x4.heap.size:=e8.aa;let⟨L,j,hfb9⟩:=e7.aa;have hs5:=d8.aa;have e6:¬bi U g V5 (w.heap.size+1):=λhf=>by
   rcases t4 _ hf with e|e
   .have:=f5.aa _ e;omega
   omega
  have d5:Kb [w.heap.size+1] y (gB y (w.heap.size+1) st gs aa lv):=jE (Kb.refl _ y) AI;have c9:∀k,lv.ownBlock=some k->k≠w.heap.size+1:=λk a e=>by have:=c k a;omega
  refine⟨lv,_,W,⟨V5,S5.filter<|λk=>decide (k<w.heap.size),hty.kb d5 (λk a hf=>e6 (by simp at a;rw[<-a];exact hf)) K2,?_,λi r=>?_,λi r=>?_,wq,t6⟩,hlo.kb d5 (λk a G=>c9 k a<|by simpa using G)<|λt ht k a G=>e6<|A4<|A4<|A4<|A4<|A4 ⟨t,ht,by simp at G;rw[<-G];exact a⟩⟩
  .refine jE ?_ (A4 wq);have c:Kb (S5.filter<|λk=>decide (k<w.heap.size)) w w5:=by
    refine((Kb.h L).trans j<|λi r=>A4 (by simp at r;omega)).trans t2<|λi r=>?_;by_cases hl:i<w.heap.size
    .exact LZ (Yj.2 ⟨r,by simpa using hl⟩)
    exact A4 wq
   exact c.trans J<|λi r=>A4 (by simp at r;omega)
  .obtain⟨e1,c⟩:=Yj.1 r;have c:i<w.heap.size:=by simpa using c
   rcases t3 i e1 with e|e
   .simp at e;omega
   exact A4 e
  rcases t4 i r with e|e
  .exact LZ e
  exact A4 wq
 clear a2;go_wp2;let⟨w6,e0⟩:=dP<|w5.alloc<|.cells #[iB (st:Int),iI (gs:Int),.string aa,.slice none 0 0] 38;have c:bW w5 (w5.alloc<|.cells #[iB (st:Int),iI (gs:Int),.string aa,.slice none 0 0] 38):=ai (dO _ w5) _;have F:ResAt (w5.alloc<|.cells #[iB (st:Int),iI gs,.string aa,.slice none 0 0] 38) w5.heap.size st gs aa dL:=by unfold ResAt;simp[go_sem]
 have b0:w5.heap.size<(w5.alloc<|.cells #[iB (st:Int),iI gs,.string aa,.slice none 0 0] 38).heap.size:=K2
 rw[<-e0.aa]at c F b0⊢;have a0:=t1.below c;have d6:=HLG.aa;let⟨L5,a9⟩:=hJ g.ay;rw[<-a9]at d6;have d9:=a9▸a0.lo;clear f7 t7 c3;refine dy (Kd O w5.heap.size L5 V5.tv w6) (RelD w5.heap.size) [(0,(.pointer _)),(6,(pt w5.heap.size))] [(some 54,.v<|pq w5.heap.size 3),(some 55,.v dL),(some 56,.v<|pt U),(some 57,.v<|pt U),(some 58,.v<|pq U 3),(some 59,.v _),(some 60,.l<|Pe O L5 _ w6),(some 61,.v<|pq w5.heap.size 3),(none,.v _)] [6,8] [1,5] ((dO _ _).drew) (MS b0)
   ⟨(λD hv hK=>by
    have E:bW w6 _:=D;let⟨v',x',f4,h1,P,h3⟩:=yK (d9.kb (Kb.h (S:=[]) E) K2 K2) d6 (a0.below E).hb;exact zm (hv W) (hv W) f4<|hK v' x' ((Kb.h E).grown P<|λk a=>by cases a) (λh=>absurd h wq) nn1 ⟨wq,h1,λk a=>By E.size<|h3 k a⟩),(@λs x hdf hl K D hv hK=>by
    have E:Kb [] w6 x:=D;obtain⟨-,h1,P⟩:=hl 60 _ W;let⟨ad,cp,e⟩:=dt h1;have q:=F.kb E K2;exact kY (u:=dL) (λ_=>N0) ⟨_,_,_,e⟩ (hv W) W q.1.2.2.2 q.2.2.2.2<|hK _ _ ⟨_,x,E,dO _ _,h1,P⟩ (λ_=>⟨_,W⟩) (λ_=>W) W),AF⟩
   ⟨(λa8 D hv hK=>by
    have E:=D4 D<|a8 0 6;exact dm (v:=dL) (hv W) ((F.below E).1.2.2.2)<|kx hK),(λa8 D hv hK=>by
    have E:=D4 D<|a8 0 6;exact dm (v:=V5.lv) (hv W) (rc (a0.below E).row _)<|kx hK),AF⟩
   (λi d g he p v x x' hne hp D hrel hT=>by
    have G:=Xe he;simp only[IF,XV,reduceCtorEq,Zb,Za,XI,Xk,En.l.injEq]at G;obtain⟨-,rfl⟩:=G;exact OY b0 hp D hrel hT) (λi d g he p v x x' D hb hT=>by
    have G:=Xe he;simp only[IF,XV,reduceCtorEq,Zb,Za,XI,Xk,En.l.injEq]at G;obtain⟨-,rfl⟩:=G;exact⟨hT.1,dh hT.2.1 hb,hT.2.2⟩) ?_
 intro gg z hz _;obtain⟨lv,y,q1,q2,q3,q4⟩:Kd O w5.heap.size L5 _ w6 2 z:=hz;rw[a9]at q3;have J:Kb [w5.heap.size] w5 z:=((((Kb.h c).trans (q1.mono K2)<|λi r=>LZ r).setCell AI _)).below q2;have d1:Lo z O lv V5.tv g.ay:=by
  have r:=a0.lo.kb q1 K2 K2;have hl2:Lo (y.setCell ⟨w5.heap.size,3,none⟩ lv) O lv V5.tv g.ay:=by refine⟨r.1,fC q3 (λk a e=>by have:=q4 k a;omega) _ _,λi l t h1 P=>fC (r.2.2.1 i l t h1 P) (λk a e=>?_) _ _,r.2.2.2⟩;have:=t1.lt<|A4<|A4<|A4<|A4<|A4 ⟨t,Xe P,a⟩;omega
  exact hl2.kb (Kb.h (S:=[]) q2) K2 K2
 have c8:=t1.kb J (λk a hf=>by have:=t1.lt hf;simp at a;omega) (by have:=t1.aA;have:=t1.hb;simp;omega);have hrz:ResAt z w5.heap.size st gs aa lv:=by have q:=F.kb q1 K2;refine ResAt.below ?_ q2;unfold ResAt at q⊢;let⟨⟨g0,g1,g2,g3⟩,f0,f1,f2,f3⟩:=q;simp[go_sem,g0,g1,g2,g3,f0,f1,f2,f3]
 have a4:ResAt z (w.heap.size+1) 0 0 ⟨#[]⟩ dL:=d3.aa.kb J (by simp;have:=d8.aa;omega);have HE:=cV<|a3 lv z (λk a=>By c.size<|q4 k a) J d1 c8;let⟨a,r,hsl⟩:=dt q3;have q:Hd (ResAt (gB z (w.heap.size+1) st gs aa lv) _ st gs aa lv):=a4.put;subst hsl;clear q1 q2 q3 q4 J d1 c8 a0 d9 a3 d3 F c e0 b9;simp only[n8,sx9];let⟨⟨g0,g1,g2,g3⟩,_⟩:=hrz;obtain⟨⟨k0,c,c,c⟩,f0,f1,f2,f3⟩:=a4;go_wp2;change bodyPost prog f35 _ _ _ (gB z (w.heap.size+1) st gs aa<|.slice a g.ay.length r);generalize gB z (w.heap.size+1) st gs aa (.slice a g.ay.length r)=c at*;let⟨⟨c,y1,y2,y3⟩,_⟩:=q.aa;refine sp (v:=iy st gs aa<|.slice a g.ay.length r) (by simp[results,results35,go_sem,c,y1,y2,y3]) W HE
abbrev muLink:Go.Conc.Locks.MuLink:={lock:=31,unlock:=32,ilock:=57,iunlock:=58,lockSlow:=87,unlockSlow:=90,disable:=83,enable:=85,acquire:=86,relMerge:=88,cas32:=84,add32:=89,tMutex:=87,tIMutex:=85,tPMutex:=126,tPIMutex:=176,tPI32:=178,tUP:=180,tNoCopy:=82,tU32:=83}
def Em:Go.Conc.Locks.MuLib prog muLink:=⟨func31,func32,func57,func58,func83,func85,func86,func88,func84,func89,underlying85,runUnderlying85,sizeOf85,isAgg85,zeroValue85,underlying87,runUnderlying87,sizeOf87,isAgg87,zeroValue87,underlying126,runUnderlying126,sizeOf126,isAgg126,zeroValue126,underlying176,runUnderlying176,sizeOf176,isAgg176,zeroValue176,underlying178,runUnderlying178,sizeOf178,isAgg178,zeroValue178,underlying180,runUnderlying180,sizeOf180,isAgg180,zeroValue180,underlying82,runUnderlying82,sizeOf82,isAgg82,zeroValue82,underlying21,runUnderlying21,sizeOf21,isAgg21,zeroValue21,N0⟩
def T0(A:Nat->Acc):TS:={aw:=A,aP:=λ_ _=>0,ch:=[],ay:=[]}
def V0(ab pb n:Nat)(sb:Vp):TV:={ab:=ab,pb:=pb,n:=n,sb:=sb,cv:=.slice none 0 0,lv:=.slice none 0 0,tv:=[]}
abbrev nt2(w:WD)(ab:Nat):WD:=(w.alloc<|.map #[] 0).alloc<|.cells #[.map<|some ab,.map<|some w.heap.size,.slice none 0 0,.slice none 0 0] 131
def DE(h:Accs ab n A sb w)(hz:Zr w):Tr w.heap.size (w.heap.size+1) (T0 A) (V0 ab w.heap.size n sb) (nt2 w ab):=by
 have C:Below _ w (nt2 w ab):=ai (ai (dO _ w) _) _;have D:(w.alloc<|.map #[] 0).heap.size=w.heap.size+1:=K2
 refine⟨?_,h.kb (Kb.h (S:=[]) C) K2,?_,Xy _ _ _ _,⟨W,Xy _ _ _ _,λi l t D=>by grind[T0],List.Pairwise.nil⟩,hz.below C,C.size,hz.2,λD=>?_⟩
 .have hr:=World.rowIs_alloc (w.alloc<|.map #[] 0) #[.map<|some ab,.map<|some w.heap.size,.slice _ 0 0,.slice _ 0 0] 131 (zh<|V0 ab w.heap.size n sb) (λi E=>by rcases k4 (E)with rfl|rfl|rfl|rfl<;>rfl);grind
 .refine PM.mono ⟨λ_=>none,?_,λa k=>W⟩ (In _);refine(MapV.bS _ _ w).block ?_;have:=(ai (dO _<|w.alloc<|.map #[] 0)<|.cells #[.map<|some ab,.map<|some w.heap.size,.slice none 0 0,.slice none 0 0] 131).block w.heap.size K2;omega
 have:=h.lt D;exact absurd this (by show¬w.heap.size<_;omega)
def BG(h:Accs ab n A sb w)(hz:Zr w):cP 34 #[.map<|some ab] w λe w'=>e=.returned (pt<|w.heap.size+1)/\bW w w'/\Tr w.heap.size (w.heap.size+1) (T0 A) (V0 ab w.heap.size n sb) w':=by have D:=cV<|DE h hz;have C:=@run_makeMap prog;go_enter func34,ntmps34;go_wp2;refine IE W W ⟨W,ai (ai (dO _ w) _) _,D⟩
def Cm(fr Z B:Nat)(G:data.size<=500)(E:ac<=100000)(w:WD):cP 30 #[SR fr Z B data ac] w (rT (.bool true) w):=by have D:=dT<|(data.size:Int)<=500;have C:=dT<|(ac:Int)<=100000;go_enter func30,ntmps30;go_wp2;refine IE W W ⟨W,ai (dO _ w) _⟩
variable {B bl:Nat}
def Fu:pz 33:=λ_ _=>N0
def MsgAt.cells(h:MsgAt x b fr Z B data gs):cL x b 0 (lu fr 0)/\cL x b 1 (lu fr 1)/\cL x b 2 (lu fr 2)/\cL x b 3 (lu fr 3)/\cL x b 4 (lu Z 0)/\cL x b 5 (lu Z 1)/\cL x b 6 (lu Z 2)/\cL x b 7 (lu Z 3)/\cL x b 8 (lu B 0)/\cL x b 9 (lu B 1)/\cL x b 10 (lu B 2)/\cL x b 11 (lu B 3)/\cL x b 12 (.string data)/\cL x b 13 (iI (gs:Int)):=by refine⟨rc h 0,rc h 1,rc h 2,rc h 3,rc h 4,rc h 5,rc h 6,rc h 7,rc h 8,rc h 9,rc h 10,rc h 11,rc h 12,rc h 13⟩
def TrK(A:Nat->Acc)(ab n:Nat)(sb:Vp)(w:WD):Kp:=λp v x=>∃U pb O,v=pt U/\(p=1->Tr O U (T0 A) (V0 ab pb n sb) x/\U=O+1/\pb=O/\w.heap.size<=O)
def RG{o:Yt}{a:Act}(w:WD)(O:gb<w.heap.size)(P:cL w gb 2<|.map<|some ab)(z:MsgAt w mb fr Z B data gs)(I:∀x,bW w x->(Instr.lookup 89 (.map<|some ab) (wv fr) false).run prog x=.ok (iu bl ae<|.map o) x)(T:bW w w.drew)(V:([17,18,19,20,21,22,23,24,25,26,27,28]:Tl).all (λd=>decide (d<a.tmps.size))=true)(c:tG a 0<|pt gb)(c3:tG a 3<|pt mb)(f:∀(x:WD),(PhO (λx=>bW w x) w) 1 x->Q .normal (dQ a [(17,pt gb),(18,pt gb),(19,pq gb 2),(20,.map<|some ab),(21,pt mb),(22,wv fr),(23,iu bl ae<|.map o),(24,wv bl),(25,pq mb 8),(26,wv B),(27,iI<|gP bl B),(28,.bool<|decide (gP bl B<0))]) x):(ym f13 5).wp prog Q a w:=by
 refine nZ (PhO (λx=>bW w x) w) (λ_ _ _=>True) [(0,pt gb),(3,pt mb)] [(some 17,.v<|pt gb),(some 18,.v<|pt gb),(some 19,.v<|pq gb 2),(some 20,.v<|.map<|some ab),(some 21,.v<|pt mb),(some 22,.v<|wv fr),(some 23,.v<|iu bl ae<|.map o),(some 24,.v<|wv bl),(some 25,.v<|pq mb 8),(some 26,.v<|wv B),(some 27,.v<|iI<|gP bl B),(some 28,.v<|.bool<|decide (gP bl B<0))] [10] [3,5,6,7,9] (ha:=⟨N0,V,(eR c<|eR c3 W),N0⟩) T
  ⟨(λC hv E=>by have C:bW w _:=C;refine eK Fu (xa (hv W)<|hv W) (ke bl B _) ?_;rintro e y⟨rfl,t⟩;exact⟨_,W,E _ y (C.trans<|t.mono C.size) AF nn1 W⟩
  ),AF⟩
  ⟨(@λk s x l H G q K D C hv E=>by have k0:cL x gb 2 (.map<|some ab):=((kG C (by have:=D 0 10;omega)).cell O).trans P;exact dm (hv W) k0 (kq E)
  ),(λD C hv E=>by let⟨m,u,r,p,c,N,F,S,A,j,L,J,X,R⟩:=(show MsgAt _ mb fr Z B data gs from cY z<|kG C (by have:=D 0 10;omega)).cells;exact dD (n:=fr) (hv W) m u r p (kq E)
  ),(@λk s x l H G q K D C hv E=>by have l:=I x (kG C (by have:=D 0 10;omega));have h:=@hv 20 _ W;have i:s.eval (.tmp 20)=_:=h;have U:=@hv 22 _ W;have i:s.eval (.tmp 22)=_:=U;clear hv q H D G;go_simp;exact(kq E)
  ),(@λk s x l H G q K D C hv E=>by have l:=NW bl ae o x;have Y:=@hv 23 _ W;have l:s.eval (.tmp 23)=_:=Y;clear hv q H D G;go_simp;exact(kq E)
  ),(λD C hv E=>by let⟨m,u,r,p,c,N,F,S,A,j,L,J,X,R⟩:=(show MsgAt _ mb fr Z B data gs from cY z<|kG C (by have:=D 0 10;omega)).cells;exact dD (n:=B) (hv W) A j L J (kq E)
  ),AF⟩
  (nl W) ?_
 intro g x C c;exact f x C
end
section
open Go.RowKit Go.Maps Go.MuLone
def yk(ab i:Nat):VL:=if i=0 then .int .i32 0 else if i=1 then .int .u32 0 else .map<|some ab
structure HostAt(gb ab n:Nat)(A:Nat->Acc)(sb:Vp)(w:WD):Prop where
 row:w.rowIs gb 91 3 (yk ab)
 aw:Accs ab n A sb w
 zr:Zr w
abbrev s2(w:WD)(fr Z B:Nat)(data:BA)(ac:Nat):WD:=(w.alloc<|.cells (LF fr Z B data ac) 43).alloc zd
def SentR(ab n m gb b:Nat)(A:Nat->Acc)(sb:Vp)(T':TS)(w y:WD):=∃(V':TV)(S2:Tl),Accs ab V'.n T'.aw V'.sb y/\V'.n<=n+m/\Kb S2 w y/\(∀k∈S2,fZ ab A sb k)/\Zr y/\(∀k,fZ ab T'.aw V'.sb k->fZ ab A sb k\/w.heap.size<=k)
def Lk(J:bW w x)(ha:Accs ab n A sb w)(f:U=O+1)(L:pb=O)(R:w.heap.size<=O)(h:cj O U (T0 A) T' (V0 ab pb n sb) [] m x y):SentR ab n m gb b A sb T' w y:=by
 let⟨I,S2,G,P,Y,V,X,Z⟩:=h;have D:I.ab=ab:=Z;have C:=G.aw;rw[D]at C;have E:∀k,bi U (T0 A) (V0 ab pb n sb) k->fZ ab A sb k\/w.heap.size<=k:=λk g=>by
  rcases g with e|e|e|e|e|⟨t,Q,e⟩
  .omega
  .exact LZ e
  .grind[V0]
  .cases e
  .cases e
  cases Q
 refine⟨I,S2.filter<|λk=>decide (k<w.heap.size),C,X,(Kb.h J).trans P<|λi c=>?_,λi c=>?_,G.zr,λk g=>?_⟩
 .by_cases hl:i<w.heap.size
  .exact LZ (Yj.2 ⟨c,by simpa using hl⟩)
  exact A4 wq
 .obtain⟨d,H⟩:=Yj.1 c;have H:i<w.heap.size:=by simpa using H
  rcases Y i d with e|e
  .cases e
  rcases E i e with e|e
  .exact e
  omega
 rcases V k (A4<|LZ (by rw[D];exact g))with e|e
 .exact E k e
 exact A4<|By J.size e
end
end cin
end Go.Proofs.YtohoajjdoihekaaGreatDoor
