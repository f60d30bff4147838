import Derived.Test.YtohoajjdoihekaaGreatDoorKj
set_option linter.unusedVariables false
set_option linter.unusedSimpArgs false
set_option linter.defProp false
namespace Go.Proofs.YtohoajjdoihekaaGreatDoor
namespace cin
open Go.RowKit Go.Maps Go.Proofs.Tryz Tryz
set_option maxRecDepth 100000
set_option maxHeartbeats 8000000
variable {ab n O m bb c i g N d t b off gb pb hb J p a k gs Z oa fr ac o xb H Y u E t1 t2 gv b1 U o1 o2 q1 q2:Nat}{A:Nat->Acc}{sb:Vp}{x y wr w x' y1:WD}{rs:List Rs}{ts S:Tl}{v pv lv X C u1 u2 u3 u7 u8 u9 u4 u6 u10 u11 u12 u13 u17 u19:VL}{sls xs cs tvs tv:Tn}{s:Act}{K:K6}{Jq9:X4}{I:Vm}{es:Es}{Q:Y6}{ty:Vr}{pos:String}{af:U9}{gd:U6}{pu:List Pur}{R' R Ry tr R0:RS}{wk:Wk}{F1 F F' G:Fz}{P:RW}{T:TS}{src aa data cd ot:BA}{strict br:Bool}{run:RS->RS}{L l:hZ}{ad:Gj}{L9:List LogE}
def Accs.blk(h:Accs ab n A sb x)(he:∀k,fZ ab A sb k->y.heap[k]?=x.heap[k]?):Accs ab n A sb y:=by
 refine⟨?_,λm D=>?_,h.inj,h.aO⟩
 .obtain⟨f,C,E⟩:=h.map;exact⟨f,C.block<|he _<|LZ W,E⟩
 rcases h.aK m D with C|⟨b,e,C,G⟩
 .exact LZ C
 exact A4 ⟨b,e,C,G.block<|he b<|A4 ⟨m,D,e⟩⟩
structure HoI(gb ab n:Nat)(A:Nat->Acc)(sb:Vp)(w:WD):Prop where
 row:w.rowIs gb 91 3 (yk ab)
 aw:Accs ab n A sb w
def fN(gb ab n:Nat)(A:Nat->Acc)(sb:Vp):Rs:=⟨λk=>k=gb\/fZ ab A sb k,HoI gb ab n A sb,λ{x k} h hk=>by
 rcases hk with rfl|hk
 .exact h.row.lt
 exact h.aw.lt hk,λ{x y} h hs he=>⟨World.rowIs.of_block h.row<|he gb<|LZ rfl,h.aw.blk λk hk=>he k<|A4 hk⟩⟩
def Zr.bq(h:Zr x)(C:0<O)(D:Below O x y):Zr y:=⟨⟨(D.cell C).trans h.1.1,(D.cell C).trans h.1.2.1,(D.cell C).trans h.1.2.2.1,(D.cell C).trans h.1.2.2.2⟩,Xg h.2 D.size⟩
theorem Sep.add{q:List Rs}(h:Sep O rs y)(G:O<=m)(E:∀r∈rs,∀k,r.F k->k<m)(H:∀r∈q,r.I y)(L:q.Pairwise λr s=>∀k,r.F k->¬s.F k)(C:∀r∈q,∀k,r.F k->m<=k):Sep O (q++rs) y:=by
 refine⟨λr J=>?_,XW.2 ⟨L,h.p,λr J s L k L D=>?_⟩,h.s⟩
 .rcases Xr.1 J with J|J
  .grind
  exact h.i r J
 grind
def Sep.lts(h:Sep O rs x):∀r∈rs,∀k,r.F k->k<x.heap.size:=λr D k C=>r.lt (h.i r D).1 C
theorem E5(A:Nat->Acc):∀(ts:Tl)(sls:Tn),sls.length=ts.length->∀(i:Nat) s,sls[i]?=some s->(Jl A ts sls)[i*10+9]?=some s
 |[],[],_,i,s,h=>by cases h
 |[],_::_,h,_,_,_=>by cases h
 |_::_,[],h,_,_,_=>by cases h
 |t::ts,a::sls,h,0,s,hs=>by cases hV hs;rfl
 |t::ts,a::sls,h,i+1,s,hs=>by show(jL t (A t).ai (A t).ae a++Jl A ts sls)[(i+1)*10+9]?=some s;rw[Xx (by show 10<=_;omega),show(i+1)*10+9-(jL t _ _ a).length=i*10+9 by show _-10=_;omega];exact E5 A ts _ (by simpa using h) i s hs
def Me(h:Sep O rs y)(V:O<=m)(P:∀r∈rs,∀k,r.F k->k<m)(C:Told m A ts v sls y):∃H:LT,H.length=ts.length/\(∀(i:Nat) t,H[i]?=some t->(Jl A ts sls)[i*10+9]?=some t.1/\t.2.1<=1000000000000)/\Sep O (fp 34 10 v ts.length (Jl A ts sls)::(H.map (rh 2)++rs)) y:=by
 have X:∀i:Nat,∃p:Nat×List _,i<ts.length->y.ownsRow m 54 8 _ p.1 p.2/\p.1<=1000000000000:=λi=>by
  by_cases Y:i<ts.length
  .have Z:sls[i]?=some (sls.getD i dL):=by rw[If,iN (by rw[C.len];exact Y)];rfl
   let⟨H,E,G,U⟩:=C.sl i _ _ (iN Y) Z;exact⟨(H.length,CH _ H),λ_=>⟨U,E⟩⟩
  exact⟨(0,[]),λh=>absurd h Y⟩
 let⟨f,c⟩:=Classical.axiomOfChoice X;have L:∀(i:Nat) t,((List.range _).map λi=>((sls.getD i dL,(f i).1,(f i).2)))[i]?=some t->i<ts.length/\t=(sls.getD i _,(f i).1,(f i).2):=λi t h=>by have Y:=(Do.1 h).1;rw[XH,List.length_range]at Y;rw[Xu,ZG Y]at h;exact⟨Y,(hV h).symm⟩
 refine⟨(List.range _).map λi=>(sls.getD i dL,(f i).1,(f i).2),by rw[XH,List.length_range],λi t h=>?_,?_⟩
 .obtain⟨Y,rfl⟩:=L i t h;refine⟨?_,(c i Y).2⟩;have Z:sls[i]?=some (sls.getD i dL):=by rw[If,iN (by rw[C.len];exact Y)];rfl
  exact E5 A ts _ C.len i _ Z
 refine Sep.add (q:=fp 34 10 v _ _::((List.range _).map _).map _) h V P (λr Z=>?_) ?_<|λr Z k b=>?_
 .rcases IF.1 Z with rfl|Z
  .exact fO C.aD (In _)
  obtain⟨t,E,rfl⟩:=Xq.1 Z;let⟨i,G⟩:=XM E;obtain⟨Y,rfl⟩:=L i t G;exact fO (c i Y).1<|In _
 .refine XT.2 ⟨λr Z k b D=>?_,?_⟩
  .obtain⟨t,E,rfl⟩:=Xq.1 Z;let⟨i,G⟩:=XM E;obtain⟨Y,rfl⟩:=L i t G;exact absurd ((Ty.az C.aD b).aF<|Ty.az (c i Y).1 D) K3
  rw[Zd];refine Y7.2 λi j Y R Q k b D=>?_;rw[XH,List.length_range]at Y R;simp only[List.getElem_map,List.getElem_range]at b D;have e:∀q (d:q<ts.length),sls.getD q dL=sls[q]'(by rw[C.len];exact d):=λq d=>by rw[If,iN (by rw[C.len];exact d)];rfl
  have J:(sls.getD i _).ownBlock=some k:=b;have I:(sls.getD j _).ownBlock=some k:=D;rw[e i Y]at J;rw[e j R]at I;exact Y7.1 C.dj i j (by rw[C.len];exact Y) (by rw[C.len];exact R) Q k J I
 rcases IF.1 Z with rfl|Z
 .exact(C.aD.lt k b).1
 obtain⟨t,E,rfl⟩:=Xq.1 Z;let⟨i,G⟩:=XM E;obtain⟨Y,rfl⟩:=L i t G;exact((c i Y).1.lt k b).1
section
variable {x0:WD}
section
variable {D:Td}
def Mw(x:WD)(b o k:Nat):=∀(j:Nat) u,(mW k)[j]?=some u->x.cell? ⟨b,o+j,none⟩=some u
def jm2(he:pg I D es ⟨some d,.load 24<|.tmp t,ty,pos,af,gd⟩ t=some (pq b off))(C:∀x,Jq9 x->Mw x b off 2):WL Jq9 I D es Q ⟨some d,.load 24<|.tmp t,ty,pos,af,gd⟩ (some d) (.v<|.agg #[iU 7,iU 7,iU 7,iU 2]):=by
 have e:(.agg #[iU 7,iU 7,iU 7,iU 2])=wv (Az 2):=N0
 rw[e];have G:(iU 7:VL)=lu (Az 2) 0:=N0
 have H:(iU 7:VL)=lu (Az 2) 1:=N0
 have L:(iU 7:VL)=lu (Az 2) 2:=N0
 have J:(iU ((2:Nat)):VL)=lu (Az 2) 3:=N0
 exact jw he λx E=>⟨G▸C x E 0 _ W,H▸C x E 1 _ W,L▸C x E 2 _ W,J▸C x E 3 _ W⟩
def JT(h:tG s t<|pq b off)(E:cL x b off<|iU 7)(U:cL x b (off+1)<|iU 7)(U:cL x b (off+2)<|iU 7)(L:cL x b (off+3)<|iU 1)(G:cL x b (off+4)<|iU 0)(P:cL x b (off+5)<|iU 0)(H:cL x b (off+6)<|iU 0)(J:cL x b (off+7)<|iU 0)(C:K (Wb s d<|.agg #[iU 7,iU 7,iU 7,iU 1,iU 0,iU 0,iU 0,iU 0]) x):Oper.wp prog ⟨some d,.load 54<|.tmp t,ty,pos,af,gd⟩ s x K Q:=by go_simp;exact C
def jms(he:pg I D es ⟨some d,.load 54<|.tmp t,ty,pos,af,gd⟩ t=some (pq b off))(C:∀x,Jq9 x->∀j u,j<8->(mC 2 1)[j]?=some u->cL x b (off+j) u):WL Jq9 I D es Q ⟨some d,.load 54<|.tmp t,ty,pos,af,gd⟩ (some d) (.v<|.agg #[iU 7,iU 7,iU 7,iU 1,iU 0,iU 0,iU 0,iU 0]):=λs x h G K E=>JT (G t _ he) (C x h 0 _ wq W) (C x h 1 _ wq W) (C x h 2 _ wq W) (C x h 3 _ wq W) (C x h 4 _ wq W) (C x h 5 _ wq W) (C x h 6 _ wq W) (C x h 7 _ wq W)<|kx E
end
def InI.bel{d:Nat}{G:Nat->VL×Tn}{l:VL}{C:LT}(h:InI O bb G c d l n xs C rs x0 i wr)(P:bW wr y):InI O bb G c d l n xs C rs x0 i y:=by let⟨H,E,J,L⟩:=h;exact⟨H,E.below P,J.trans<|P.mono E.s,L⟩
def NlI(O bb:Nat)(G:Nat->VL×Tn)(g c N:Nat)(rs:List Rs)(x:WD)(i:Nat)(y:WD):=∃G' xs,Sep O (eH bb G'::fp 34 10 (.slice (some ⟨g,0,none⟩) (N+1) c) (N+1) xs::rs) y/\Below O x y/\EG G G' (λk=>if k=2 then 4*N else 0)/\∀j,j<i->xs[j*10+9]?=some dL
theorem NlI.set{G:Nat->VL×Tn}(h:NlI O bb G g c N rs x i y)(hi:i<N+1):(∃u,cL y g (i*10+9) u)/\y.frozen? ⟨g,i*10+9,none⟩=false/\NlI O bb G g c N rs x (i+1) (y.setCell ⟨g,i*10+9,none⟩ dL):=by let⟨H,xs,C,J,P,R⟩:=h;have X:=C.tl.hd.1;obtain⟨-,U,e, -,E,Y⟩:=fH C.tl.hd i hi;injection e with e;injection e with e;subst e;have L:Sep _ (fp 34 10 _ _ (xs.set (i*10+9) dL)::eH bb H::rs) _:=C.sw.kb (S:=[g]) (DC C.tl.hd wq) ((Kb.refl _ _).setCell AI _) (λk X=>by rw[BY.1 X];rfl) λk X=>LZ X;refine⟨⟨_,E 9 _ wq<|iN wq⟩,Y _,H,_,L.sw,J.trans<|(dO _ y).setCell (C.tl.ge (k:=g) W) _,P,λj V=>?_⟩;grind
theorem ER{O:Nat}{rs:List Rs}{y:WD}(h:Sep O rs y):∀n:Nat,Sep O ((List.replicate n ((dL,0,[]):VL×Nat×Tn)).map (rh 2)++rs) y
 |0=>h
 |n+1=>(ER h n).new (r:=rh 2 (dL,0,[])) (Xy _ _ _ _) (dO _ _) λk C=>by cases C
def L4{G:Nat->VL×Tn}{l:List AcE}{C:LT}(ht:Ltd l C)(h:Sep O (eH bb G::G4 g c l C::(C.map (rh 2)++rs)) x)(hc:l.length+1<=c)(w:∀y,Sep O rs y->Below O x y->AcIn y v l)(hl:l.length<=1000000)(a9:∀a∈l,a.ar.length<=1000000000)(h4:∀k,(G k).2.length%4=0)(hG:∀k,(G k).2.length+10000000<=4000000000000):cP 38 #[pt bb,sL g l.length c,v] x λe y=>e=.returned (.bool true)/\∃E,Sep O (eH bb E::rs) y/\Below O x y/\EG G E λk=>if k=3 then 4 else if k=2 then 8*l.length+4 else 0:=by
 obtain⟨f,S,rfl,hv0⟩:=w x h.tl.tl.ap<|dO _ _;have HV:=cV w;obtain⟨N,P⟩:=dP l.length;have r:N<=1000000:=by rw[P.aa];exact hl
 have r:N+1<=c:=by rw[P.aa];exact hc
 have b0:=cV a9;have V:=cV ht;have H4:=cV h4;have a8:=cV hG;have r:Hd (InI O bb G 3 2 (sL g (N+1) c) (N+1) (sQ l C) C rs x 0 x):=by show InI _ _ _ _ _ _ _ _ _ _ _ _ _;rw[P.aa];exact⟨G,h,dO _ _,λk=>K2⟩
 rw[<-P.aa];rw[<-P.aa]at HV;clear w hv0 hl a9 h h4 hG ht hc;have b8:Hd (∀y,InI _ bb G 3 2 (.slice (some ⟨g,0,_⟩) (N+1) c) (N+1) (sQ l C) C rs x 0 y->cP 45 _ y _):=λy T=>by obtain⟨E,H,R,U⟩:=T;rw[P.aa]at H;have h1:=V.aa.in H.tl;rw[<-P.aa]at h1;exact yQ l y h1 (HV y H.tl.tl.ap R) (by rw[<-P.aa];omega) (λa w=>by have:=b0.aa a w;omega)
 go_enter func38,ntmps38;have w:(N:Int)+1<=(c:Int):=wq
 have w:(0:Int)<=N+1:=wq
 go_upto_region 3 with(first|(go_at_call 45;refine(b8 _ r).mono ?_;rintro e w⟨rfl,w⟩)|fail);have a5:=cV<|r.bel w;clear b8 r w;have r:Hd (∀y,InI O bb G 3 2 (sL g (N+1) c) (N+1) (sQ l C) C rs x 0 y->Mw y g (N*10) 2/\y.cell? ⟨g,N*10+9,_⟩=some (.slice _ 0 0)):=λy T=>by
  obtain⟨E,H,R,U⟩:=T;obtain⟨-,w,e, -,p, -⟩:=fH H.tl.hd N<|YS _;injection e with e;injection e with e;subst e;have Y:∀j,(sQ l C)[N*10+j]?=(mC 3 2)[j]? :=λj=>by rw[P.aa];exact QX V j
  refine⟨λj u hu=>?_,p 9 _ K3<|(Y 9).trans W⟩;have hj:j<4:=(Do.1 hu).1;refine p j u (Nat.lt_trans hj K3)<|(Y j).trans ?_;show(mW 2++_)[j]?=_;rw[Xv hj];exact hu
 have X:Hd (Bc λy=>InI O bb G 3 2 (sL g (N+1) c) (N+1) (sQ l C) C rs x 0 y):=λy z h hb=>h.bel hb;have HJ:=a5;refine Gs [(2,(.slice f N S)),(7,(sL g (N+1) c)),(8,(.bool true))] (nV 21 [.bool true,.bool true,.slice _ (N+1) c,.slice f N S,iI (N:Int),pq g<|N*10,.pointer _,.agg _,.agg #[iU 7,iU 7,iU 7,iU 2],.bool true,.bool true,.bool true,sL g (N+1) c,.slice f N S,iI (N:Int),.pointer _,pq g<|N*10+9,.slice none 0 0,iI (0:Int),.bool true,.bool true]++[(some 8,.v<|.bool true)]) [5,7,8,15,17] W X HJ ⟨(js λs x w K hK=>mA 10 (w 23 _ W) (w 25 _ W) (YS _) hK),(jm2 W λx hx=>(r x hx).1),(jl W λx _=>kk 2 wq x),(js λs x w K hK=>mA 10 (w 33 _ W) (w 35 _ W) (YS _) hK),(jc W λx hx=>(r x hx).2),AF⟩ λy2 a7=>?_;simp only[n8,sx9];have b1:=cV a7;clear a7 a5 HJ X r;go_wp2;go_loopw[8,9] (λr t9 wr=>∃i:Nat,i<=N/\r=.bool true/\t9=iI (i:Int)/\Hd (InI O bb G 3 2 (sL g (N+1) c) (N+1) (sQ l C) C rs x i wr)) (λ_ t9 _=>N-nI t9);case atStart=>exact⟨0,In _,W,W,b1⟩
 clear b1;obtain⟨i,r,rfl,rfl,F⟩:=hrel;by_cases hlt:i<N;case neg=>
  have hd:=dG i N;obtain rfl:i=N:=wq
  have a3:Hd (NlI O bb G g c i rs x 0 wr):=by obtain⟨E,H,R,U⟩:=F.aa;rw[Y0 (by rw[V.aa.1,P.aa];exact DO _)]at H;exact⟨E,_,H,R,U,λj hj=>absurd hj wq⟩
  clear F;go_wp2;go_loopw[12] (λr wr=>∃j:Nat,j<=i+1/\r=iI (j:Int)/\Hd (NlI O bb G g c i rs x j wr)) (λr _=>i+1-nI r);case atStart=>exact⟨0,In _,W,a3⟩
  clear a3;obtain⟨j,hj,rfl,r⟩:=hrel;by_cases hjt:j<i+1;case neg=>
   have hd2:=dF<|(j:Int)<((i+1:Nat):Int);obtain rfl:j=i+1:=wq
   have HAC:Hd (cP 46 #[pt bb,sL g (i+1) c] wr λe y=>e=AG/\∃E,Sep O (eH bb E::rs) y/\Below O x y/\EG G E λk=>if k=3 then 4 else if k=2 then 8*i+4 else 0):=by
    obtain⟨E,xs,H,R,U,k4⟩:=r.aa;have A:∀k,(E k).2.length=(G k).2.length+(if k=2 then 4*i else 0):=U;have k5:Sep O (eH bb E::fp 34 10 (sL g (i+1) c) (i+1) xs::((List.replicate (i+1) ((dL,0,[]):VL×Nat×Tn)).map (rh 2)++rs)) wr:=(ER H<|i+1).bh<|X6.trans<|List.Perm.cons _ X6;refine(eh (A4 ⟨W,W,W,W,W⟩) k5 (Yl ..) (λq t hq=>?_) (λt ht=>?_) (λk=>?_)<|λk=>?_).mono ?_
    .rw[List.getElem?_replicate]at hq;split at hq
     .obtain rfl:=hV hq;exact k4 q wq
     cases hq
    .rw[List.eq_of_mem_replicate ht];exact In _
    .have h9:=H4.aa k;rw[A k];split<;>omega
    .have h9:=a8.aa k;rw[A k];split<;>omega
    rintro e y⟨h1,G2,h2,h3,h5⟩;refine⟨h1,G2,h2,R.trans h3,λk=>?_⟩;have h6:=h5 k;rw[A k]at h6;rw[h6];by_cases L:k=3
    .subst L;simp
    by_cases m:k=2
    .subst m;simp;omega
    simp[L,m]
   clear r;go_wp2_with(first|(go_at_call 46;refine HAC.mono ?_;rintro e y9⟨rfl,Y⟩;replace Y:=cV Y)|fail);go_ret;exact⟨W,Y.aa⟩
  have hd2:=dT<|(j:Int)<((i+1:Nat):Int);obtain⟨⟨u,hu⟩,hf,HE⟩:=r.aa.set hjt;replace HE:=cV HE;clear r;go_wp2;go_roundw;case rel=>exact⟨j+1,wq,N1,HE⟩
  simp[nI];omega
 have hd:=dN i N;have o:i<l.length:=by rw[<-P.aa];exact hlt
 obtain⟨a,a6⟩:∃a,Hd (a=l[i]):=⟨l[i],cV W⟩
 have a0:Hd (l[i]?=some a):=by show _=_;rw[iN o,a6.aa]
 have r:a.ar.length<=1000000000:=by rw[a6.aa];exact b0 _<|Ya o
 obtain⟨J,Z⟩:=dP a.ar.length;have hn5:J<=1000000000:=by rwa[Z.aa]
 have b6:Hd (∃g2 c2,J+1<=c2/\∀y,InI O bb G 3 2 (sL g (N+1) c) (N+1) (sQ l C) C rs x i y->cL y g (i*10+9) (sL g2 J c2)/\(∀j u,j<8->(mC 2 1)[j]?=some u->cL y g2 (J*8+j) u)/\∃E,Sep O (eH bb E::fp 54 8 (sL g2 (J+1) c2) (J+1) (io a.ar++mC 2 1)::fp 34 10 (sL g (N+1) c) (N+1) (sQ l C)::((C.drop<|i+1).map (rh 2)++rs)) y/\Below O x y/\EG G E λk=>if k=2 then 4*i else 0):=by obtain⟨E,H,R,U⟩:=F.aa;rw[P.aa]at H;obtain⟨g2,c2,r,m, -, -, -⟩:=V.aa.aF H.tl a0;clear H;refine⟨g2,c2,by rw[Z.aa];exact m,λy T=>?_⟩;obtain⟨E,H,R,U⟩:=T;rw[P.aa]at H;have k1':Sep O (G4 g c l C::((C.drop i).map (rh 2)++eH bb E::rs)) y:=H.sw.bh<|List.Perm.cons _ X6.symm;obtain⟨g3,c3,L, -,e4,e5,e6⟩:=V.aa.aF k1' a0;rw[r]at L;injection L with L;injection L with L;injection L with L e7 e8;injection L with L;injection L with L;subst L e8;rw[Z.aa,P.aa];exact⟨e4,e5,E,(e6.bh<|(X6.cons _).cons _).bG,R,U⟩
 obtain⟨g2,c2,hc2,hO⟩:=b6.aa;have HO:=cV hO;have r9:=(HO wr F).1;have b7:Hd (∃gv ov av cv,f=some ⟨gv,ov,none⟩/\cL wr gv (ov+i*10+9) (.slice av J cv)):=by obtain⟨E,H,R,U⟩:=F.aa;obtain⟨ad',cp',r,h9⟩:=HV.aa wr H.tl.tl.ap R;obtain⟨gv,ov,m,A,p⟩:=h9.resolve_left (λe=>by rw[e]at o;exact absurd o K2);obtain⟨sl,hc,hsl⟩:=p i a a0;obtain⟨av,cv,rfl, -⟩:=hsl;injection r with r;exact⟨gv,ov,av,cv,r.trans m,by rw[Z.aa];exact hc 9 wq⟩
 obtain⟨gv,ov,av,cv,rfl,v9⟩:=b7.aa;have r:(J:Int)+1<=(c2:Int):=wq
 have r:(0:Int)<=(J:Int)+1:=wq
 clear hO b6 b7;go_upto_region 11 with fail
 clear v9 r9;have HJ:=F;have X:Hd (Bc λy=>InI O bb G 3 2 (sL g (N+1) c) (N+1) (sQ l C) C rs x i y):=λy z h hb=>h.bel hb;have b9:Hd (∀y,InI O bb G 3 2 (sL g (N+1) c) (N+1) (sQ l C) C rs x i y->∀j u,j<8->(mC 2 1)[j]?=some u->cL y g2 (J*8+j) u):=λy T=>(HO y T).2.1;refine Gs [(8,(.bool true)),(10,(iI (J:Int))),(11,(sL g2 (J+1) c2))] (nV 70 [.bool true,.bool true,sL g2 (J+1) c2,iI (J:Int),pq g2<|J*8,.agg #[iU 7,iU 7,iU 7,iU 1,iU 0,iU 0,iU 0,iU 0],.agg #[iU 7,iU 7,iU 7,iU 1],.agg #[iU 7,iU 7,iU 7,iU 1,iU 0,iU 0,iU 0,iU 0],.bool true,.bool true]++[(some 8,.v<|.bool true)]) [4,5,6] W X HJ ⟨(js λs x w K hK=>mA 8 (w 72 _ W) (w 73 _ W) (YS _) hK),(jms W λx hx=>b9 x hx),(jl W λx _=>kk 1 wq x),AF⟩ λw a4=>?_;simp only[n8,sx9];have r:Hd (cP 65 #[pt bb,sL g2 (J+1) c2] w λe y=>e=AG/\InI O bb G 3 2 (sL g (N+1) c) (N+1) (sQ l C) C rs x (i+1) y):=by
  obtain⟨-, -,E,H,R,U⟩:=HO.aa w a4;have A:∀k,(E k).2.length=(G k).2.length+(if k=2 then 4*i else 0):=U;refine(SP (A4 ⟨W,W⟩) H ?_ ?_ ?_).mono ?_
  .have h9:=H4.aa 2;rw[A 2,At W];omega
  .have h9:=a8.aa 2;rw[A 2,At W];omega
  .omega
  rintro e y⟨h1,G2,h2,h3,h5⟩;refine⟨h1,G2,h2,R.trans h3,λk=>?_⟩;have h6:=h5.u k;rw[A k]at h6;show _=_+(if k=2 then 4*(i+1)else 0);rw[h6];by_cases m:k=2
  .subst m;simp;omega
  simp[m]
 clear F HJ X b9 HO a4;go_wp2_with(first|(go_at_call 65;refine r.mono ?_;rintro e y9⟨rfl,Y⟩;replace Y:=cV Y)|fail);go_roundw;case rel=>exact⟨i+1,wq,W,N1,Y.aa⟩
 simp[nI];omega
def Vj(a:AcE)(s:VL):jL (Er a).aj (Er a).ai (Er a).ae s=jL a.aj a.ai a.ae s:=by grind[jL,Er,oJ]
def Ol{L:List<|Nat×Nat}(h:SlIn x v L):SlIn x v (L.map λq=>(q.1%M,q.2%M)):=by
 let⟨H,c,E,C⟩:=h;refine⟨H,c,by rw[XH];exact E,?_⟩;rcases C with rfl|⟨g,o,I,D,G⟩
 .exact LZ W
 refine A4 ⟨g,o,I,D,λi p L j J=>?_⟩;rw[Xu]at L;obtain⟨q,P,rfl⟩:=Y1.1 L;dsimp only;rw[zbQ,zbQ];exact G i q P j J
def Ou{l:List AcE}(h:AcIn x v l):AcIn x v (l.map Er):=by
 let⟨I,c,E,C⟩:=h;refine⟨I,c,by rw[XH];exact E,?_⟩;rcases C with rfl|⟨g,o,J,D,H⟩
 .exact LZ W
 refine A4 ⟨g,o,J,D,λi p Q=>?_⟩;rw[Xu]at Q;obtain⟨q,U,rfl⟩:=Y1.1 Q;let⟨Q,L,G⟩:=H i q U;exact⟨Q,λj P=>by rw[Vj];exact L j P,Ol G⟩
def AcOwn.ml{l:List AcE}(h:AcOwn O v l x):∀a∈l,a.ar.length<=9223372036854775807:=λa C=>by
 let⟨H,J,I,D⟩:=h.ex;let⟨i,L⟩:=XM C;have G:=(Do.1 L).1;rcases(D i a _ L<|iN wq).2 with⟨_,e⟩|⟨g,E,cur,_,_,_,h5,h6,_⟩
 .omega
 have:maxLen=9223372036854775807:=N0
 omega
def xT(h:Sep O (fN gb ab n A sb::rs) x)(hz:Zr x)(hn:n<=400000000000):cP 23 #[pt gb] x λe y=>∃(v:VL)(l:List AcE)(R:Tn)(E:LT),e=.returned v/\IsList A l/\(AcOwn x.heap.size v l y/\Kb [gb] x y/\∀a∈l,a.ar.length<=9223372036854775807)/\l.length<=n/\E.length=l.length/\(∀(i:Nat) t,E[i]?=some t->R[i*10+9]?=some t.1/\t.2.1<=1000000000000)/\Sep O (fp 34 10 v l.length R::(E.map (rh 2)++fN gb ab n A sb::rs)) y/\Below O x y:=by
 refine(Ke x ⟨h.hd.row,h.hd.aw,hz⟩ wq).mono ?_;rintro e y⟨v,ts,Y,rfl,P,G,U,L,I⟩;let⟨l,g,Q⟩:=U.list G;have X:l.length=ts.length:=by
  let⟨H,J,Z,_⟩:=g;rw[Z];have:H=ts:=by have C:=J.1;have D:=G.1;refine List.Perm.eq_of_pairwise (λa b _ _ P G=>absurd P wq) C D ?_;refine(List.perm_ext_iff_of_nodup (C.imp λh=>Nat.ne_of_lt h)<|D.imp λh=>Nat.ne_of_lt h).2 λm=>?_;rw[J.2 m,G.2 m]
  rw[this]
 have j:Sep _ (fN gb ab n A sb::rs) y:=h.kb ⟨L.row,L.aw⟩ I (λk c=>LZ<|BY.1 c) λk c=>LZ c;let⟨E,d,V,f⟩:=Me j h.s h.lts U;refine⟨v,l,_,E,W,g,⟨Q,I,Q.ml⟩,wq,wq,V,K9,I.bel (λk c=>?_) h.s⟩;rw[BY.1 c];exact h.ge<|LZ W
variable {sl:List Slt}
def pm1{α:Type}(G:List α){C:List α}(rs:List α){E R D B:α}:(G++E::(C++R::D::B::rs)).Perm (B::(C++(G++E::R::D::rs))):=by
 have I:(C++R::D::B::rs).Perm (B::(C++R::D::rs)):=by rw[(K2:C++R::D::B::rs=(C++[R,D])++B::rs),(K2:C++R::D::rs=(C++[R,D])++rs)];exact X6
 have H:(G++E::B::(C++R::D::rs)).Perm (B::((G++[E])++(C++R::D::rs))):=by rw[(K2:G++E::B::(C++R::D::rs)=(G++[E])++B::(C++R::D::rs))];exact X6
 refine((I.cons E).append_left G).trans<|H.trans<|List.Perm.cons _ ?_;grind[List.perm_append_comm_assoc]
def KH{G:Nat->VL×Tn}(h:Sep O (gj pb 106 [pt gb,pt hb]::fN gb ab n A sb::iK hb pu sl pv lv::eH bb G::rs) x)(hz:Zr x)(h0:0<O)(hc:Cd ⟨pu,sl,[]⟩)(hr:RelW (T0 A) ⟨pu,sl,[]⟩)(hn:n<=400000000000)(hpl:pu.length<=400000000)(hsl:sl.length<=400000000)(h4:∀k,(G k).2.length%4=0)(hG:∀k,(G k).2.length+8*n+8<=4000000000000):cP 19 #[pt pb,pt bb] x λe y=>e=.returned (.bool true)/\∃H l,IsList A l/\l.length<=n/\Sep O (gj pb 106 [pt gb,pt hb]::fN gb ab n A sb::iK hb pu sl pv lv::eH bb H::rs) y/\Below O x y/\EG G H λk=>if k=3 then 8 else if k=2 then 8*l.length else 0:=by
 have hgx:=h.tl.hd.row.lt;have W1:=cV<|xT h.sw hz hn;have X:Hd _:=FI hc hr;have d:Hd (∀l,IsList A l->l=(uJ _).map _):=λl hl=>hl.bU X ⟨λ_=>W,λ_=>W,λ_ _=>W⟩;let⟨L,HL⟩:=dP<|(uJ ⟨pu,sl,[]⟩).map Er;rw[<-HL.aa]at X d;have r0:=rowL.cell (i:=0) h.hd W;have HZ:=cV hz;have a5:=cV h4;have N:=cV hG;clear h hz hc hr h4 hG;go_enter func19,ntmps19;go_upto_region 2 with(first|(go_at_call 23;refine W1.aa.mono ?_;rintro e y1⟨v1,l1,xs1,us1,rfl,f,⟨R,a,U⟩,hn1,m,V,E,q⟩)|fail);obtain rfl:=d.aa l1 f;obtain⟨a1,c1,rfl⟩:=dt E.hd;have W2:=cV<|xT (E.bh<|X6 (l₁:=_::us1.map _)) (HZ.bq h0 q) hn;replace r0:=rowL.cell (i:=0) E.tl.ap.tl.hd W;replace f:=cV f;replace R:=cV R;replace E:=cV E;replace q:=cV q;replace V:=cV V;replace m:=cV m;replace U:=cV U;clear a W1;go_upto_region 3 with(first|(go_at_call 23;refine W2.aa.mono ?_;rintro e y2⟨v2,J,xs2,a6,rfl,a7,⟨a4,S,w⟩,hn2,Z,Q,I,a0⟩)|fail);obtain rfl:=d.aa J a7;obtain⟨a2,c2,rfl⟩:=dt I.hd;have r1:=rowL.cell (i:=1) I.tl.ap.tl.ap.hd W;have W3:=cV<|Ci I.tl.ap.tl.ap.tl hpl hsl;have z:=cV<|R.aa.kb S<|λk hk=>K9;have T:=cV a4;have g:=cV I;have b:=cV<|q.aa.trans a0;replace Q:=cV Q;replace Z:=cV Z;clear S W2 a4 I a0 a7 w r0 q R E;go_upto_region 4 with(first|(go_at_call 44;refine W3.aa.mono ?_;rintro e y3⟨v3,rfl,C,D⟩)|fail);replace C:=Ou C;rw[<-HL.aa]at C;have a9:J.length<=9223372036854775807:=wq
 have p:Hd _:=λy F=>yQ J y (z.is.below<|D.trans<|F.mono D.size) (C.below F) a9 U.aa;have K:Hd _:=λy F=>yQ J y (T.is.below<|D.trans<|F.mono D.size) (C.below F) a9 U.aa;obtain⟨a3,n3,c3,rfl⟩:∃a3 n3 c3,v3=.slice a3 n3 c3:=by obtain⟨a3,c3,u, -⟩:=C;grind
 have j:=cV D;clear C D W3 r1;go_upto_region 5 with(first|(go_at_call 45;refine(p y3<|dO _ _).mono ?_;rintro e y4⟨rfl,P⟩)|fail);replace P:=cV P;clear p;go_upto_region 6 with(first|(go_at_call 45;refine(K y4 P.aa).mono ?_;rintro e y5⟨rfl,a8⟩)|fail);have o:Hd (bW y2 y5):=by have c:=j.aa.trans<|P.aa.mono j.size;exact c.trans<|a8.mono c.size
 clear K P a8 j;have W6:Hd (cP 46 #[pt bb,.slice a1 J.length c1] y5 λe y=>e=AG/\∃H,Sep O (eH bb H::fp 34 10 (.slice a2 J.length c2) J.length xs2::(a6.map (rh 2)++fN gb ab n A sb::gj pb 106 [pt gb,pt hb]::iK hb pu sl pv lv::rs)) y/\Below O x y/\EG G H λk=>if k=3 then 4 else if k=2 then 4*J.length else 0):=by
  have s5:=(g.below o).bh<|pm1 (_::a6.map _) rs;refine(eh (A4 ⟨W,W,W,W,W⟩) s5 m.aa (λi t Y=>(V.aa i t Y).1) (λt Y=>?_) a5<|λk=>?_).mono ?_
  .obtain⟨i,hi⟩:=XM Y;exact(V.aa i t hi).2
  .have:=N.aa k;omega
  rintro e y⟨c,H,q2,q3,q4⟩;exact⟨c,H,q2,(b.trans<|o.mono g.s).trans q3,q4⟩
 clear g o z T b;go_upto_region 7 with(first|(go_at_call 46;refine W6.aa.mono ?_;rintro e y6⟨rfl,G1,k1,k2,k3⟩)|fail);have W7:Hd (cP 46 #[pt bb,.slice a2 J.length c2] y6 λe y=>e=AG/\∃H l,IsList A l/\l.length<=n/\Sep O (gj pb 106 [pt gb,pt hb]::fN gb ab n A sb::iK hb pu sl pv lv::eH bb H::rs) y/\Below O x y/\EG G H λk=>if k=3 then 8 else if k=2 then 8*l.length else 0):=by
  have v:∀k,(G1 k).2.length=(G k).2.length+(if k=3 then 4 else if k=2 then 4*J.length else 0):=k3;refine(eh (A4 ⟨W,W,W,W,W⟩) k1 Z.aa (λi t Y=>(Q.aa i t Y).1) (λt Y=>?_) (λk=>?_)<|λk=>?_).mono ?_
  .obtain⟨i,hi⟩:=XM Y;exact(Q.aa i t hi).2
  .have:=a5.aa k;rw[v k];split
   .omega
   split<;>omega
  .have:=N.aa k;rw[v k];split
   .omega
   split<;>omega
  rintro e y⟨c,H,q2,q3,q4⟩;refine⟨c,H,J,X,hn2,q2.bG.bh<|((List.Perm.swap _ _ _).trans<|(List.Perm.swap _ _ _).cons _).cons _,k2.trans q3,λk=>?_⟩;have h6:=q4 k;rw[v k]at h6;rw[h6];by_cases u:k=3
  .subst u;simp
  by_cases e2:k=2
  .subst e2;simp;omega
  simp[u,e2]
 clear W6 k1 k2 k3;go_wp2_with(first|(go_at_call 46;refine W7.aa.mono ?_;rintro e y7⟨rfl,r⟩;replace r:=cV r)|fail);go_ret;exact⟨W,r.aa⟩
def PA{l:List AcE}(h:Sep O rs x)(hv:∀y,Sep O rs y->Below O x y->AcIn y v l)(hl:l.length<=1000000000)(a6:∀a∈l,a.ar.length<=1000000000):cP 37 #[v] x λe y=>∃g c R,e=.returned (sL g l.length c)/\l.length+1<=c/\Ltd l R/\Sep O (fp 34 10 (sL g (l.length+1) c) (l.length+1) (rD l (LM R)++mC 3 2)::(R.map (rh 2)++rs)) y/\Below O x y:=by
 obtain⟨ad,cp,rfl,hv0⟩:=hv x h<|dO _ _;have HV:=cV hv;have H0:Hd (LnI O rs l x 0 dL x):=⟨[],⟨W,λj t a ht=>by cases ht⟩,by refine(h.new (r:=fp 34 10 dL 0 []) (Xy _ _ _ _) (dO _ _) λk hk=>by cases hk),dO _ _⟩
 let⟨L,HL⟩:=dP l.length;have hL:L<=1000000000:=by rw[HL.aa];exact hl
 have HLS:=cV a6;rw[<-HL.aa];rw[<-HL.aa]at HV;clear hv hv0 hl a6 h;go_enter func37,ntmps37;go_wp2;go_loopw[3,4] (λt3 t4 wr=>∃(i:Nat)(a3:Gj)(c3:Nat),i<=L/\t4=iI (i:Int)/\t3=.slice a3 i c3/\Hd (LnI O rs l x i (.slice a3 i c3) wr)) (λ_ t4 _=>L-nI t4);case atStart=>exact⟨0,none,0,In _,W,W,H0.aa⟩
 clear H0;obtain⟨i,a3,c3,hi,rfl,rfl,HI⟩:=hrel;by_cases hlt:i<L;case neg=>
  have hd:=dG i L;obtain rfl:i=L:=wq
  have a5:Hd (∀z,bW wr z->∃g c X,(Builtin.append_ #[35,35] 35 #[.slice a3 i c3,sL z.heap.size 1 1]).run prog (z.alloc<|.cells #[iU 7,iU 7,iU 7,iU 2,iU 0,iU 0,iU 0,iU 0,.string ⟨#[]⟩,.slice none 0 0] 34)=.ok (sL g (i+1) c) X/\i+1<=c/\∃R,Ltd l R/\Sep O (fp 34 10 (sL g (i+1) c) (i+1) (rD l (LM R)++mC 3 2)::(R.map (rh 2)++rs)) X/\Below O x X):=λz u=>by have T:=HI.aa.bel u;rw[HL.aa]at T⊢;exact T.e (by rw[<-HL.aa];exact hL)
  have HM:=cV<|λw=>kk 2 wq w;clear HI;go_upto_region 12 with(first|(go_at_call 47;refine(HM _).mono ?_;rintro e z⟨rfl,u⟩;let⟨g,c,X,HR,hc,HE⟩:=a5.aa z u;replace HR:=cV HR;replace HE:=cV HE)|(at_builtin;refine Lib.wpList_append_run _ rfl _ _ _ _ rfl _ _ rfl rfl _ _ HR ?_)|fail);have q1:(i:Int)<=(c:Int):=wq
  have q0:(0:Int)<=(i:Int):=wq
  clear HR u HM a5;go_wp2;go_ret;let⟨R,k1,S,n⟩:=HE.aa;exact⟨g,c,R,W,hc,k1,S,n⟩
 have hd:=dN i L;have A:i<l.length:=by rw[<-HL.aa];exact hlt
 obtain⟨a,a2⟩:∃a,Hd (a=l[i]):=⟨l[i],cV W⟩
 have b6:Hd (l[i]?=some a):=by show _=_;rw[iN A,a2.aa]
 have N:a.ar.length<=1000000000:=by rw[a2.aa];exact HLS _<|Ya A
 have b0:Hd (∃g o sl,ad=some ⟨g,o,none⟩/\(∀j,j<10->cL wr g (o+i*10+j) ((jL a.aj a.ai a.ae sl)[j]!))/\SlIn wr sl a.ar):=by let⟨R,k1,S,n⟩:=HI.aa;let⟨ad',cp',q,T⟩:=HV.aa wr S.tl.ap n;let⟨g,o,e2,hg,E⟩:=T.resolve_left (λe=>by rw[e]at A;exact absurd A K2);let⟨sl,hc,U⟩:=E i a b6;injection q with q;exact⟨g,o,sl,q.trans e2,hc,U⟩
 obtain⟨g,o,sl,rfl,E,U⟩:=b0.aa;have a7:=U;obtain⟨Q,c5,e5, -⟩:=a7;let⟨H,Y⟩:=dP a.ar.length;rw[<-Y.aa]at e5;let⟨v1,y1,V,R,a9,f,b1⟩:=HI.aa.a U N;subst e5;let⟨a1,c1,q⟩:=dt f.hd;rw[<-Y.aa]at q;subst q;let⟨ab,p⟩:=hJ wr.heap.size;rw[<-p]at f;have HT:=cV<|aIn a9<|aIn f b1;clear a9 f b1 b0 U HI;let⟨D,C,P,ss9⟩:=a;dsimp only at E V HT N Y;have s0:=E 0 wq;have s1:=E 1 wq;have s2:=E 2 wq;have s3:=E 3 wq;have s4:=E 4 wq;have s5:=E 5 wq;have s6:=E 6 wq;have s7:=E 7 wq;have s8:=E 8 wq;have s9:=E 9 wq;replace s0:cL wr g (o+i*10) (iU<|cX D 0):=s0;replace s1:cL wr g (o+i*10+1) (iU<|cX D 1):=s1;replace s2:cL wr g (o+i*10+2) (iU<|cX D 2):=s2;replace s3:cL wr g (o+i*10+3) (iU<|cX D 3):=s3;replace s4:cL wr g (o+i*10+4) (iU<|cX C 0):=s4;replace s5:cL wr g (o+i*10+5) (iU<|cX C 1):=s5;replace s6:cL wr g (o+i*10+6) (iU<|cX C 2):=s6;replace s7:cL wr g (o+i*10+7) (iU<|cX C 3):=s7;replace s8:cL wr g (o+i*10+8) (.string P):=s8;replace s9:cL wr g (o+i*10+9) (.slice Q H c5):=s9;let⟨y0,m⟩:=hJ<|wr.alloc<|.cells #[iU<|cX D 0,iU<|cX D 1,iU<|cX D 2,iU<|cX D 3,iU<|cX C 0,iU<|cX C 1,iU<|cX C 2,iU<|cX C 3,.string P,.slice Q H c5] 34;replace V:Hd ((Builtin.append_ #[32,32] 32 #[.slice none 0 0,.slice Q H c5]).run prog y0=.ok (.slice a1 H c1) y1):=by rwa[m]
 have r9:cL y0 ab 9 (.slice Q H c5):=by rw[m,p];exact(rowL.al wr (jL D C P<|.slice Q H c5) 34).cell (i:=9) W
 clear E;go_upto_region 6 with fail
 rw[<-m,<-p];clear m p s0 s1 s2 s3 s4 s5 s6 s7 s8 s9;have HM:=cV<|λw=>kk 1 wq w;have a8:Hd (∀z,bW y1 z->∃g2 c2 K v3 X,(Builtin.append_ #[32,32] 32 #[.slice a1 H c1,sL z.heap.size 1 1]).run prog (z.alloc<|.cells #[iU 7,iU 7,iU 7,iU 1,iU 0,iU 0,iU 0,iU 0] 54)=.ok (sL g2 (H+1) c2) K/\H+1<=c2/\rowL K ab 34 (jL D C P<|.slice Q H c5)/\rowL (K.setCell ⟨ab,9,none⟩<|sL g2 H c2) ab 34 (jL D C P<|sL g2 H c2)/\
  (Builtin.append_ #[35,35] 35 #[.slice a3 i c3,sL K.heap.size 1 1]).run prog ((K.setCell ⟨ab,9,none⟩<|sL g2 H c2).alloc<|.cells (jL D C P<|sL g2 H c2).toArray 34)=.ok v3 X/\LnI O rs l x (i+1) v3 X):=λz u=>by
  let⟨k1,S,n⟩:=HT.aa;have T:=LnI.b (a:=⟨D,C,P,ss9⟩) k1 (S.below u) (n.trans<|u.mono S.s) N wq b6;dsimp only at T;rwa[<-Y.aa]at T
 clear HT;go_upto_region 9 with(first|(go_at_call 47;refine(HM _).mono ?_;rintro e z⟨rfl,u⟩;let⟨g2,c2,K,v3,X,Z,hc2,I,G,d,HE⟩:=a8.aa z u;replace Z:=cV Z;replace d:=cV d;replace HE:=cV HE;replace I:=cV I;replace G:=cV G)|(at_builtin;first|refine Lib.wpList_append_run _ rfl _ _ _ _ rfl _ _ rfl rfl _ _ V ?_|refine Lib.wpList_append_run _ rfl _ _ _ _ rfl _ _ rfl rfl _ _ Z ?_)|fail);have q1:(H:Int)<=(c2:Int):=wq
 have q0:(0:Int)<=(H:Int):=wq
 have t9:=I.aa.cell (i:=9) W;have tf:=World.rowIs.frozen I.aa 9;clear V Z a8 HM r9 u;go_upto_region 10 with fail
 let⟨F,J⟩:=hJ<|K.setCell ⟨ab,9,none⟩<|sL g2 H c2;have a0:K.heap.size=F.heap.size:=by rw[J];simp
 rw[<-J]at G;have HR4:Hd ((Builtin.append_ #[35,35] 35 #[.slice a3 i c3,sL F.heap.size 1 1]).run prog (F.alloc<|.cells #[iU<|cX D 0,iU<|cX D 1,iU<|cX D 2,iU<|cX D 3,iU<|cX C 0,iU<|cX C 1,iU<|cX C 2,iU<|cX C 3,.string P,sL g2 H c2] 34)=.ok v3 X):=by rwa[<-a0,J]
 rw[<-J];clear J a0 d t9 tf I;have mm:=G.aa.cs;simp only[oI,jL,XN,XG,Nat.reduceAdd]at mm;clear G;go_wp2_with(first|(at_builtin;refine Lib.wpList_append_run _ rfl _ _ _ _ rfl _ _ rfl rfl _ _ HR4 ?_)|fail);let⟨ts3,k1,S,n⟩:=HE.aa;obtain⟨a4,c4,rfl⟩:=dt S.hd;go_roundw;case rel=>exact⟨i+1,a4,c4,wq,N1,W,HE⟩
 simp[nI];omega
def pm2{α:Type}{T rs:List α}{C A B:α}:(C::A::(T++B::rs)).Perm (B::A::(T++C::rs)):=((X6.cons _).cons _).trans<|(((List.Perm.swap B A _).cons C).trans<|List.Perm.swap B C _).trans<|((List.Perm.swap A C _).cons B).trans<|(X6.symm.cons A).cons B
def U3{G:Nat->VL×Tn}{l:List AcE}(h:Sep O (eH bb G::rs) x)(hz:Zr x)(h0:0<O)(S:∀y,Sep O rs y->Below O x y->AcIn y v l)(b:jt l=true)(h4:∀k,(G k).2.length%4=0)(hG:∀k,(G k).2.length+10000000<=4000000000000):cP 17 #[v,pt bb] x λe y=>∃w q u ab n sb pv lv I,e=.returned (.tuple #[pt w,.bool true])/\n<=40/\Sep O (gj w 106 [pt q,pt u]::fN q ab n (jO l) sb::iK u (l.map uD) (l.flatMap ic) pv lv::eH bb I::rs) y/\Below O x y/\EG G I λk=>if k=3 then 4 else if k=2 then 8*l.length+4 else 0:=by
 obtain⟨U,hp⟩:=pY b;have W1:=cV<|PA h (λy Z u=>S y Z.tl u) wq λa T=>K9;obtain⟨w,w,w, -⟩:=S x h.tl<|dO _ _;obtain⟨L,HL⟩:=dP l.length;have HV:=cV S;have HZ:=cV hz;have H4:=cV h4;have t:=cV hG;have HR:=cV b;have m:=cV U;have E:=cV<|λa T=>(hp a T).2.1;rw[<-HL.aa]at w;subst w;clear h hz S h4 hG hp b U;go_enter func17,ntmps17;go_upto_region 2 with(first|(go_at_call 37;refine W1.aa.mono ?_;rintro e b⟨g,c,ts,rfl,D,V,C,w⟩)|fail);replace V:=cV V;replace C:=cV C;replace w:=cV w;replace D:=cV D;go_upto_region 3 with(first|(go_at_call 29;refine(cV<|Rh l b (V.in C) (HZ.bq h0 w) HR).aa.mono ?_;rintro e y2⟨q,rfl,ab,n,sb,hn,b,J,z,i⟩)|fail);have N:Hd (Sep _ (eH bb G::G4 g c l ts::(ts.map _++fN q ab n _ sb::rs)) y2):=(C.aa.new (r:=fN q ab n _ sb) ⟨b.row,b.aw⟩ J (λk hk=>by
  rcases hk with rfl|hk
  .exact z
  grind)).bh<|pm2
 have d:Hd _:=w.aa.trans<|J.mono C.aa.s;have W3:=cV (L4 V.aa N D.aa (λy Z u=>HV y Z.tl<|d.trans u) (by have:=m.aa;omega) (λa T=>by have:=E.aa a T;omega) H4.aa t);clear b J z i C w D V;go_upto_region 4 with(first|(go_at_call 38;refine W3.aa.mono ?_;rintro e w⟨rfl,I,R,b,u⟩)|fail);have j:=cV<|d.trans b;have Y:=cV R;have b:=cV u;have u:=cV<|Ee l w<|HV w R.tl.tl j;rw[HR.aa]at u;go_upto_region 5 with(first|(go_at_call 39;refine u.aa.mono ?_;rintro e Q⟨rfl,A⟩)|fail);have P:=cV<|Y.below A;have o:=cV<|j.trans<|A.mono Y.s;have W5:=cV<|GT l Q (HV Q P.tl.tl o) m E;have HE:Hd (∀H,NwI Q _ _ _ H->∃X p f F w u pv lv I,(Ending.returned (.tuple #[pt H.heap.size,.bool _])=.returned (.tuple #[pt X,.bool true]))/\w<=40/\Sep _ (gj X _ [pt p,pt f]::fN p F w _ u::iK f (l.map uD) (l.flatMap ic) pv lv::eH bb I::rs) (H.alloc<|.cells _ 106)/\Below _ x (H.alloc<|.cells #[pt q,pt Q.heap.size] 106)/\EG G I _):=λH Z=>by obtain⟨pv,lv,u,w⟩:=Z;have s5:=P.aa.new u.hd w<|λk hk=>u.ge hk;refine⟨_,q,Q.heap.size,ab,n,sb,pv,lv,I,W,hn,?_,(o.trans<|w.mono P.s).trans<|(ai (dO _ H) _).mono s5.s,b⟩;exact(s5.row [pt q,pt Q.heap.size] 106).bh<|((((List.Perm.swap _ _ _).cons _).trans<|List.Perm.swap _ _ _)).cons _
 go_wp2_with(first|(go_at_call 40;refine W5.aa.mono ?_;rintro e H⟨rfl,K⟩;replace HE:=cV<|HE H K)|fail);refine Kg W W ?_;exact HE
theorem adj{α:Type}{f:α->Nat}:∀(l:List α),(∀i (h:i+1<l.length),f l[i]<f l[i+1])->l.Pairwise λa b=>f a<f b
 |[],_=>List.Pairwise.nil
 |[a],_=>XO _ _
 |a::b::r,h=>by have C:=adj _<|λi G=>h (i+1) K9;refine XT.2 ⟨λx E=>?_,C⟩;have D:f a<f b:=h 0 K2;grind[Nat.lt_trans,XT]
def D8{l:List AcE}(h:jt l=true):l.Pairwise λa b=>a.aj%M<b.aj%M:=by let⟨G,D⟩:=(Xo _ _).mp h;refine adj l λi H=>?_;have C:=Xp.1 D _<|XS.2 H;unfold rA at C;let⟨E,_⟩:=(Xo _ _).mp C;rw[ZQ,gE l _ H,gE l _<|Nat.lt_of_succ_lt H,xm]at E;grind[iX]
def Ds{l:List AcE}(h:jt l=true):∀a∈l,a.ar.Pairwise λp q=>p.1%M<q.1%M:=λa O=>by let⟨P,I⟩:=(Xo _ _).mp h;obtain⟨i,Q,rfl⟩:=XU O;have D:=Xp.1 I i<|XS.2 Q;unfold rA at D;rw[gE l _ Q]at D;let⟨_,J⟩:=(Xo _ _).mp D;let⟨_,G⟩:=(Xo _ _).mp J;unfold kA at G;let⟨_,L⟩:=(Xo _ _).mp G;refine adj _ λj E=>?_;have H:=Xp.1 L _<|XS.2 E;unfold rS at H;let⟨C,_⟩:=(Xo _ _).mp H;rw[ZQ,gE _ _ E,gE _ _<|Nat.lt_of_succ_lt E,xm]at C;grind[iX]
theorem Ao(a:Nat):∀(l:List AcE)(A:Nat->Acc),(l.Pairwise λa b=>a.aj%M<b.aj%M)->l.foldl (λA e=>fQ A e.aj<|ri e) A a=((l.find? λe=>gN e.aj a).map ri).getD (A a)
 |[],A,_=>rfl
 |e::r,A,h=>by
  let⟨D,C⟩:=XT.1 h;rw[Xa,Ao a r _ C,X0];by_cases G:e.aj%M=a%M
  .have H:r.find? (λe=>gN e.aj a)=none:=Zn.2 λx E I=>by have:=D x E;have:=Xd I;omega
   grind[gN,OsQ,jC]
  grind[gN,W8,iV]
theorem Eu(k:Nat):∀(l:List<|Nat×Nat)(s:Vq),(l.Pairwise λa b=>a.1%M<b.1%M)->l.foldl (λs p=>lE s p.1 p.2) s k=((l.find? λe=>gN e.1 k).map (·.2)).getD (s k)
 |[],A,_=>rfl
 |e::r,A,h=>by
  let⟨E,D⟩:=XT.1 h;rw[Xa,Eu k r _ D,X0];by_cases C:e.1%M=k%M
  .have H:r.find? (λe=>gN e.1 k)=none:=Zn.2 λx G I=>by have:=E x G;have:=Xd I;omega
   rw[H,show gN _ k=true from OsQ C];exact At C.symm
  grind[gN,Option.getD,lE]
theorem zbi(a k:Nat):∀(l:List AcE),(l.Pairwise λa b=>a.aj%M<b.aj%M)->(l.flatMap ic).find? (ly false a k)=(l.find? λe=>gN e.aj a).bind λe=>(e.ar.find? λq=>gN q.1 k).map λq=>⟨e.aj,q.1,q.2,false⟩
 |[],_=>rfl
 |e::r,h=>by
  let⟨E,D⟩:=XT.1 h;rw[Z3,List.find?_append,zbi a k r D,X0];by_cases C:e.aj%M=a%M
  .have H:r.find? (λe=>gN e.aj a)=none:=Zn.2 λx G J=>by have:=E x G;have:=Xd J;omega
   rw[H,show gN _ a=true from OsQ C];unfold ic;rw[List.find?_map];have I:(ly false a k ∘ λq:Nat×Nat=>(⟨e.aj,q.1,q.2,false⟩))=λq=>gN q.1 k:=by funext q;show((false==false)&&(gN e.aj a&&gN q.1 k))=_;grind[gN]
   grind
  grind[gN,ic,ly]
def Sj{l:List AcE}(h:jt l=true)(I:∀a∈l,a.ai<M):RelW (T0<|jO l) ⟨l.map uD,l.flatMap ic,[]⟩:=by
 have E:=D8 h;have C:∀a,jO l a=((l.find? _).map _).getD _:=λa=>Ao a l _ E;have D:∀a,ks a ⟨_,l.flatMap ic,[]⟩=((l.find? λe=>gN e.aj a).map _).getD _:=λa=>by unfold ks;show((l.map uD).find? _).getD _=_;rw[List.find?_map];rfl
 refine⟨λa=>?_,λa=>?_,λa k=>?_,λa k=>?_,W,λa=>?_⟩
 .show(jO l a).ai=_;rw[C,D];cases l.find? λe=>gN e.aj a<;>rfl
 .show(jO l a).ae=_;rw[C,D];cases l.find? λe=>gN e.aj a<;>rfl
 .show(jO l a).ar k=fu false a k _;unfold fu;rw[C,show(⟨_,l.flatMap _,[]⟩:RW).sl=l.flatMap _ from W,zbi a k l E];cases H:l.find? λe=>gN e.aj a with
  |none=>rfl
  |some e=>have G:=Zt H;show pe e.ar k=_;unfold pe;rw[Eu k _ _<|Ds h e G];dsimp only[Option.bind];cases e.ar.find? λq=>gN q.1 k<;>rfl
 .show 0=fu true a k _;grind[fu,uD,ic,ly]
 show(jO l a).ai<M;rw[C];cases H:l.find? λe=>gN e.aj a with
 |none=>show 0<M;simp
 |some e=>exact I e<|Zt H
def new_cd{l:List AcE}(h:jt l=true):Cd ⟨l.map uD,l.flatMap ic,[]⟩:=by
 have E:=D8 h;let⟨_,I⟩:=pY h;refine⟨λp G=>?_,?_,?_⟩
 .obtain⟨a,C,rfl⟩:=Xq.1 G;exact(I a C).1
 .show((l.map uD).map _).Pairwise _;rw[Zd];refine YJ.2<|E.imp λ{a b} D=>W8<|show¬a.aj%M=b.aj%M by omega
 show((l.flatMap ic).map skey).Pairwise _;refine YJ.2<|List.pairwise_flatMap.2 ⟨λa C=>?_,E.imp λ{a b} D q I r J=>?_⟩
 .unfold ic;refine YJ.2<|(Ds h a C).imp λ{p q} H=>?_;show((false==false)&&(gN a.aj a.aj&&gN p.1 q.1))=false;rw[show gN p.1 _=false from W8 wq];simp
 unfold ic at I J;obtain⟨p,_,rfl⟩:=Xq.1 I;obtain⟨s,_,rfl⟩:=Xq.1 J;show((false==false)&&(gN a.aj b.aj&&gN p.1 s.1))=false;rw[show gN _ _=false from W8 wq];simp
def eO(F:Fz)(P:RW):RS:=⟨F.ae,F.data,F.ret,F.ak,F.ax,F.value,F.ac,F.depth,F.nx,0,F.ro,F.st,F.mem,F.aa,P⟩
structure Ok(F:Fz):Prop where
 aT:F.mem.length%32=0
 aV:F.st.length<=1024
 st:F.aE=0
 en:F.aG=false
def Sy{α:Type}(K:α->RS->RS):=∀a R,R.ao=3->(K a R).ao=3
def ResU(P:RW)(r:Option<|Unit×Fz)(R':RS):Prop:=match r with
 |none=>R'.ao=3
 |some (_,F')=>Ok F'/\R'=eO F' P
def mP(T:TS)(r:Option<|Fz×TS)(R':RS):Prop:=match r with
 |none=>R'.ao=3
 |some (F',T')=>Un T T'/\∃P',RelW T' P'/\((F'.aG=false/\Ok F'/\R'=eO F' P')\/(F'.aG=true/\F'.aE<=1/\R'={eO F' P' with ao:=F'.aE+1}))
def ResU.bq{P:RW}{r:Option<|Unit×Fz}{T:TS}(h:ResU P r R')(C:RelW T P):mP T (kP r T) R':=by
 cases r with
 |none=>exact h
 |some y=>exact⟨Un.refl T,P,C,LZ ⟨h.1.en,h.1,h.2⟩⟩
theorem fi(h:R.ao=3):(dA R).2.ao=3:=(ee R).ov h
theorem Ay(h:R.ao=3):(dU n R).ao=3:=(kI n R).ov h
theorem yo(h:R.ao=3):(eN n R).ao=3:=(iQ n R).ov h
theorem bf(a n:Nat)(h:R.ao=3):(dJ a n R).2.ao=3:=(gy a n R).ov h
def pp{A:RS}(h:R.ao=3):(if R.ao=0 then A else R).ao=3:=K9
theorem ir{s:Tl}(h:F.st=n::s):db F=some (n,{F with st:=s}):=by grind[db]
def nE(h:F.st=[]):db F=none:=by grind[db]
def gu{s:Tl}(h:F.st=n::s):dA (eO F P)=(n,eO {F with st:=s} P):=by grind[dA,fA,eO]
def iz(h:F.st=[]):(dA<|eO F P).2.ao=3:=by grind[dA,fA,eO]
theorem ki(h:Ok F){s:Tl}(e:F.st=n::s):Ok {F with st:=s}:=⟨h.aT,by have:=h.aV;grind,h.st,h.en⟩
theorem qw{F:Fz}(h:Ok F)(c:Nat):Ok (eG F c):=⟨h.aT,h.aV,h.st,h.en⟩
def vE{k:Option<|Unit×Fz}{K:Nat->RS->RS}(h:Ok F)(C:Sy K)(D:∀n s,F.st=n::s->db F=some (n,{F with st:=s})->Ok {F with st:=s}->ResU P k (K n<|eO {F with st:=s} P)):ResU P (dX (db F) k) (du (dA<|eO F P) K):=by
 cases D:F.st with
 |nil=>rw[nE D];exact C _ _<|iz D
 |cons n s=>rw[gu D,dW,ed<|by grind[ir]];grind[ir,ki]
def mI(h:Ok F)(n:Nat):ResU P (dB n F) (eN n<|eO F P):=by
 have C:=h.aV;unfold dB eN;by_cases e:F.st.length=1024
 .rw[At e,At (by show 1024<=F.st.length;omega)];rfl
 rw[iF e,iF (by show¬1024<=F.st.length;omega)];exact⟨⟨h.aT,K9,h.st,h.en⟩,W⟩
def r_if{r:Option<|Unit×Fz}{A:RS}(h:ResU P r A):ResU P r (if (eO F P).ao=0 then A else eO F P):=by grind[eO]
def uK(h:F.ac<c):dU c (eO F P)=fA (eO F P):=At h
def vd(h:¬F.ac<c):dU c (eO F P)=eO {F with ac:=F.ac-c} P:=iF h
def Ws{K:RS->RS}(C:∀R,R.ao=3->(K R).ao=3)(D:c<=F.ac->mP T (vW wk J (eG F c) T) (K<|eO (eG F c) P)):mP T (if F.ac<c then none else vW wk J (eG F c) T) (K<|dU c<|eO (si F) P):=by
 by_cases e:F.ac<c
 .rw[At e,uK (F:=si F) e];exact C _ W
 rw[iF e,vd (F:=si F) e];exact D wq
def rk(p n m:Nat):Nat:=if n%M=0 then 0 else dw (p%M+n%M)-dw m
def rq(p n:Nat):Nat×Nat:=if n%M=0 then(0,0)else(p%M,n%M)
abbrev vM(p n:Nat):=n%M=0\/jp p n 65536
def py(k:Nat)(F:Fz):Fz:={F with ac:=F.ac-3*k,mem:=F.mem++List.replicate (32*k) 0}
def gr0(F:Fz):py 0 F=F:=by unfold py;simp
theorem fS(p n:Nat)(F:Fz):dC p n F=if vM p n/\3*rk p n F.mem.length<=F.ac then some (rq p n,py (rk p n F.mem.length) F)else none:=by
 unfold dC vM rk rq;by_cases C:n%M=0
 .simp only[C,qad,true_or,true_and,Nat.mul_zero,In,gr0]
 simp only[C,Zw,Za];by_cases G:jp p n 65536
 .rw[At G];unfold jH;by_cases D:dw (p%M+n%M)<=dw F.mem.length
  .rw[At D,(wq:dw _-dw _=0),gr0,At ⟨G,In _⟩]
  rw[iF D];unfold im;by_cases E:F.ac<3*(dw (p%M+n%M)-dw F.mem.length)
  .grind
  rw[iF E,At ⟨G,wq⟩];rfl
 grind
theorem Ew(h:Ok F)(k:Nat):Ok (py k F):=⟨by show(F.mem++List.replicate (32*k) 0).length%32=0;rw[Xm,Yl];have:=h.aT;omega,h.aV,h.st,h.en⟩
theorem zU(C:Nat):∀(f:Nat)(F:Fz),F.mem.length%32=0->dw C-dw F.mem.length<=f->(3*(dw C-dw F.mem.length)<=F.ac->jI f C (eO F P)=eO (py (dw C-dw F.mem.length) F) P)/\(F.ac<3*(dw C-dw F.mem.length)->(jI f C<|eO F P).ao=3)
 |0,F,h1,h2=>by rw[(wq:dw C-dw _=0),gr0];exact⟨λ_=>W,λh=>wq⟩
 |f+1,F,h1,h2=>by
  rw[jI];by_cases V:F.mem.length<C
  .rw[At ⟨V,W⟩];have U:1<=dw C-dw F.mem.length:=by grind[dw]
   unfold Hz;by_cases I:F.ac<3
   .rw[uK I];refine⟨λh=>wq,λ_=>?_⟩;refine(Bv C f _).ov W
   rw[vd I];rw[show({eO _ P with mem:=(eO F P).mem++List.replicate 32 0}:RS)=eO (py 1 F) P from W];have D:(py 1 F).mem.length=F.mem.length+32:=by show(F.mem++List.replicate (32*1) 0).length=_;rw[Xm,Yl]
   have X:dw C-dw (py 1 F).mem.length=dw C-dw F.mem.length-1:=by rw[D];unfold dw;omega
   obtain⟨G,H⟩:=zU C f _ (by rw[D];omega) wq;rw[X]at G H;have L:(py 1 F).ac=F.ac-3:=rfl;refine⟨λh=>?_,λh=>H wq⟩;rw[G wq];congr 1;obtain⟨k,E⟩:∃k,dw C-dw F.mem.length=k+1:=⟨_,(Nat.succ_pred_eq_of_pos U).symm⟩
   rw[E,ZQ];unfold py;have O:F.ac-3*1-3*k=F.ac-3*(k+1):=wq
   have Q:F.mem++List.replicate (32*1) 0++List.replicate (32*k) 0=F.mem++List.replicate (32*(k+1)) 0:=by rw[XL,List.replicate_append_replicate];congr 2;omega
   rw[O,Q]
  rw[iF<|λh=>V h.1];have U:dw C-dw F.mem.length=0:=by unfold dw;omega
  rw[U,gr0];exact⟨λ_=>W,λh=>wq⟩
theorem mf(a m:Nat):ec a m=if a%M<m then a%M else m:=rfl
def oG(h:Ok F)(p n:Nat):(vM p n/\3*rk p n F.mem.length<=F.ac->dJ p n (eO F P)=(rq p n,eO (py (rk p n F.mem.length) F) P))/\(¬(vM p n/\3*rk p n F.mem.length<=F.ac)->(dJ p n<|eO F P).2.ao=3):=by
 unfold dJ vM rk rq;by_cases E:n%M=0
 .have e:ec n 70000=0:=by grind[mf]
  simp only[E,e,true_or,qad,Nat.mul_zero,In,and_self,gr0,not_true,true_implies,false_implies]
 have e:ec n 70000≠0:=by grind[mf]
 have I:¬(ec n _=0\/(eO F P).ao=3):=λh=>h.elim e (by show¬(0:Nat)=3;decide);simp only[E,Zw,Za];rw[iF I];by_cases O:jp p n 65536
 .have D:=O;unfold jp at D;have H:ec p 70000=p%M:=by rw[mf];exact AV
  have Q:ec n 70000=n%M:=by rw[mf];exact AV
  rw[H,Q,AQ];let⟨G,L⟩:=zU (P:=P) (p%M+n%M) 2049 F h.aT (by unfold dw;omega);refine⟨λC=>?_,λC=>?_⟩
  .rw[G C.2,iF (by show¬(0:Nat)=3;decide)]
  have:=L<|Zc λh=>C ⟨O,h⟩;rw[At this];exact this
 have Q:65536<ec p 70000+ec n 70000:=by unfold jp at O;rw[mf,mf];split<;>split<;>omega
 rw[At Q];exact⟨λC=>absurd C.1 O,λ_=>W⟩
def sH{α:Type}{G:Option α->RS->Prop}(H:∀R,R.ao=3->G none R){r:Option α}{K:Nat×Nat->RS->RS}(p n:Nat)(h:Ok F)(D:Sy K)(E:dC p n F=none->r=none)(L:∀F1,dC p n F=some (rq p n,F1)->Ok F1->F1=py (rk p n F.mem.length) F->G r (K (rq p n)<|eO F1 P)):G r (du (dJ p n<|eO F P) K):=by
 let⟨I,C⟩:=oG (P:=P) h p n;have L:=fS p n F;by_cases c:vM p n/\3*rk p n F.mem.length<=F.ac
 .rw[At c]at L;grind[dW,Ew]
 rw[iF c]at L;rw[E L];exact H _<|D _ _<|C c
def uU(R:RS)(h:R.ao=3):ResU P none R:=h
def uQ(p n:Nat)(G:vM p n)(h:Ok F):(rq p n).1+(rq p n).2<=(py (rk p n F.mem.length) F).mem.length/\(rq p n).2<=65536/\(rq p n).2=n%M:=by
 have D:(py (rk p n F.mem.length) F).mem.length=F.mem.length+32*rk p n F.mem.length:=by show(F.mem++List.replicate _ 0).length=_;simp
 have E:=h.aT;rw[D];unfold rq rk;by_cases C:n%M=0
 .grind
 rw[iF C,iF C];rcases G with G|G
 .omega
 unfold jp at G;unfold dw;omega
def xF{q:Nat×Nat}(h:dC p n F=some (q,F1)):vM p n:=by grind[fS]
def FW(h:Ok F){m:Vf}(C:m.length=F.mem.length):Ok {F with mem:=m}:=⟨by show m.length%32=0;rw[C];exact h.aT,h.aV,h.st,h.en⟩
def qr(l:Vf):bl (dI l)=l:=R5
theorem VW(ae:BA)(n:Nat):∀(f i:Nat)(C:List Bool),C.length=ae.size+1->(jdF ae f i C).getD n false=(C.getD n false||CC ae n f i)
 |0,i,C,_=>by simp[jdF,CC]
 |f+1,i,C,hl=>by
  rw[jdF,CC];by_cases C:i<ae.size
  .rw[At C,At C,VW _ n f _ _ K9];grind
  grind
def Pt(h:Ok F)(L:F.ae.size<=1000)(p:Nat):ResU P (lV p F) (ek p<|eO F P):=by
 have N:(SY F.ae).getD (p%M) false=CC F.ae (p%M) F.ae.size 0:=by unfold SY;rw[VW _ _ _ _ _ K2];grind
 unfold lV ek LQ;show ResU P _ (if (0:Nat)=0/\CC F.ae (ec p 70000) F.ae.size 0=true then _ else _);rw[N];by_cases E:CC F.ae (ec p 70000) F.ae.size 0=true
 .have D:=GX _ _ _ _ E;have H:ec p 70000=p%M:=by rw[mf]at D⊢;grind
  have C:0=0/\CC _ _ _ 0=true:=⟨W,E⟩
  rw[At C];rw[H]at E D⊢;have O:(decide (p%M<=F.ae.size)&&CC F.ae (p%M) F.ae.size 0)=true:=K9
  rw[At O];exact⟨⟨h.aT,h.aV,h.st,h.en⟩,W⟩
 have C:¬(0=0/\CC _ _ _ 0=true):=λG=>E G.2;have O:¬(decide (p%M<=F.ae.size)&&CC F.ae (p%M) F.ae.size 0)=true:=by intro G;rw[Xo]at G;have I:=Xd G.1;rw[(by rw[mf];grind:ec p _=p%M)]at E;grind
 rw[iF C,iF O];rfl
theorem Ge(h:R.ao=3):(ek a R).ao=3:=by unfold ek;rw[iF<|λC=>wq];rfl
def fb{s:Tl}(h:db F=some (n,{F with st:=s})):dV (db F)=n/\A1 (db F)={F with st:=s}:=by rw[h];exact⟨W,W⟩
def Qf{k:Option<|Unit×Fz}{K:Nat->Nat->RS->RS}(h:Ok F)(C:∀a,Sy<|K a)(Q:∀a b s,F.st=a::b::s->eP F=a->eV F=b->eb F={F with st:=s}->Ok {F with st:=s}->ResU P k (K a b<|eO {F with st:=s} P)):ResU P (dX (db F)<|dX (db<|A1<|db F) k) (du (dA<|eO F P) λa R=>du (dA R)<|K a):=by refine vE h (λa R H=>C a _ _<|fi H) λa s J E D=>?_;have G:=fb E;rw[G.2];refine vE D (C a) λb r L O I=>?_;grind[dV,db,A1]
def Mz{k:Option<|Unit×Fz}{K:Nat->Nat->Nat->RS->RS}(h:Ok F)(C:∀a b,Sy<|K a b)(Q:∀a b c s,eP F=a->eV F=b->pX F=c->mU F={F with st:=s}->Ok {F with st:=s}->ResU P k (K a b c<|eO {F with st:=s} P)):ResU P (Kr F k) (du (dA<|eO F P) λa R=>du (dA R) λb R=>du (dA R)<|K a b):=by refine Qf h (λa b R E=>C a b _ _<|fi E) λa b s L J H t3 D=>?_;rw[t3];refine vE D (C a b) λc r O G I=>?_;have t4:=fb G;grind
def Wv{K:Nat×Nat->RS->RS}:Sy (λ(q:Nat×Nat) R=>if R.ao=0 then K q R else R):=λq R h=>pp h
def R9(h:Ok F):ResU P (ie F) (du (dA<|eO F P) λa R=>du (dJ a 32 R) λq R=>if R.ao=0 then eN (lK<|dM R.mem q.1 q.2) R else R):=by unfold ie;refine vE h (λa R G=>Wv (K:=λq R=>eN (lK<|dM _ q.1 _) R) _ _<|bf _ _ G) λa s J I H=>?_;have C:=fb I;rw[C.1,C.2];refine sH uU a 32 H Wv (λe=>by rw[e];rfl) λL D E _=>?_;rw[D];exact r_if<|mI E _
def DB(p n:Nat)(F:Fz)(s:Tl):dC p n {F with st:=s}=(dC p n F).map λy=>(y.1,{y.2 with st:=s}):=by
 rw[fS,fS];by_cases c:vM p n/\3*rk p n F.mem.length<=F.ac
 .rw[At c,At c];rfl
 grind
def Hu(h:Ok F)(n:Nat)(f:Nat->Vf){g:Nat->BA}(Q:∀v,bl (g v)=f v)(Y:∀v,(f v).length=n%M):ResU P (dX (db F)<|dX (db<|A1<|db F)<|dX (dC (eP F) n<|eb F)<|some ((),kN (dC (eP F) n<|eb F)<|f<|eV F)) (du (dA<|eO F P) λa R=>du (dJ a n R) λq R=>du (dA R) λv R=>if R.ao=0 then gT q.1 (g v) R else R):=by
 have H:∀q:Nat×Nat,Sy (λv R=>if R.ao=0 then gT q.1 (g v) R else R):=λq v R h=>pp h;refine vE h (λa R E=>H _ _ _<|fi<|bf _ _ E) λa s V U I=>?_;have O:=fb U;simp only[eP,eV,eb,O.1,O.2];cases s with
 |nil=>rw[nE W];refine sH uU a n I (λq R E=>H q _ _<|fi E) (λ_=>W) λD J L G=>?_;exact H _ _ _<|iz (by rw[G];rfl)
 |cons v r=>
  rw[ir W];show ResU P (dX (dC a n {F with st:=r})<|some ((),kN (dC a n {F with st:=r})<|f v)) _;have X:=DB a n {F with st:=v::r} r;have X:dC a n {F with st:=r}=(dC a n _).map λy=>(y.1,{y.2 with st:=r}):=X;rw[X];refine sH uU a n I (λq R E=>H q _ _<|fi E) (λe=>by rw[e];rfl) λD J L G=>?_;rw[J,gu (by rw[G];rfl:D.st=v::r),dW,At R5];have C:=uQ a n (xF J) I;rw[<-G]at C;refine⟨FW (ki L (by rw[G];rfl))<|ox ?_,?_⟩
  .show(rq a n).1+(f v).length<=D.mem.length;rw[Y];have:=C.1;have:=C.2.2;omega
  show gT (rq a n).1 (g v) _=eO {D with st:=r,mem:=splice D.mem (rq a n).1<|f v} P;unfold gT;rw[Q];rfl
theorem qB(h:n%M<m:=by omega):ec n m=n%M:=At h
def yS{s:BA}(f:Nat)(C:s.size<=70000):dH s (ec f 70000) k=dH s (f%M) k:=by
 by_cases h:f%M<70000
 .rw[qB h]
 rw[show ec f _=70000 from iF h,rV s k C,rV s k wq]
def zS(h:vM p n):n%M<=65536:=wq
def xw(p n:Nat):(rq p n).2=n%M:=by unfold rq;grind
def uV(h:Ok F)(c p n:Nat):(vM p n/\3*rk p n F.mem.length+c<=F.ac->dJ p n (dU c<|eO F P)=(rq p n,eO {py (rk p n F.mem.length) F with ac:=F.ac-3*rk p n F.mem.length-c} P))/\(¬(vM p n/\3*rk p n F.mem.length+c<=F.ac)->(dJ p n<|dU c<|eO F P).2.ao=3):=by
 by_cases C:F.ac<c
 .rw[uK C];exact⟨λh=>wq,λ_=>bf p n W⟩
 rw[vd C];let⟨E,D⟩:=oG (F:={F with ac:=F.ac-c}) (P:=P) ⟨h.aT,h.aV,h.st,h.en⟩ p n;grind[rk,py]
def Pf(s:BA)(aD strict:Bool)(f:Nat)(q:Nat×Nat):vZ s aD strict f q (eO F P)=BC q.1 q.2 (ec f 70000) (if aD=true then dI F.mem else s) strict (eO F P):=At W
def Hc(s:BA)(aD strict:Bool){f:Nat}:Sy (vZ s aD strict f):=λq R h=>pp h
def E7(t f n:Nat)(C:¬(vM t n/\3*rk t n F.mem.length+3*dw (n%M)<=F.ac)):ez src t f n F=none:=by
 unfold ez;rw[fS];by_cases c:vM t n/\3*rk t n F.mem.length<=F.ac
 .rw[At c];show(if F.ac-3*rk t n F.mem.length<3*dw (rq t n).2 then none else _)=none;rw[xw,AV]
 grind
def r_copy(h:Ok F)(src:BA)(U:src.size<=70000)(t f n:Nat):ResU P (if strict=true/\n%M≠0/\src.size<f%M+n%M then none else ez src t f n F) (du (dJ t n<|dU ((ec n 70000+31)/32*3)<|eO F P)<|vZ src false strict f):=by
 let⟨G,p2⟩:=uV (P:=P) h ((ec n 70000+31)/32*3) t n;by_cases O:vM t n
 .have L:=zS O;have Q:ec n 70000=n%M:=qB;rw[Q]at G p2⊢;have I:(n%M+31)/32*3=3*dw (n%M):=by grind[dw]
  rw[I]at G p2⊢;by_cases H:3*rk t n F.mem.length+3*dw (n%M)<=F.ac
  .rw[G ⟨O,H⟩,dW,Pf,iF<|show¬(false=true) by decide,xw];unfold BC;have E:(strict=true/\n%M≠0/\src.size<f%M+n%M)↔(strict=true/\0<n%M/\src.size<ec f 70000+n%M):=by
    by_cases J:f%M<70000
    .grind[qB]
    grind[ec]
   by_cases C:strict=true/\n%M≠0/\src.size<f%M+n%M
   .rw[At C,At<|E.1 C];rfl
   rw[iF C,iF<|λh=>C<|E.2 h];unfold ez;rw[fS,At ⟨O,wq⟩];show ResU P (if F.ac-3*rk t n F.mem.length<3*dw (rq t n).2 then none else some ((),{py (rk t n F.mem.length) F with ac:=F.ac-3*rk t n F.mem.length-3*dw (rq t n).2,mem:=splice (py (rk t n F.mem.length) F).mem (rq t n).1<|dH src (f%M) (rq t n).2})) _;rw[xw,AQ];have D:=(uQ t n O h).1;rw[xw]at D;refine⟨FW (F:={py _ F with ac:=F.ac-3*rk t n _-3*dw _}) ?_<|ox ?_,?_⟩
   .have:=Ew h<|rk t n F.mem.length;exact⟨this.aT,this.aV,this.st,this.en⟩
   .rw[jk];exact D
   unfold gT;rw[qr,yS f U];rfl
  rw[E7 t f n<|λh=>H h.2,ite_self];exact Hc _ _ _ _ _<|p2 λh=>H h.2
 rw[E7 t f n<|λh=>O h.1,ite_self];exact Hc _ _ _ _ _<|p2 λh=>O h.1
def KV{l:Vf}(h:a+b<=l.length):dH (dI<|l++List.replicate k 0) a b=dM l a b:=by unfold dH dM;rw[qr,show(dI _).size=l.length+k by grind[dI,ByteArray.size],(wq:b-(l.length+k-a)=0),List.replicate_zero,YQ,List.drop_append_of_le_length wq,YV K9]
theorem S6(h:Ok F)(t f n:Nat):ResU P (zam t f n F) (du (dJ t n (dJ f n<|dU ((ec n 70000+31)/32*3)<|eO F P).2)<|vZ ⟨#[]⟩ true false f):=by
 let⟨J,p2⟩:=uV (P:=P) h ((ec n 70000+31)/32*3) f n;by_cases d:vM f n
 .have H:=zS d;have g:ec n 70000=n%M:=qB;rw[g]at J p2⊢;have Z:(n%M+31)/32*3=3*dw (n%M):=by grind[dw]
  rw[Z]at J p2⊢;by_cases R:3*rk f n F.mem.length+3*dw (n%M)<=F.ac
  .rw[J ⟨d,R⟩];dsimp only;have G:=Ew h<|rk f n F.mem.length;let⟨C,Q⟩:=hJ<|py (rk f n F.mem.length) F;have D:=(uQ f n d h).1;rw[<-Q]at G D⊢;have X:C.ac=F.ac-3*rk f n F.mem.length:=by rw[Q];rfl
   rw[<-X];have V:Ok {C with ac:=C.ac-3*dw (n%M)}:=⟨G.aT,G.aV,G.st,G.en⟩
   let⟨Y,U⟩:=oG (P:=P) V t n;unfold zam;rw[fS f,At ⟨d,wq⟩,<-Q];show ResU P (match dC t n C with
    |none=>none
    |some ((a2,b2),F2)=>if F2.ac<3*dw (rq f n).2 then none else some ((),{F2 with ac:=F2.ac-3*dw (rq f n).2,mem:=splice F2.mem a2<|dM C.mem (rq f n).1 (rq f n).2})) _
   rw[fS t,xw]at*;by_cases c:vM t n/\3*rk t n C.mem.length<=C.ac-3*dw (n%M)
   .rw[Y c,dW,At ⟨c.1,wq⟩];show ResU P (if C.ac-3*rk t n C.mem.length<3*dw (n%M)then none else some ((),{py (rk t n C.mem.length) C with ac:=C.ac-3*rk t n C.mem.length-3*dw (n%M),mem:=splice (C.mem++List.replicate (32*rk t n C.mem.length) 0) (rq t n).1<|dM C.mem (rq f n).1<|n%M})) _;rw[AQ];rw[Pf,At<|rfl];unfold BC;rw[iF<|λh=>by cases h.1];have E:=(uQ t n c.1 G).1;refine⟨FW (F:={py _ C with ac:=C.ac-3*rk t n _-3*dw _}) ?_<|ox ?_,?_⟩
    .have:=Ew G<|rk t n C.mem.length;exact⟨this.aT,this.aV,this.st,this.en⟩
    .rw[xw]at E;refine By (Nat.add_le_add_left (mQ) _) E
    unfold gT;rw[qr,xw];have L:dH (dI<|C.mem++List.replicate (32*rk t n C.mem.length) 0) (ec f 70000) (n%M)=dM C.mem (rq f n).1 (n%M):=by
     by_cases I:n%M=0
     .rw[I];unfold dH dM;simp
     have g:rq f n=(f%M,n%M):=iF I;have O:=d.resolve_left I;unfold jp at O;rw[qB,g];rw[g]at D;exact KV D
    show({eO (py (rk t n C.mem.length) {C with ac:=C.ac-3*dw (n%M)}) P with mem:=splice (C.mem++List.replicate (32*rk t n C.mem.length) 0) (rq t n).1<|dH (dI<|C.mem++List.replicate (32*rk t n C.mem.length) 0) (ec f 70000)<|n%M}:RS)=_;rw[L];show({eO {py (rk t n C.mem.length) C with ac:=C.ac-3*dw (n%M)-3*rk t n C.mem.length} P with mem:=_}:RS)=_;rw[(wq:C.ac-3*dw _-3*rk t n _=C.ac-3*rk t n C.mem.length-3*dw (n%M))];rfl
   have H:(match(if vM t n/\3*rk t n C.mem.length<=C.ac then some (rq t n,py (rk t n C.mem.length) C)else none)with
    |none=>none
    |some ((a2,b2),F2)=>if F2.ac<3*dw (n%M)then none else some ((),{F2 with ac:=F2.ac-3*dw (n%M),mem:=splice F2.mem a2<|dM C.mem (rq f n).1<|n%M}):Option _)=none:=by
    by_cases c2:vM t n/\3*rk t n C.mem.length<=C.ac
    .rw[At c2];show(if C.ac-3*rk t n C.mem.length<3*dw (n%M)then none else _)=none;rw[At (by have:=Zc λh=>c ⟨c2.1,h⟩;omega)]
    rw[iF c2]
   rw[H];exact Hc _ _ _ _ _<|U c
  have H:zam t f n F=none:=by
   unfold zam;rw[fS f];by_cases c:vM f n/\3*rk f n F.mem.length<=F.ac
   .rw[At c];show(match dC t n (py (rk f n F.mem.length) F)with
     |none=>none
     |some ((a2,b2),F2)=>if F2.ac<3*dw (rq f n).2 then none else some ((),{F2 with ac:=F2.ac-3*dw (rq f n).2,mem:=splice F2.mem a2<|dM (py (rk f n F.mem.length) F).mem (rq f n).1 (rq f n).2}))=none
    rw[fS t,xw];by_cases c2:vM t n/\3*rk t n (py (rk f n F.mem.length) F).mem.length<=(py (rk f n F.mem.length) F).ac
    .rw[At c2];show(if F.ac-3*rk f n F.mem.length-3*rk t n (py (rk f n F.mem.length) F).mem.length<3*dw (n%M)then none else _)=none;rw[AV]
    rw[iF c2]
   rw[iF c]
  rw[H];exact Hc _ _ _ _ _<|bf _ _<|p2 λh=>R h.2
 have H:zam t f n F=none:=by unfold zam;rw[fS f,iF<|λh=>d h.1]
 rw[H];exact Hc _ _ _ _ _<|bf _ _<|p2 λh=>d h.1
theorem uH:∀(n:Nat)(F:Fz),eM n F=if n<=F.st.length then some (F.st.take n,{F with st:=F.st.drop n})else none
 |0,F=>rfl
 |n+1,F=>by
  rw[eM,uH n F];by_cases h:n<=F.st.length
  .rw[At h];dsimp only;by_cases C:n<F.st.length
   .rw[AV,ir<|YT C];simp
   rw[AQ,nE<|ZX wq]
  grind
theorem uO:∀(n:Nat)(C:Tl)(F:Fz),(n<=F.st.length->nR n C (eO F P)=(C++F.st.take n,eO {F with st:=F.st.drop n} P))/\(¬n<=F.st.length->(nR n C<|eO F P).2.ao=3)
 |0,C,F=>⟨λ_=>by rw[Y3,YQ];rfl,λh=>absurd (In _) h⟩
 |n+1,C,F=>by
  rw[nR];cases G:F.st with
  |nil=>exact⟨λh=>by simp at h,λ_=>(tS n _ _).ov<|iz G⟩
  |cons x r=>rw[gu G];let⟨D,E⟩:=uO n (C++[x]) {F with st:=r};grind
def kR3(J a b:Nat)(R:RS):RS:=du (if J=8\/J=9 then dA R else(0,R)) λc R=>mM J a b c<|if J=10 then dU (10*(GM<|pw b).size) R else R
def kR2(J a:Nat)(R:RS):RS:=du (if J=21\/J=25 then(0,R)else dA R)<|kR3 J a
def sy3(J a:Nat):Sy (kR3 J a):=λb R h=>by unfold kR3 du;refine pp ?_;grind[dA,fi,Ay]
def sy2(J:Nat):Sy (kR2 J):=λa R h=>by
 unfold kR2;split
 .exact sy3 J a _ _ h
 exact sy3 J a _ _<|fi h
def pR(J:Nat)(l:Tl)(G:Fz):Option (Unit×Fz):=match(if J=10 then im (10*(pl (l.getD 1 0) 0).length) G else some ((),G))with
 |none=>none
 |some (_,G2)=>dB (ep J (l.getD 0 0%M) (l.getD 1 0%M)<|l.getD 2 0%M) G2
def Tu(h:pA J=true):ny J=0:=by grind[pA,ny]
def lst_pl(n:Nat):(GM<|pw n).size=(pl n 0).length:=R5
def r_R4(h:Ok F)(E:pA J=true){l:Tl}:ResU P (pR J l F) (mM J (l.getD 0 0) (l.getD 1 0) (l.getD 2 0)<|if J=10 then dU (10*(GM<|pw<|l.getD 1 0).size) (eO F P)else eO F P):=by
 have N:∀{G:Fz},Ok G->ResU P _ (mM J (l.getD 0 0) (l.getD 1 0) (l.getD 2 0) _):=λ{G} H=>by unfold mM;rw[At<|show(eO G P).ao=0 from W,At<|Tu E];exact mI H _
 unfold pR;by_cases C:J=10
 .rw[At C,At C,lst_pl];unfold im;by_cases D:F.ac<10*(pl (l.getD 1 0) 0).length
  .rw[At D,uK D];rfl
  rw[iF D,vd D];exact N ⟨h.aT,h.aV,h.st,h.en⟩
 grind
def r_reck(h:Ok F)(I:pA J=true):ResU P (re J F) (du (dA<|eO F P)<|kR2 J):=by
 have L:re J F=match eM _ F with
  |none=>none
  |some (l,G)=>pR J l G:=rfl
 rw[L,uH];have c1:1<=fY J:=by grind[fY]
 match O:F.st with
 |[]=>rw[iF K9];exact sy2 J _ _<|iz O
 |a::r=>
  rw[gu O,dW];have D:=ki h O;unfold kR2;by_cases E:J=21\/J=25
  .rw[show fY J=1 from At E,At K2,At E,dW];unfold kR3;rw[AQ,dW];exact r_R4 D I
  rw[iF E];match r,O,D with
  |[],O,D=>
   rw[iF]
   .exact sy3 J a _ _ (iz W)
   grind[fY]
  |b::r,O,D=>
   rw[gu W,dW];have C:=ki D W;unfold kR3;by_cases H:J=8\/J=9
   .rw[show fY J=3 by unfold fY;rw[iF E,At H],At H];match r,O,C with
    |[],O,C=>rw[iF K2];have:=iz (F:={F with st:=[]}) (P:=P) W;refine pp ?_;rw[AQ];exact this
    |c::r,O,C=>rw[At K2,gu (F:={F with st:=c::r}) W,dW];exact r_R4 (ki C W) I
   rw[show fY J=2 by unfold fY;rw[iF E,iF H],iF H,At K2,dW];exact r_R4 C I
def U7(h:Ok F)(hn:F.nx<=1200):ResU P (fF k F) (xD k<|eO F P):=by
 have E:F.nx%M=F.nx:=WZ K9;unfold fF xD;rw[E];have:=mI (P:=P) h<|lK<|dH F.ae F.nx k;show ResU P _ {eN (lK<|dH F.ae F.nx k) (eO F P)with pc:=F.nx+k};cases H:dB (lK<|dH F.ae F.nx k) F with
 |none=>rw[H]at this;exact this
 |some y=>
  rw[H]at this;let⟨C,D⟩:=this;refine⟨⟨C.aT,C.aV,C.st,C.en⟩,?_⟩;rw[D];have G:y.2.nx=F.nx:=by
   unfold dB at H;split at H
   .cases H
   rw[<-hV H]
  show eO {y.2 with nx:=F.nx+k} P=eO {y.2 with nx:=y.2.nx+k} P;rw[G]
def r_dup(h:Ok F):ResU P (vR k F) (CI k<|eO F P):=by
 unfold vR CI;by_cases C:k<=F.st.length
 .rw[At C,iF (show¬(eO F P).st.length<k by show¬F.st.length<k;omega)];exact mI h _
 rw[iF C,At (show(eO F P).st.length<k by show F.st.length<k;omega)];rfl
def r_swap(h:Ok F):ResU P (nv k F) (qW (k+1)<|eO F P):=by
 unfold nv qW;by_cases C:k<F.st.length
 .rw[At C,iF (show¬(eO F P).st.length<k+1 by show¬F.st.length<k+1;omega)];refine⟨⟨h.aT,?_,h.st,h.en⟩,W⟩;show(pC k F.st).length<=1024;unfold pC;rw[XE,XE];exact h.aV
 rw[iF C,At (show(eO F P).st.length<k+1 by show F.st.length<k+1;omega)];rfl
def Nr(h:Ok F)(L:RelW T P)(I:Bool):ResU P (nk (if I=true then 2 else 1) F T) (du (dA<|eO F P) λk R=>if R.ao=0 then eN (fu I R.ak k R.w) R else R):=by
 unfold nk;refine vE h (λa R D=>pp D) λa s H G E=>?_;have C:=fb G;rw[C.1,C.2];have:xX T (if I=true then 2 else 1) F.ak a=fu I F.ak a P:=by
  cases I
  .exact L.aK _ a
  exact L.aP _ a
 rw[this];exact r_if<|mI E _
def Jj(h:Ok F)(U:RelW T P)(Q:fB T)(L:Bool):mP T (iP (if L=true then 2 else 1) F T) (du (dA<|eO F P) λk R=>du (dA R) λv R=>v7 L k v<|if R.aR=true then fA R else R):=by
 have D:∀k,Sy (λv R=>v7 L k v<|if R.aR=true then fA R else R):=λk v R H=>by
  refine pp ?_;split
  .rfl
  omega
 unfold iP;by_cases O:F.ro=true
 .rw[At O];show RS.ao _=3;match I:F.st with
  |[]=>exact D _ _ _<|fi<|iz I
  |[a]=>rw[gu I,dW];exact D _ _ _<|iz W
  |a::b::r=>rw[gu I,dW,gu W,dW,At<|show(eO {F with st:=r} P).aR=true from O];rfl
 rw[iF O];match I:F.st with
 |[]=>rw[nE I];exact D _ _ _<|fi<|iz I
 |[a]=>have C:=fb<|ir I;rw[gu I,dW,C.2,nE (F:={F with st:=[]}) W,ed (by rw[ir I];simp)];exact D _ _ _<|iz W
 |a::b::r=>have C:=fb<|ir I;have E:=fb (F:={F with st:=b::r})<|ir W;rw[gu I,dW,gu W,dW,ed (by rw[ir I];simp),C.2,ed (by rw[ir W];simp)];simp only[eP,eV,eb,C.1,C.2,E.1,E.2];rw[iF<|show¬(eO {F with st:=r} P).aR=true from O];unfold v7;rw[At<|show(eO _ P).ao=0 from W];have G:=ki (ki h I) W;exact⟨Un.set (U.aO Q) _ _ _ _,_,U.put Q L _ a b,LZ ⟨G.en,G,W⟩⟩
theorem r_log(h:Ok F)(f:RelW T P)(n:Nat):mP T (lY<|rJ n F T) (du (dA<|QO<|eO F P) λa R=>du (dA R) λs R=>du (dJ a s<|dU (8*ec s 70000) R) λq R=>du (nR n [] R)<|DH q):=by
 have V:∀q:Nat×Nat,Sy (DH q):=λq Z R I=>pp I;have D:Sy (λq R=>du _<|DH q):=λq R I=>V q _ _<|(tS n [] R).ov I;have E:∀a:Nat,Sy (λs R=>du (dJ a s<|dU (8*ec s 70000) R) λq R=>du (nR n [] R)<|DH q):=λa s R I=>D _ _<|bf _ _<|Ay I;unfold rJ QO;by_cases d:F.ro=true
 .rw[At d,At<|show(eO F P).aR=true from d];exact E _ _ _<|fi<|fi W
 rw[iF d,iF<|show¬(eO F P).aR=true from d];match d:F.st with
 |[]=>rw[nE d];exact E _ _ _<|fi<|iz d
 |[a]=>have H:=fb<|ir d;rw[gu d,dW,H.2,nE (F:={F with st:=[]}) W,ed (by rw[ir d];simp)];exact E _ _ _<|iz W
 |a::b::r=>
  have H:=fb<|ir d;have Q:=fb (F:={F with st:=b::r})<|ir W;rw[gu d,dW,gu W,dW,ed (by rw[ir d];simp),H.2,ed (by rw[ir W];simp)];simp only[eP,eV,eb,H.1,H.2,Q.1,Q.2];have L:=ki (ki h d) W;clear H Q d;let⟨G,Y⟩:=hJ<|{F with st:=r};rw[<-Y]at L⊢;let⟨U,p2⟩:=uV (P:=P) L (8*ec b 70000) a b;unfold xL;rw[uH];by_cases O:n<=G.st.length
  .rw[At O];show mP T (lY<|yP G.ak a b (G.st.take n) {G with st:=G.st.drop n} T) _;unfold yP;rw[DB,fS];by_cases d:vM a b
   .have hb:=zS d;have g:ec b 70000=b%M:=qB;rw[g]at U p2⊢;by_cases X:3*rk a b G.mem.length+8*(b%M)<=G.ac
    .rw[U ⟨d,X⟩,dW,At ⟨d,wq⟩];show mP T (lY<|if G.ac-3*rk a b G.mem.length<8*(rq a b).2 then none else some ({T with ay:=T.ay++[⟨G.ak,G.st.take n,dI<|dM (py (rk a b G.mem.length) G).mem (rq a b).1 (rq a b).2⟩]},{py (rk a b G.mem.length) G with st:=G.st.drop n,ac:=G.ac-3*rk a b G.mem.length-8*(rq a b).2})) _;rw[xw,AQ];let⟨g,_⟩:=uO (P:=P) n [] {py (rk a b G.mem.length) G with ac:=G.ac-3*rk a b G.mem.length-8*(b%M)};rw[g O,dW];unfold DH;rw[At<|show RS.ao _=0 from W,xw];have C:=Ew L<|rk a b G.mem.length;refine⟨⟨[],_,K2,W,W,W⟩,{P with lg:=P.lg++[⟨G.ak,G.st.take n,dI<|dM (py _ G).mem _ _⟩]},⟨f.ai,f.ae,f.aK,f.aP,by show T.ay++_=P.lg++_;rw[f.lg],f.lt⟩,LZ ⟨C.en,⟨C.aT,?_,C.st,C.en⟩,W⟩⟩;show(G.st.drop n).length<=1024;rw[X8];have:=L.aV;omega
    have f:=D (dJ a b<|dU (8*(b%M))<|eO G P).1 _<|p2 λh=>X h.2;by_cases c:vM a b/\3*rk a b G.mem.length<=G.ac
    .rw[At c];show mP T (lY<|if G.ac-3*rk a b G.mem.length<8*(rq a b).2 then none else some ({T with ay:=T.ay++[⟨G.ak,G.st.take n,dI<|dM (py (rk a b G.mem.length) G).mem (rq a b).1 (rq a b).2⟩]},{py (rk a b G.mem.length) G with st:=G.st.drop n,ac:=G.ac-3*rk a b G.mem.length-8*(rq a b).2})) _;rwa[xw,AV]
    rwa[iF c]
   rw[iF<|λh=>d h.1];exact D _ _<|p2 λh=>d h.1
  rw[iF O];show RS.ao _=3;by_cases c:vM a b/\3*rk a b G.mem.length+8*ec b 70000<=G.ac
  .rw[U c,dW];exact V _ _ _<|(uO n [] _).2 O
  exact D _ _<|p2 c
def Fj(l:Tl):l=[]\/(∃a,l=[a])\/∃a b r,l=a::b::r:=match l with
 |[]=>LZ W
 |[a]=>A4<|LZ ⟨a,W⟩
 |a::b::r=>A4<|A4 ⟨a,b,r,W⟩
def Wn(h:Ok F)(U:RelW T P)(J:Nat)(L:J≠0):mP T (kP (sV J F) T) (yi (if J=253 then 2 else 1)<|eO F P):=by
 unfold sV yi;rw[iF L];have C:∀{t:(Nat×Nat)×RS}{k:Nat},t.2.ao=3->(Jg k t).ao=3:=λI=>pp I;rcases Fj F.st with Q|⟨a,Q⟩|⟨a,b,r,Q⟩
 .rw[nE (F:={F with aG:=true}) Q];exact C<|bf _ _<|fi<|iz Q
 .rw[ir (F:={F with aG:=true}) Q,gu Q];rfl
 rw[ir (F:={F with aG:=true}) Q,gu Q];dsimp only;rw[ir W,gu W];dsimp only;have H:=ki (ki h Q) W;let⟨O,G⟩:=oG (P:=P) H a b;rw[fS];by_cases c:vM a b/\3*rk a b F.mem.length<=F.ac
 .rw[At c,O c];unfold Jg;rw[At<|show RS.ao _=0 from W];refine⟨Un.refl T,P,U,A4 ?_⟩;have D:=h.st;by_cases E:J=253
  .simp only[At E];exact⟨W,DO 1,W⟩
  simp only[iF E];refine⟨W,?_,?_⟩
  .show F.aE<=1;rw[D];exact In _
  show _=({eO _ P with ao:=F.aE+1}:RS);rw[D];rfl
 rw[iF c];exact C<|G c
def WN(T:TS)(y:Res×TS)(S:RS):=(y.1.st=2/\S.ao=3/\y.1.ac=0/\y.1.aa=⟨#[]⟩/\y.2=T)\/(y.1.ac=S.ac/\y.1.aa=S.aa/\((y.1.st=1/\S.ao=2/\y.2=T)\/(y.1.st=0/\S.ao=1/\Un T y.2/\RelW y.2 S.w)))
def o_chg(v:Nat)(h:R.ao=3):(vV v R).ao=3:=(GI v R).ov h
def o_val(J:Nat)(h:R.ao=3):(uS J R).2.ao=3:=(Gt J R).ov h
def B8(run:RS->RS)(J gs Z v:Nat)(q:Nat×Nat):Sy (Bu run J gs Z v q):=λo R h=>pp h
def Ox{asked:Nat}(C:F.ac<=100000):kB asked (eO F P)=eA F asked:=by unfold kB eA sD;show(if ec asked 200000<F.ac-F.ac/64 then ec asked 200000 else F.ac-F.ac/64)=_;grind[mf]
def Gx(aa:BA)(d:Nat):bl (dI<|dH aa 0<|min d aa.size)=(bl aa).take d:=by rw[qr];unfold dH;rw[List.drop_zero,(wq:min d _-(aa.size-0)=0),List.replicate_zero,YQ,<-ik _];simp
def vO{m:Vf}(h:c+d<=m.length):(splice m c<|(bl aa).take d).length=m.length:=ox K9
def TY(h:Ok F)(j:RelW T P)(l:F.ret=⟨#[]⟩)(c d:Nat)(U:g<=F.ac)(E:c+d<=F.mem.length){y:Res×TS}{S:RS}(J:WN T y S):mP T (lY<|(ji {F with ac:=F.ac-g} y.1.st y.1.ac y.1.aa c d).map λz=>(y.2,z.2)) (FR (c,d) S {eO F P with ac:=F.ac-g}):=by
 have N:∀{G:Fz}{Q:RW}{n:Nat}{C:TS},Ok G->Un T C->RelW C Q->mP T (lY<|(dB n G).map λz=>(C,z.2)) _:=λ{G Q n C} L I H=>by
  have V:=mI (P:=Q) L n;cases X:dB n G with
  |none=>rwa[X]at V
  |some z=>rw[X]at V;exact⟨I,Q,H,LZ ⟨V.1.en,V.1,V.2⟩⟩
 unfold ji FR;rcases J with⟨X,V,Y,Z,f⟩|⟨Y,Z,⟨X,V,f⟩|⟨X,V,m,m⟩⟩
 .rw[At V,X,Y,Z,f,iF K3];have e:zB {F with ac:=F.ac-g} 0 ⟨#[]⟩ c d={F with ac:=F.ac-g}:=by unfold zB;show({F with ac:=F.ac-g+0,ret:=⟨#[]⟩,mem:=splice F.mem c<|List.take d []}:Fz)=_;rw[List.take_nil,oS,Ye,<-l]
  rw[e];exact N ⟨h.aT,h.aV,h.st,h.en⟩ (Un.refl T) j
 all_goals
  rw[iF<|show¬S.ao=3 by omega,X,Y,Z];have D:Ok (zB {F with ac:=F.ac-g} S.ac S.aa c d):=⟨by show(splice F.mem c _).length%32=0;rw[vO E];exact h.aT,h.aV,h.st,h.en⟩
  have O:gT c (dI<|dH S.aa 0<|min d S.aa.size) {({eO F P with ac:=F.ac-g})with ac:=F.ac-g+S.ac,aI:=S.aa}=eO (zB {F with ac:=F.ac-g} S.ac S.aa c d) P:=by unfold gT;rw[Gx];rfl
 .rw[iF<|show¬1=0 by decide,f,iF (show¬S.ao=1 by rw[V];decide)];show mP T _ (eN (jM<|S.ao==1)<|gT c (dI<|dH S.aa 0<|min d S.aa.size) {({eO F P with ac:=F.ac-g}:RS)with ac:=F.ac-g+S.ac,aI:=S.aa});rw[O,V];exact N D (Un.refl T) j
 grind[mP,eN,jM,gT,dI,dH,min,eO]
def RK(J C Z v:Nat){q:Nat×Nat}(h:Ok F)(o:RelW T P)(p:fB T)(U:J≠241->v=0)(Bp:F.depth<=16)(Y:F.ac<=100000)(f:c+d<=F.mem.length)(A:data=dI (dM F.mem q.1 q.2))(X:jV F T v=true->∀Q,RelW (fU T v F.ak Z) Q->WN T (wk (eu J C Z v data {F with ret:=⟨#[]⟩} T) T v F.ak Z) (run<|eO (eu J C Z v data {F with ret:=⟨#[]⟩} T) Q)):mP T (lY<|um wk J C Z v data c d {F with ret:=⟨#[]⟩} T) (Bu run J C Z v q (c,d)<|eO F P):=by
 have L:Ok {F with ret:=⟨#[]⟩}:=⟨h.aT,h.aV,h.st,h.en⟩
 have H:mP T (lY<|(dB 0 {F with ret:=⟨#[]⟩}).map λy=>(T,y.2)) (eN 0<|eO {F with ret:=⟨#[]⟩} P):=by
  have l:=mI (P:=P) L 0;cases u:dB 0 {F with ret:=⟨#[]⟩}with
  |none=>rwa[u]at l
  |some z=>rw[u]at l;exact⟨Un.refl T,P,o,LZ ⟨l.1.en,l.1,l.2⟩⟩
 unfold Bu;rw[At<|show(eO F P).ao=0 from W];unfold um;by_cases O:F.depth=16
 .grind[eO,jV]
 rw[iF<|show¬(eO F P).depth=16 from O,Ox Y];show mP T _ (D3 run J Z v q (c,d) (eA F C)<|eO {F with ret:=⟨#[]⟩} P);unfold D3;have I:=o.bX Z;have G:(mB (ag Z (eO {F with ret:=⟨#[]⟩} P).w).2 (ag Z (eO {F with ret:=⟨#[]⟩} P).w).1).ae=(T.aw Z).ae:=by show(mB (ag Z P).2 (ag Z P).1).ae=_;rw[mi,o.ae]
 rw[G];have E:=I.move p F.ak Z v;have j:(ow J Z v<|eO {F with ret:=⟨#[]⟩} P).1=jV {F with ret:=⟨#[]⟩} T v/\(jV {F with ret:=⟨#[]⟩} T v=true->RelW (fU T v F.ak Z) (ow J Z v<|eO {F with ret:=⟨#[]⟩} P).2):=by
  unfold ow jV;rw[OsQ (by show F.depth<16;omega),YG];by_cases V:J=241
  .rw[At V];exact⟨E.1,λh=>E.2<|E.1.trans h⟩
  rw[iF V,U V];exact⟨(OsQ (by rw[ZS];exact In _)).symm,λ_=>I.move0 p _ Z 0<|ZS _⟩
 rw[j.1];by_cases D:jV {F with ret:=⟨#[]⟩} T v=true
 .rw[At D,At D];have l:=X D _<|j.2 D;have m:uT J Z v q (eA F C) (eO {F with ret:=⟨#[]⟩} P) (T.aw Z).ae (ow J Z v<|eO {F with ret:=⟨#[]⟩} P).2=eO (eu J C Z v data {F with ret:=⟨#[]⟩} T) (ow J Z v<|eO {F with ret:=⟨#[]⟩} P).2:=by rw[A];rfl
  rw[m];exact TY L o W c d (qg F _) f l
 rwa[iF D,iF D]
def LH{l:Vf}(h:a+b<=l.length):dM (l++List.replicate k 0) a b=dM l a b:=by grind[dM]
def zE{β:Type}{C:Option (β×Fz)->RS->Prop}(E:∀R,R.ao=3->C none R){F:Fz}{k:Option<|β×Fz}{K:Nat->RS->RS}(D:F'.st=F.st)(G:Sy K)(H:∀n s,F.st=n::s->db F=some (n,{F with st:=s})->C k (K n<|eO {F' with st:=s} P)):C (dX (db F) k) (du (dA<|eO F' P) K):=by
 cases H:F.st with
 |nil=>rw[nE H];exact E _<|G _ _<|iz K9
 |cons n s=>rw[gu<|D.trans H,dW,ed<|by grind[ir]];grind[ir]
def BE{β:Type}{F:Fz}{k:Option<|β×Fz}(D:∀n s,db F=some (n,{F with st:=s})->k=none):dX (db F) k=none:=by
 cases C:F.st with
 |nil=>rw[nE C];rfl
 |cons n s=>exact dE<|A4<|D n s<|ir C
def Kz(h:Ok F)(v:Nat):(∃F',Ok F'/\F'.st=F.st/\F'.mem=F.mem/\F'.ac<=F.ac/\F'.depth=F.depth/\F'.ak=F.ak/\vV v (eO F P)=eO F' P/\∀s,pd v {F with st:=s}=some ((),{F' with st:=s}))\/((vV v<|eO F P).ao=3/\∀s,pd v {F with st:=s}=none):=by
 unfold vV pd QO;by_cases D:v%M=0
 .grind
 rw[iF D];by_cases C:F.ac<900
 .rw[uK C];refine A4 ⟨?_,λs=>?_⟩
  .split<;>rfl
  grind[im]
 rw[vd C];by_cases E:F.ro=true
 .rw[At<|show(eO {F with ac:=F.ac-900} P).aR=true from E];exact A4 ⟨W,λs=>K9⟩
 rw[iF<|show¬(eO {F with ac:=F.ac-900} P).aR=true from E];refine LZ ⟨{F with ac:=F.ac-900},⟨h.aT,h.aV,h.st,h.en⟩,W,W,ZF _ _,W,W,W,λs=>?_⟩;rw[iF D,iF<|E];unfold im;exact iF C
theorem Sy.take{K:Nat->RS->RS}(h:Sy K)(C:R.ao=3):(du (dA R) K).ao=3:=h _ _<|fi C
def c7(run:RS->RS)(J gs Z v a n oa on:Nat)(R:RS):RS:=du (dJ a n R) λq R=>du (dJ oa on R)<|Bu run J gs Z v q
def c6(run:RS->RS)(J gs Z v a n oa:Nat)(R:RS):RS:=du (dA R)<|c7 run J gs Z v a n oa
def c5(run:RS->RS)(J gs Z v a n:Nat)(R:RS):RS:=du (dA R)<|c6 run J gs Z v a n
def c4(run:RS->RS)(J gs Z v a:Nat)(R:RS):RS:=du (dA R)<|c5 run J gs Z v a
def c3(run:RS->RS)(J gs Z v:Nat)(R:RS):RS:=du (dA<|vV v R)<|c4 run J gs Z v
def c2(run:RS->RS)(J gs Z:Nat)(R:RS):RS:=du (uS J R)<|c3 run J gs Z
def c1(run:RS->RS)(J gs:Nat)(R:RS):RS:=du (dA R)<|c2 run J gs
section
variable {v:Nat}
def sc7:Sy (c7 run J gs Z v a n oa):=λon R C=>B8 run J gs Z v (dJ a n R).1 (dJ oa on (dJ a n R).2).1 _<|bf _ _<|bf _ _ C
def sc6:Sy (c6 run J gs Z v a n):=λoa R C=>Sy.take (K:=c7 run J gs Z v a n oa) sc7 C
def sc5:Sy (c5 run J gs Z v a):=λn R C=>Sy.take (K:=c6 run J gs Z v a n) sc6 C
def sc4:Sy (c4 run J gs Z v):=λa R C=>Sy.take (K:=c5 run J gs Z v a) sc5 C
def sc3:Sy (c3 run J gs Z):=λv R C=>Sy.take (K:=c4 run J gs Z v) sc4<|o_chg v C
def Sy.val{K:Nat->RS->RS}(h:Sy K)(C:R.ao=3):(du (uS J R) K).ao=3:=h _ _<|o_val J C
def sc2:Sy (c2 run J gs):=λZ R C=>Sy.val (K:=c3 run J gs Z) sc3 C
def sc1:Sy (c1 run J):=λgs R C=>Sy.take (K:=c2 run J gs) sc2 C
end
def r_call{run:RS->RS}(J:Nat)(h:Ok F)(hw:RelW T P)(hT:fB T)(Bp:F.depth<=16)(b:F.ac<=100000)(z:∀G Z v data O Q,O.depth=F.depth->O.ac<=F.ac->data.size<=65536->jV O T v=true->RelW (fU T v O.ak Z) Q->WN T (wk (eu J G Z v data O T) T v O.ak Z) (run<|eO (eu J G Z v data O T) Q)):mP T (lY<|jj wk J F T) (du (dA<|eO F P)<|c1 run J):=by
 obtain⟨D,A⟩:∃D:Option _->RS->Prop,D=λr R=>mP T (lY r) R:=⟨_,W⟩
 have H:∀R,R.ao=3->D none R:=λR S=>by rwa[A]
 suffices hs:D (jj wk J F T) (du (dA<|eO F P)<|c1 run J) by rw[A]at hs;exact hs
 unfold jj;refine zE H W sc1 λgs b b c=>?_;have s:=fb c;simp only[eP,eV,eb,oK,s.1,s.2];unfold c1;refine zE H W sc2 λZ V c p2=>?_;unfold c2;have N:=fb p2;have f:=ki (ki h b) c;simp only[N.1,N.2];have X:(∃v C,(J≠241->v=0)/\eZ J {F with st:=V}=some (v,{F with st:=C})/\uS J (eO {F with st:=V} P)=(v,eO {F with st:=C} P)/\Ok {F with st:=C})\/(eZ J {F with st:=V}=none/\(uS J<|eO {F with st:=V} P).2.ao=3):=by
  unfold eZ uS;by_cases Y:J=241
  .rw[At Y,At Y];match V,f with
   |[],f=>exact A4 ⟨nE W,iz W⟩
   |v::C,f=>exact LZ ⟨v,C,λh=>absurd Y h,ir W,gu W,ki f W⟩
  rw[iF Y,iF Y];exact LZ ⟨0,V,λ_=>W,W,W,f⟩
 rcases X with⟨v,C,l,b,c,u⟩|⟨b,c⟩;case inr=>rw[b];exact H _<|(sc3:Sy<|c3 run J gs Z) _ _ c
 rw[b,c,dW];simp only[show∀k:Option _,dX (some (v,({F with st:=C}))) k=k from λ_=>W,show dV (some (v,({F with st:=C})))=v from W,show A1 (some (v,({F with st:=C})))={F with st:=C} from W];rcases Kz (P:=P) u v with⟨c,k4,w,b,q3,q4,b,u,x⟩|⟨u,x⟩;case inr=>
  have hn:dX (db {F with st:=C}) (dX (db<|A1<|db {F with st:=C})<|dX (db<|A1<|db<|A1<|db {F with st:=C})<|dX (db<|A1<|db<|A1<|db<|A1<|db {F with st:=C})<|CP wk J gs Z v (dV<|db {F with st:=C}) (dV<|db<|A1<|db {F with st:=C}) (dV<|db<|A1<|db<|A1<|db {F with st:=C}) (dV<|db<|A1<|db<|A1<|db<|A1<|db {F with st:=C}) (A1<|db<|A1<|db<|A1<|db<|A1<|db {F with st:=C}) T)=none:=by refine BE λa u4 p4=>?_;rw[(fb p4).2];refine BE λn u5 g=>?_;rw[(fb g).2];refine BE λoa u6 j=>?_;rw[(fb j).2];refine BE λon U b=>?_;rw[(fb b).2];unfold CP;rw[x U]
  exact(Xl (λr=>D r _) hn).mpr<|H _<|Sy.take (K:=c4 run J gs Z v) sc4 u
 unfold c3;rw[u];refine zE H w sc4 λa u4 u p4=>?_;unfold c4;simp only[(fb p4).1,(fb p4).2];refine zE H W sc5 λn u5 e5 g=>?_;unfold c5;simp only[(fb g).1,(fb g).2];refine zE H W sc6 λoa u6 e6 j=>?_;unfold c6;simp only[(fb j).1,(fb j).2];refine zE H W sc7 λon U e7 b=>?_;unfold c7;simp only[(fb b).1,(fb b).2];have p:Ok {c with st:=U}:=ki (ki (ki (ki k4<|w.trans u) e5) e6) e7;unfold CP;rw[x U];show D (mF wk J gs Z v a n oa on {c with st:=U} T) _;obtain⟨E,o⟩:∃E:Fz,E={c with st:=U}:=⟨_,W⟩
 have t:E.depth=F.depth:=by rw[o];exact q4
 have b:E.ac<=F.ac:=by rw[o];exact q3
 rw[<-o]at p⊢;unfold mF;refine sH H a n p (λq R S=>B8 _ J gs Z v q _ _<|bf _ _ S) (λe=>by rw[e]) λm b i L=>?_;rw[b];dsimp only;refine sH H oa on i (B8 _ J gs Z v _) (λe=>by rw[e]) λd u x I=>?_;rw[u];dsimp only;rw[A];have y:=uQ a n (xF b) p;rw[<-L]at y;have c:=uQ oa on (xF u) i;rw[<-I]at c;have g2:m.ac<=E.ac:=by rw[L];exact ZF _ _
 have b:d.ac<=m.ac:=by rw[I];exact ZF _ _
 have b:d.depth=E.depth:=by rw[I,L];rfl
 refine RK J gs Z v x hw hT l (by rw[b,t];exact Bp) wq c.1 ?_ λl Q c=>?_
 .rw[(by rw[I];rfl:d.mem=m.mem++List.replicate _ 0),LH y.1]
 refine z gs Z v _ _ Q (by show d.depth=_;rw[b,t]) (by show d.ac<=_;omega) ?_ l c;show(dM m.mem (rq a n).1 (rq a n).2).toArray.size<=_;rw[YU];exact By (mQ) y.2.1
def OW:((List.range 256).all λJ=> !pA J||(eF J==some (if J=10 then 10 else 5)))=true:=N0
def Uk(D:J<256)(h:pA J=true):eF J=some (if J=10 then 10 else 5):=by have C:=Xp.1 OW J<|XS.2 D;rw[h]at C;simpa using C
def Py(J:Nat)(h:Ok F)(E:12<=J)(D:J<=15):(Nh J<|eO F P).ao=3:=by
 show(du (dA<|dU (if J=10 then 10 else 5)<|eO F P)<|kR2 J).ao=3;by_cases C:F.ac<(if J=10 then 10 else 5)
 .rw[uK C];exact Sy.take (sy2 J) W
 rw[vd C];rcases Fj F.st with H|⟨a,H⟩|⟨a,b,r,H⟩
 .exact sy2 J _ _ (iz H)
 .rw[gu (F:={F with ac:=F.ac-if J=10 then 10 else 5}) H,dW];unfold kR2;rw[AQ];exact sy3 J a _ _<|iz W
 rw[gu (F:={F with ac:=F.ac-if J=10 then 10 else 5}) H,dW];unfold kR2;rw[AQ,gu (F:={F with ac:=F.ac-if J=10 then 10 else 5,st:=b::r}) W,dW];unfold kR3;rw[AQ,dW,AQ];unfold mM;rw[At<|show RS.ao _=0 from W,iF (by unfold ny;rw[AQ];decide)];exact yo W
def M2:((List.range 256).all λJ=>(eF J).isSome||decide (12<=J/\J<=15)||(decide (30<=J/\J<63)&& !([48,49,51,52,53,54,55,56,57,61,62]:Tl).contains J)||decide (63<=J/\J<80)||(decide (165<=J)&& !([241,243,244,250,253]:Tl).contains J))=true:=N0
def Dr(D:30<=J/\J<63)(h:J∉([48,49,51,52,53,54,55,56,57,61,62]:Tl))(R:RS):lU J R=fA R:=by
 simp only[IF,Xk,XI,not_or]at h;have C:J=30\/J=31\/J=32\/J=33\/J=34\/J=35\/J=36\/J=37\/J=38\/J=39\/J=40\/J=41\/J=42\/J=43\/J=44\/J=45\/J=46\/J=47\/J=50\/J=58\/J=59\/J=60:=wq
 rcases C with rfl|rfl|rfl|rfl|rfl|rfl|rfl|rfl|rfl|rfl|rfl|rfl|rfl|rfl|rfl|rfl|rfl|rfl|rfl|rfl|rfl|rfl;all_goals rfl
def UJ(E:J<256)(H:eF J=none)(h:Ok F):(eE run J p<|eO F P).ao=3:=by
 have C:=Xp.1 M2 J<|XS.2 E;rw[H]at C;simp only[Option.isSome_none,Z8,YR,Xo,Yz,YK,Zf,YN]at C;unfold eE;rcases C with((C|⟨C,D⟩)|C)|⟨C,D⟩
 .rw[AQ,AV];exact Py J h C.1 C.2
 .rw[AQ,AQ,AV,Dr C D];rfl
 .rw[AQ,AQ,AQ,AQ,AQ,AQ,AQ,AQ,AQ,AQ,AQ,AQ,AQ,AQ,AQ];rfl
 simp only[IF,Xk,XI,not_or]at D;rw[AQ,AQ,AQ,AQ,AQ,AQ,AQ,AQ,AQ,AQ,AQ,AQ,AQ,AQ,AQ];rfl
def IB(n:Nat):bl (pw n)=qc n 0:=R5
def Hy(n:Nat):bl ((pw n).extract (32-32) 32)=qc n 0/\bl ((pw n).extract (32-1) 32)=[xA n]:=by
 have C:(qc n 0).length=32:=R5
 refine⟨?_,?_⟩
 .rw[AX,IB,Nat.sub_self,List.drop_zero,XA wq]
 rw[AX,IB,Ot n 0 K3,List.drop_append_of_le_length (by unfold qc;simp),ZX (by unfold qc;simp),XG];grind[UInt8.ofNat,vY,xA]
def Qv(wk:Wk)(run:RS->RS)(F:Fz)(T:TS)(P:RW)(J:Nat):=∀c,eF J=some c->mP T (if F.ac<c then none else vW wk J (eG F c) T) (eE run J F.nx<|eO (si F) P)
def CG{K:RS->RS}{r:Fz->Option (Unit×Fz)}(H:eF J=some c)(L:eE run J F.nx (eO (si F) P)=K (dU c<|eO (si F) P))(D:∀R,R.ao=3->(K R).ao=3)(I:vW wk J (eG F c) T=kP (r<|eG F c) T)(O:RelW T P)(h:c<=F.ac->ResU P (r<|eG F c) (K<|eO (eG F c) P)):Qv wk run F T P J:=λc' C=>by cases(hV (H.symm.trans C):c=c');rw[L];exact Ws D λE=>by rw[I];exact(h E).bq O
def Oo{K:RS->RS}(E:eF J=some c)(H:eE run J F.nx (eO (si F) P)=K (dU c<|eO (si F) P))(D:∀R,R.ao=3->(K R).ao=3)(h:c<=F.ac->mP T (vW wk J (eG F c) T) (K<|eO (eG F c) P)):Qv wk run F T P J:=λc' C=>by cases(hV (E.symm.trans C):c=c');rw[H];exact Ws D h
def Cy(s:BA)(aD strict:Bool)(R:RS):RS:=du (dA R) λZ R=>du (dA R) λfr R=>du (dA R) λn R=>du (dJ Z n<|if aD=true then(dJ fr n<|dU ((ec n 70000+31)/32*3) R).2 else dU ((ec n 70000+31)/32*3) R)<|vZ s aD strict fr
def nT{s:BA}{aD:Bool}(R:RS)(h:R.ao=3):(Cy s aD strict R).ao=3:=by have C:=fi<|fi<|fi h;refine Hc s aD strict _ _<|bf _ _ ?_;grind[bf,Ay]
def Iv{s:BA}(strict:Bool)(O:s.size<=70000)(h:Ok G)(C:Nat->Nat->Nat->Fz->Option (Unit×Fz))(E:∀a b c u,C a b c {G with st:=u}=if strict=true/\c%M≠0/\s.size<b%M+c%M then none else ez s a b c {G with st:=u}):ResU P (Kr G<|C (eP G) (eV G) (pX G)<|mU G) (Cy s false strict<|eO G P):=by
 refine Mz (K:=λZ Q n R=>du _ _) h (λa b n R L=>?_) λa b c u I D t3 t4 H=>?_
 .exact Hc s _ _ _ _ (bf _ _<|Ay L)
 rw[I,D,t3,t4,iF<|show¬false=true by decide,E];exact r_copy H s O a b c
def MZ{s:BA}(C:s.size<=70000)(h:Ok G):ResU P (gi s G) (Cy s false false<|eO G P):=Iv false C h (ez s) λa b c u=>R5
def ro_ret(C:G.ret.size<=65536)(h:Ok G):ResU P (fW G) (Cy G.ret false true<|eO G P):=Iv true wq h kJ λa b c u=>by unfold kJ LN;grind
def ro_own(h:Ok G):ResU P (gZ G) (Cy ⟨#[]⟩ true false<|eO G P):=by
 refine Mz (K:=λZ I n R=>du _ _) h (λa b n R E=>?_) λa b c u D C t3 t4 H=>?_
 .exact Hc _ _ _ _ _ (bf _ _<|bf _ _<|Ay E)
 rw[D,C,t3,t4,At<|rfl];grind[S6]
def UE(h:R.ao=3):(du (dA R) λa R=>du (dJ a 32 R) λq R=>if R.ao=0 then eN (lK<|dM R.mem q.1 q.2) R else R).ao=3:=pp<|bf _ _<|fi h
def Iz(n:Nat)(h:R.ao=3):(du (dA R) λa R=>du (dJ a n R) λq R=>du (dA R) λv R=>if R.ao=0 then gT q.1 ((pw v).extract (32-n) 32) R else R).ao=3:=pp<|fi<|bf _ _<|fi h
def JR{v:Nat}(h:R.ao=3):(v7 br k v<|if R.aR=true then fA R else R).ao=3:=by
 refine pp ?_;split
 .rfl
 omega
def Wi(h:R.ao=3):(if b%M=0 then R else ek a R).ao=3:=by grind[Ge]
def r_bal(h:Ok F)(E:RelW T P)(C:G=F):mP T (kP (dX (db F)<|dB (T.aw<|dV<|db F).ai<|A1<|db F) T) (du (dA<|eO F P) λa R=>if R.ao=0 then eN (mB (ag a R.w).2 (ag a R.w).1).mo {R with w:=(ag a R.w).2}else R):=by
 cases D:F.st with
 |nil=>rw[nE D];exact pp<|iz D
 |cons a s=>have t:=fb<|ir D;rw[ed (by rw[ir D];simp),t.1,t.2,gu D,dW,At<|show RS.ao _=0 from W];show mP T _ (eN (mB (ag a P).2 (ag a P).1).mo<|eO {F with st:=s} (ag a P).2);rw[mi,<-E.ai];exact(mI (ki h D) _).bq<|E.bX a
theorem N4(U:Ok F)(d:RunF F)(Z:RelW T P)(I:J∈([48,49,51,52,53,54,55,56,57,61,62]:Tl)):Qv wk run F T P J:=by
 have k:=qw U;have X:=d.ds;have d2:=d.cs;have L:=d.rs;have C:∀{J c:Nat}(g:Fz->Nat)(E:RS->Nat),eF J=some c->(∀G,E (eO G P)=g G)->eE run J _ _=eN _ _->vW wk J _ T=kP _ T->Qv wk _ F T P J:=λ{J c} g E D O V Q=>CG (K:=λR=>eN (E R) R) D V (λR h=>yo h) Q Z λ_=>by rw[O];exact mI (k _) _
 simp only[IF,Xk,XI]at I;rcases I with rfl|rfl|rfl|rfl|rfl|rfl|rfl|rfl|rfl|rfl|rfl
 .exact C _ _ W (λ_=>W) W W
 .exact Oo (K:=λR=>du _ λa R=>if R.ao=0 then eN (mB (ag a R.w).2 (ag a R.w).1).mo {R with w:=(ag a R.w).2}else R) W W (λR h=>pp<|fi h) λ_=>r_bal (k _) Z W
 .exact C _ _ W (λ_=>W) W W
 .exact C _ _ W (λ_=>W) W W
 .refine CG (K:=λR=>du _ λa R=>eN (lK<|dH R.data (ec a _) 32) R) (r:=λG=>dX _ _) W W (λR h=>yo<|fi h) W Z λ_=>?_;refine vE (k _) (λa R h=>yo h) λa s Y H D=>?_;rw[(fb H).1,(fb H).2,<-yS _ (show(eG F 3).data.size<=70000 by show F.data.size<=_;omega)];exact mI D _
 .exact C _ (λR=>R.data.size) W (λ_=>W) W W
 .exact CG (K:=Cy F.data false false) W W (nT) W Z λ_=>MZ (wq:F.data.size<=70000)<|k _
 .exact C _ (λR=>R.ae.size) W (λ_=>W) W W
 .exact CG (K:=Cy F.ae false false) W W (nT) W Z λ_=>MZ (wq:F.ae.size<=70000)<|k _
 .exact C _ (λR=>R.aI.size) W (λ_=>W) W W
 exact CG (K:=Cy F.ret false true) W W (nT) W Z λ_=>ro_ret L<|k _
theorem PP(Q:Ok F)(d:RunF F)(f:fB T)(Z:RelW T P)(C:80<=J)(H:J<95):Qv wk run F T P J:=by
 have k:=qw Q;have d2:=d.cs;have D:∀{J c:Nat}(g:Fz->Nat)(E:RS->Nat),eF J=some c->(∀G,E (eO G P)=g G)->eE run J _ _=eN _ _->vW wk J _ T=kP _ T->Qv wk _ F T P J:=λ{J c} g E C H V O=>CG (K:=λR=>eN (E R) R) C V (λR h=>yo h) O Z λ_=>by rw[H];exact mI (k _) _
 have X:J=80\/J=81\/J=82\/J=83\/J=84\/J=85\/J=86\/J=87\/J=88\/J=89\/J=90\/J=91\/J=92\/J=93\/J=94:=wq
 rcases X with rfl|rfl|rfl|rfl|rfl|rfl|rfl|rfl|rfl|rfl|rfl|rfl|rfl|rfl|rfl
 .refine CG (r:=yj) W W (λR h=>fi h) W Z λ_=>?_;unfold yj;cases d:(eG F 2).st with
  |nil=>rw[nE d];exact iz d
  |cons a s=>rw[ir d,gu d];exact⟨ki (k _) d,W⟩
 .exact CG W W (λR h=>UE h) W Z λ_=>R9<|k _
 .exact CG (r:=hE) W W (λR h=>Iz 32 h) W Z λ_=>Hu (k _) 32 _ (λv=>(Hy v).1)<|λv=>R5
 .exact CG (r:=hH) W W (λR h=>Iz 1 h) W Z λ_=>Hu (k _) 1 (λv=>[xA v]) (λv=>(Hy v).2)<|λv=>R5
 .exact CG (K:=λR=>du _ λk R=>if R.ao=0 then eN (fu _ R.ak k R.w) R else R) (r:=λG=>nk 1 G T) W W (λR h=>pp<|fi h) W Z λ_=>Nr (k _) Z false
 .exact Oo (K:=λR=>du _ λk R=>du (dA R) λv R=>v7 _ k v<|if R.aR=true then fA R else R) W W (λR h=>JR<|fi<|fi h) λ_=>Jj (k _) Z f false
 .exact CG (K:=λR=>du _ ek) (r:=nG) W W (λR h=>Ge<|fi h) W Z λ_=>by refine vE (k _) (λa R h=>Ge h) λa s Y I C=>?_;rw[(fb I).1,(fb I).2];exact Pt C d2 a
 .exact CG (K:=λR=>du _ λa R=>du (dA R) λb R=>if b%M=0 then R else ek a R) (r:=kL) W W (λR h=>Wi<|fi<|fi h) W Z λ_=>by
   refine Qf (k _) (λa b R h=>Wi h) λa b s e U L t3 C=>?_;rw[U,L,t3];split
   .exact⟨C,W⟩
   exact Pt C d2 a
 .exact D _ (λR=>F.nx) W (λ_=>W) W W
 .exact D _ (λR=>R.mem.length) W (λ_=>W) W W
 .exact D _ _ W (λ_=>W) W W
 .exact CG (r:=λG=>some _) W W (λR h=>h) W Z λ_=>⟨k _,W⟩
 .exact CG (K:=λR=>du _ λk R=>if R.ao=0 then eN (fu _ R.ak k R.w) R else R) (r:=λG=>nk 2 G T) W W (λR h=>pp<|fi h) W Z λ_=>Nr (k _) Z true
 .exact Oo (K:=λR=>du _ λk R=>du (dA R) λv R=>v7 _ k v<|if R.aR=true then fA R else R) W W (λR h=>JR<|fi<|fi h) λ_=>Jj (k _) Z f true
 exact CG (K:=Cy ⟨#[]⟩ true false) W W (nT) W Z λ_=>ro_own<|k _
def J4:((List.range 256).all λJ=> !(decide (95<=J/\J<160))||(eF J==some 3))=true:=N0
def NM(C:95<=J)(D:J<160):eF J=some 3:=by have h:=Xp.1 J4 J<|XS.2 wq;rw[OsQ ⟨C,D⟩]at h;simpa using h
theorem OB(h:30<=J):pA J=false:=by grind[pA]
def Ps(C:95<=J)(D:J<160):eE run J p R=uI J R:=by grind[eE]
def do_mid(C:95<=J)(D:J<160):vW wk J G T=kP (if J<128 then fF (J-95) G else if J<144 then vR (J-128+1) G else nv (J-144+1) G) T:=by unfold vW;rw[iF<|by grind[OB],AQ,AQ,AQ];grind
def o_stk(J:Nat)(R:RS)(h:R.ao=3):(if J<128 then xD (J-95) R else if J<144 then CI (J-127) R else qW (J-142) R).ao=3:=by
 split
 .exact yo h
 split
 .unfold CI;split
  .rfl
  grind[yo]
 unfold qW;split
 .rfl
 exact h
theorem Vk(E:Ok F)(I:RunF F)(L:RelW T P)(D:95<=J)(C:J<160):Qv wk run F T P J:=by
 refine CG (r:=λG=>if J<128 then fF _ G else if J<144 then vR _ G else nv _ G) (NM D C) (Ps D C) (o_stk J) (do_mid D C) L λH=>?_;have k:=qw E 3;by_cases c1:J<128
 .rw[At c1,At c1];exact U7 k (by show F.nx+1<=1200;have:=I.nx;omega)
 rw[iF c1,iF c1];by_cases c2:J<144
 .rw[At c2,At c2,(wq:J-128+1=J-127)];exact r_dup k
 rw[iF c2,iF c2,(wq:J-142=J-144+1+1)];exact r_swap k
theorem Sq(E:Ok F)(I:RelW T P)(H:160<=J)(D:J<=164):Qv wk run F T P J:=by
 obtain⟨n,rfl⟩:∃n,J=n+160:=⟨J-160,wq⟩
 have I:∀R,eE run (n+160) F.nx R=Gf n R:=λR=>by grind[eE]
 have L:vW wk (n+160) (eG F 300) T=lY (rJ n (eG F 300) T):=by unfold vW;rw[iF<|by grind[OB],AQ,AQ,AQ,AQ,AQ,AQ,AV,ZQ]
 have C:eF (n+160)=some 300:=by
  have:n=0\/n=1\/n=2\/n=3\/n=4:=wq
  rcases this with rfl|rfl|rfl|rfl|rfl<;>rfl
 refine Oo (K:=λR=>du (dA _) _) C (I _) (λR h=>pp<|(tS n [] _).ov<|bf _ _<|Ay<|fi<|fi<|(E8 R).ov h) λ_=>?_;grind[r_log,qw]
theorem Oy(O:Ok F)(g:RunF F)(b:fB T)(l:RelW T P)(d:F.ac<=100000)(H:J=241\/J=244\/J=250)(E:∀C Z v data D Q,D.depth=F.depth->D.ac+100<=F.ac->data.size<=65536->jV D T v=true->RelW (fU T v D.ak Z) Q->WN T (wk (eu J C Z v data D T) T v D.ak Z) (run<|eO (eu J C Z v data D T) Q)):Qv wk run F T P J:=by
 have j:∀R,eE run J F.nx R=RR run J R:=λR=>by rcases H with rfl|rfl|rfl<;>rfl
 have c:vW wk J (eG F 100) T=lY (jj wk J (eG F 100) T):=by rcases H with rfl|rfl|rfl<;>rfl
 have Y:eF J=some 100:=by rcases H with rfl|rfl|rfl<;>rfl
 refine Oo (K:=λR=>du (dA R)<|c1 run J) Y ((j _).trans W) (λR h=>Sy.take sc1 h) λf=>?_;rw[c];refine r_call J (qw O _) l b g.dp (wq:F.ac-100<=_) λC Z v data D Q U I V X L=>?_;have I:D.ac<=F.ac-100:=I;exact E _ Z v _ D Q U wq V X L
theorem Ro(C:Ok F)(I:RelW T P)(E:J=0\/J=243\/J=253):Qv wk run F T P J:=λc H=>by
 have D:c=0:=by rcases E with rfl|rfl|rfl<;>exact(hV H).symm
 subst D;rw[iF<|Nat.not_lt_zero _];have k:Ok (si F):=⟨C.aT,C.aV,C.st,C.en⟩
 rcases E with rfl|rfl|rfl
 .refine⟨Un.refl T,P,I,A4 ⟨W,?_,?_⟩⟩
  .show F.aE<=1;rw[C.st];omega
  show({eO (si F) P with ao:=1}:RS)={eO (si F) P with ao:=F.aE+1};rw[C.st]
 .exact Wn (F:=si F) k I 243 K3
 exact Wn (F:=si F) k I 253 K3
def Pp(E:Ok F)(V:RunF F)(V:fB T)(X:RelW T P)(U:F.ac<=100000)(O:∀J C Z v data D Q,D.depth=F.depth->D.ac+100<=F.ac->data.size<=65536->jV D T v=true->RelW (fU T v D.ak Z) Q->WN T (wk (eu J C Z v data D T) T v D.ak Z) (run<|eO (eu J C Z v data D T) Q)):mP T (mh wk F T) (eE run (kv F) F.nx<|eO (si F) P):=by
 have I:=WI F;unfold mh;cases V:eF (kv F)with
 |none=>exact UJ I V ⟨E.aT,E.aV,E.st,E.en⟩
 |some c=>
  suffices hs:Qv wk run F T P (kv F) from hs c V;have L:eF (kv F)≠none:=K9
  generalize kv F=J at*;by_cases c1:pA J=true
  .refine CG (Uk I c1) ?_ (λR h=>Sy.take (sy2 J) h) (At c1) X λ_=>r_reck (qw E _) c1;have H:J≠0/\J<30:=by grind[pA,c1]
   unfold eE;rw[iF H.1,At H.2];rfl
  grind[c1,pA,c2,Ro,Io,c3,N4,vi,c4,PP,c5,Vk,c6,Sq,IW,Oy]
variable {B:Nat}
def LoR(T:TS)(y:Option Fz×TS)(S:RS):=(y.1=none/\S.ao=3/\Un T y.2)\/∃F',y.1=some F'/\F'.aE<=1/\S.ao=F'.aE+1/\F'.ac=S.ac/\F'.aa=S.aa/\Un T y.2/\RelW y.2 S.w
def O4(wk:Wk)(run:RS->RS)(aS:Nat):=∀G T v fr Z Q,Ok G->RunF G->aS<G.depth->G.ac<=100000->GoodT T->T.ch.length+T.ay.length+2+G.ac<=1000000->CongX T->RelW (fU T v fr Z) Q->WN T (wk G T v fr Z) (run<|eO G Q)
def opR_eq(F:Fz)(P:RW):FL (eO F P)=kv F:=by
 unfold FL kv;show((bl F.ae).getD F.nx 0).toNat=_;rw[<-xU];by_cases h:F.nx<F.ae.size
 .grind
 rw[iF h,xU,If,Ym<|by grind[ik]];rfl
theorem xj(h:R.ao≠0):∀k,lH run k R=R
 |0=>rfl
 |k+1=>iF h
theorem Fg{I:Wk}{run:RS->RS}{A b:Nat}(hA:2<=A)(V:ET I A b)(d:O4 I run b):∀(n k:Nat)(F:Fz)(T:TS)(P:RW),Ok F->RunF F->b<=F.depth->F.ac<=100000->GoodT T->T.ch.length+T.ay.length+F.ac<=1000000->RelW T P->F.ac+2<=n->F.ac+1<=k->LoR T (fw I n F T) (lH run k<|eO F P)
 |0,_,F,T,P,_,_,_,_,_,_,_,hn,_=>wq
 |_,0,F,T,P,_,_,_,_,_,_,_,_,hk=>wq
 |n+1,k+1,F,T,P,hO,hr,hd,hg,hT,hb,hw,hn,hk=>by
  rw[fw,iF (by rw[hO.en];decide),lH,At<|show(eO F P).ao=0 from W,opR_eq];show LoR T _ (lH run k<|eE run (kv F) F.nx<|eO (si F) P);have c:=Pp hO hr hT.aO hw hg λJ C Z v data L Q N S j o g=>by have p:=qg L C;exact d _ T v _ Z Q ⟨W,In _,W,W⟩ (uw j o hT) (by show b<L.depth+1;omega) (by show eA L C<=_;omega) hT (by show T.ch.length+T.ay.length+2+eA L C<=_;omega) (hw.aO hT.aO) g
  let⟨K,s2⟩:=uY hA V hr hd hg hT hb;cases b:mh I F T with
  |none=>rw[b]at c;have c:RS.ao _=3:=c;rw[xj wq];exact LZ ⟨W,c,Un.refl T⟩
  |some y=>
   let⟨O,Y⟩:=y;rw[b]at c;let⟨U,z,H,E⟩:=c;have h:=s2 O Y b;have X:=h.cf;have D:=h.fx;dsimp only;rcases E with⟨E,b,c⟩|⟨E,u,c⟩
   .rw[c];have f:=h.lt E;have m:=Fg hA V d n k O Y z b ⟨by rw[D.ae];exact hr.cs,by rw[D.data];exact hr.ds,h.rs,by rw[D.depth];exact hr.dp,h.nx E,h.pc,h.os,h.st⟩ (by rw[D.depth];exact hd) wq (hT.ext h.ext h.aO) wq H wq wq;rcases m with⟨b,l,q⟩|⟨G,b,l,q,t,r,s,i⟩
    .exact LZ ⟨b,l,U.trans q⟩
    exact A4 ⟨G,b,l,q,t,r,U.trans s,i⟩
   rw[c,xj K2];cases n with
   |zero=>omega
   |succ n=>rw[fw,At E];exact A4 ⟨O,W,u,W,W,W,U,H⟩
theorem Ht:∀d,d<=16->O4 (dc d) (iR d) (16-d)
 |0,_=>λG T v fr Z Q _ c b=>by have:=c.dp;omega
 |d+1,h16=>λG T v fr Z Q O c b L b l C l=>by
  have Y:=Ht d wq;have J:=BI d wq;let⟨X,U,f,g⟩:=sN b.aO v fr Z;have E:=b.ext X U;have H:Un T (fU T v fr Z):=by
   have V:=Un.set C 0 fr 0<|ep 3 ((T.aw fr).ai%M) (v%M) 0;have c1:CongX (nN T v fr):=⟨(qS b.aO 0 fr 0 _).2,λa k j e=>?_,C.aP⟩
   .exact V.trans (Un.set c1 0 Z 0 _)
   show(fQ T.aw fr {T.aw fr with ai:=_} a).ar k=(fQ T.aw fr {T.aw fr with ai:=_} a).ar j;by_cases I:a%M=fr%M
   .rw[jC I];exact C.aK fr k j e
   rw[iV I];exact C.aK a k j e
  have h:=Fg wq J Y _ _ G _ Q O c wq L E K9 l (DO _)<|DO _;show WN T (outM (fw (dc d) (G.ac+2) G<|fU T v fr Z).1,lD T (fw (dc d) (G.ac+2) G<|fU T v fr Z).2<|sT (fw (dc d) (G.ac+2) G<|fU T v fr Z).1) (EH<|lH (iR d) (G.ac+1)<|eO G Q);generalize fw (dc d) (G.ac+2) G (fU T v fr Z)=y at*;generalize lH (iR d) (G.ac+1) (eO G Q)=S at*;unfold EH lD;rcases h with⟨c,l,m⟩|⟨b,c,l,m,p,q,o,u⟩
  .rw[At l,c];refine LZ ⟨W,l,W,W,?_⟩;show(if 2=0 then y.2 else _)=T;rw[iF K3];exact(H.trans m).aI
  rw[iF<|show¬S.ao=3 by omega,c];refine A4 ⟨p,q,?_⟩;show(b.aE=1/\S.ao=2/\(if b.aE=0 then y.2 else _)=T)\/(b.aE=0/\S.ao=1/\Un T (if b.aE=0 then y.2 else _)/\RelW (if b.aE=0 then y.2 else _) S.w);by_cases D:b.aE=0
  .rw[At D];exact A4 ⟨D,wq,H.trans o,u⟩
  rw[iF D];exact LZ ⟨wq,wq,(H.trans o).aI⟩
def O2{Q:RW}(D:GoodT<|T0 A)(G:RelW (T0 A) P)(E:RelW (fU (T0 A) B fr Z) Q)(H:data.size<=500)(C:ac<=100000):WN (T0 A) (jZ (T0 A) fr Z B data ac) (iR 16<|eO (rY (A Z).ae fr Z B data ac) Q):=Ht 16 (DO _) (rY (A Z).ae fr Z B data ac) (T0 A) B fr Z Q ⟨W,In _,W,W⟩ ⟨D.cs Z,(by show data.size<=65536;omega),In _,(by show 1<=16;omega),In _,In _,In _,In _⟩ (by show 16-16<1;omega) C D (by show 0+0+2+ac<=_;omega) (G.aO D.aO) E
def Qi{G:RS}(h:(iR (d+1) G).ao=3):(iR (d+1) G).ac=0/\(iR (d+1) G).aa=⟨#[]⟩:=by grind[iR,EH,absurd]
def RelW.clear(h:RelW T P):RelW (T0 T.aw) ⟨P.pu,P.sl.filter λs=> !s.br,[]⟩:=by
 have D:∀a k,(P.sl.filter λs=> !s.br).find? (ly false a k)=P.sl.find? (ly false a k):=λa k=>by rw[List.find?_filter];congr 1;grind[ly]
 have C:∀a k,(P.sl.filter λs=> !s.br).find? (ly true a k)=none:=λa k=>Zn.2 λs D D=>by grind[ly]
 refine⟨h.ai,h.ae,λa k=>?_,λa k=>?_,W,h.lt⟩
 .show(T.aw a).ar k=_;rw[h.aK a k];grind[fu,ly]
 show 0=_;grind[fu,ly]
def Cd.clear(h:Cd P):Cd ⟨P.pu,P.sl.filter λs=> !s.br,[]⟩:=⟨h.1,h.2.1,h.2.2.sublist<|List.filter_sublist.map _⟩
theorem Stp.halt{S:RS}(h:Pot R S)(C:S.ao≠0):Stp R S:=⟨h,λe=>absurd e C,λe=>absurd e C⟩
def LU{c:Prop}[Decidable c]{p q:Nat×RS}(D:Sm R p.2)(C:Sm R q.2):Sm R (if c then p else q).2:=K9
theorem iW{α:Type}{p:α×RS}{k:α->RS->RS}(h:Sm R p.2)(C:∀a S,Sm S<|k a S):Sm R (du p k):=h.trans<|C _ _
def ky{α:Type}{p:α×RS}{k:α->RS->RS}(h:Sm (dU n R) p.2)(C:∀a S,Sm (dU n R) S->Stp R (k a S)):Stp R (du p k):=C _ _ h
def EC{C:Nat}(D:C≠0):Stp R (yi C R):=by
 unfold yi;generalize H:dJ (dA R).1 (dA (dA R).2).1 (dA (dA R).2).2=q;have E:q.1.2<=70000:=by grind[uC]
 have G:=(by rw[<-H];exact((ee R).trans<|ee _).trans (gy _ _ _):Sm R q.2).bj;unfold Jg;split
 .refine Stp.halt ⟨G.ae,G.data,G.depth,G.ac,G.pu,G.sl,G.lg,G.bp,G.ct,G.aI,λ_=>?_⟩ D;show(dM q.2.mem q.1.1 q.1.2).length<=_;grind[By,mQ]
 grind[Stp.halt]
def SQ{s:BA}{aD:Bool}{q:Nat×Nat}:Sm R (vZ s aD strict fr q R):=by unfold vZ BC;exact nK (nK (hM _)<|EE)<|Sm.refl _
theorem oy{s:BA}{aD:Bool}:Stp R (lA s aD strict R):=by unfold lA;exact Sm.bk (iW (ee _) λ_ _=>iW (ee _) λ_ _=>iW (ee _) λ_ _=>iW ((nK ((kI _ _).trans<|gy _ _ _)<|kI _ _).trans<|gy _ _ _) λ_ _=>SQ) wq
def Mv:Sm R (mM J a b c R):=nK ((nK (Sm.refl _)<|hM _).trans<|iQ _ _)<|Sm.refl _
def QL:Stp R (Nh J R):=by unfold Nh;exact Sm.bk (iW (ee _) λ_ _=>iW (LU (Sm.refl _)<|ee _) λ_ _=>iW (LU (ee _)<|Sm.refl _) λ_ _=>(nK (kI _ _)<|Sm.refl _).trans<|Mv) K9
def US(R:RS):Stp R (balR R):=by
 unfold balR;refine ky (ee _) λa S h=>?_;split
 .rename_i C;exact h.cA wq C (By (iG _ _).2 wq) (by grind[kK]) (by grind[kK]) qp (by grind[lh])<|iQ _ _
 exact h.bk wq
def J9(R:RS):Stp R (FO R):=by grind[FO,Sm.bk,iW,ee,iQ]
def OS:Stp R (lU J R):=by
 unfold lU;split
 .grind[Sm.bk,iQ]
 .exact US R
 .grind[Sm.bk,iQ]
 .grind[Sm.bk,iQ]
 .exact J9 R
 .grind[Sm.bk,iQ]
 .grind[oy]
 .grind[Sm.bk,iQ]
 .grind[oy]
 .grind[Sm.bk,iQ]
 .grind[oy]
 exact Stp.halt (hM R).bj (by show(3:Nat)≠0;omega)
def UG(br:Bool)(a k v:Nat)(P:RW):(mT br a k v P).sl.length<=P.sl.length+1/\(mT br a k v P).pu=P.pu/\(mT br a k v P).lg=P.lg:=by grind[mT,List.set]
def SU{v:Nat}(h:Cd P):Cd (mT br a k v P):=by
 unfold mT;cases H:P.sl.findIdx? (ly br a k)with
 |some i=>refine⟨h.1,h.2.1,?_⟩;have e:(P.sl.set i {P.sl.getD i ⟨0,0,0,false⟩with val:=v}).map skey=P.sl.map _:=map_set W;show((P.sl.set i _).map _).Pairwise _;rw[e];exact h.2.2
 |none=>refine⟨h.1,h.2.1,?_⟩;show((P.sl++[_]).map _).Pairwise _;rw[XP];refine XW.2 ⟨h.2.2,XO _ _,λb E c D=>?_⟩;obtain⟨p,G,rfl⟩:=Xq.1 E;rw[BY.1 D];exact Bool.eq_false_iff.2 λC=>by have:=Y9.1 H p G;rw[show ly br a k p=true from C]at this;grind
theorem TI(br:Bool)(a k v:Nat)(P:RW):gF (mT br a k v P)<=gF P+if br=true then 0 else 1:=by
 unfold mT gF;cases C:P.sl.findIdx? (ly br a k)with
 |some i=>have D:=(YE.1 C).1;grind
 |none=>grind
theorem JY(br:Bool)(c:Nat)(H:100<=c)(E:br=false->200<=c)(R:RS):Stp R (wi br c R):=by
 unfold wi;refine ky (ee _) λk S h=>ky (h.trans<|ee _) λv S h=>?_;have C:Sm _ (if S.aR=true then fA S else S):=h.trans<|nK (hM _)<|Sm.refl _;generalize(if S.aR=true then fA S else S)=T at C⊢;unfold v7;split
 .rename_i G;let⟨D,I,L⟩:=UG br T.ak k v T.w;exact C.cA H G K9 D K9 SU (by grind[TI])<|Sm.refl _
 exact C.bk wq
theorem Qg(br:Bool)(c:Nat)(C:100<=c)(R:RS):Stp R (BL br c R):=by unfold BL;exact Sm.bk (iW (ee _) λ_ _=>nK (iQ _ _)<|Sm.refl _) wq
def Ka:Stp R (rK J R):=by unfold rK;grind[Qg,JY]
def Oz:Stp R (I1 J p R):=by
 unfold I1;split
 .exact Ff (ee _) wq
 .refine ky (ee _) λa S h=>ky (h.trans<|ee _) λb S h=>?_;split
  .exact h.bk wq
  grind[Ff]
 .grind[Sm.bk,iQ]
 .grind[Sm.bk,iQ]
 .grind[Sm.bk,iQ]
 grind[Sm.bk,Sm.refl]
def Kv(C:J<=159):Stp R (uI J R):=by
 unfold uI;split
 .unfold xD;refine(Sm.bk (iQ _ _) wq).cM λ_=>LZ ?_;have:(dU 3 R).pc=R.pc:=by have:=Xl RS.pc<|vb 3 R;exact this
  omega
 split
 .exact Sm.bk (nK (hM _)<|iQ _ _) wq
 exact Sm.bk (nK (hM _) ⟨W,DO _,id,W⟩) wq
def Tt:Stp R (Gf n R):=by
 unfold Gf;refine ky ((E8 _).trans<|ee _) λa S h=>ky (h.trans<|ee _) λs S h=>ky (h.trans<|(kI _ _).trans<|gy _ _ _) λq S h=>ky (h.trans<|tS _ _ _) λC S h=>?_;unfold DH;split
 .rename_i D;exact h.cA (P:={S.w with lg:=S.w.lg++[⟨_,C,dI _⟩]}) wq D (X7 _ _) (X7 _ _) K2 id (X7 _ _)<|Sm.refl _
 exact h.bk wq
def J6:Stp R (AD R):=by unfold AD;exact Sm.bk (iW (ee _) λ_ _=>iW (gy _ _ _) λ_ _=>nK (iQ _ _)<|Sm.refl _) wq
def zY:Stp R (rZ n R):=by unfold rZ;exact Sm.bk (iW (ee _) λ_ _=>iW (gy _ _ _) λ_ _=>iW (ee _) λ_ _=>nK (EE)<|Sm.refl _) wq
def DD(E:∀G,Pot G<|run G)(p:Nat)(R:RS)(D:J≠0):Stp R (eE run J p R):=by
 unfold eE;rw[iF D];by_cases C:J<30
 .rw[At C];exact QL
 rw[iF C];by_cases C:J<63
 .rw[At C];exact OS
 rw[iF C];by_cases C:J=80
 .rw[At C];exact Sm.bk (ee _) wq
 rw[iF C];by_cases C:J=81
 .rw[At C];exact J6
 rw[iF C];by_cases C:J=82
 .rw[At C];exact zY
 rw[iF C];by_cases C:J=83
 .rw[At C];exact zY
 rw[iF C];by_cases C:J=84\/J=85\/J=92\/J=93
 .rw[At C];exact Ka
 rw[iF C];by_cases C:86<=J/\J<=91
 .rw[At C];exact Oz
 rw[iF C];by_cases C:J=94
 .rw[At C];exact oy
 rw[iF C];by_cases C:95<=J/\J<=159
 .rw[At C];exact Kv C.2
 rw[iF C];by_cases C:160<=J/\J<=164
 .rw[At C];exact Tt
 rw[iF C];by_cases C:J=241\/J=244\/J=250
 .rw[At C];exact Px E
 rw[iF C];by_cases C:J=243
 .rw[At C];exact EC wq
 rw[iF C];by_cases C:J=253
 .rw[At C];exact EC wq
 rw[iF C];exact Stp.halt (hM R).bj (by show(3:Nat)≠0;omega)
def stp_at(L:∀G,Pot G<|run G)(R:RS)(O:R.pc<=2000)(I:R.ae.size<=1000):Pot R (eE run (FL R) R.pc {R with pc:=R.pc+1})/\((eE run (FL R) R.pc {R with pc:=R.pc+1}).ao=0->(eE run (FL R) R.pc {R with pc:=R.pc+1}).ac<R.ac/\(eE run (FL R) R.pc {R with pc:=R.pc+1}).pc<=2000):=by
 by_cases C:FL R=0
 .rw[C];exact⟨⟨W,W,W,DO _,DO _,DO _,DO _,id,DO _,id,id⟩,λe=>(by cases e)⟩
 have h:=DD L R.pc {R with pc:=R.pc+1} C;have D:R.pc<R.ae.size:=by apply Zc;intro E;apply C;unfold FL;rw[If,Ym<|by grind[ik]];rfl
 refine⟨⟨h.bj.ae,h.bj.data,h.bj.depth,h.bj.ac,h.bj.pu,h.bj.sl,h.bj.lg,h.bj.bp,h.bj.ct,h.bj.aI,h.bj.aa⟩,λe=>⟨h.dn e,?_⟩⟩;have H:=h.pc e;grind
def Oj(D:∀G,Pot G<|run G)(R:RS):Pot R (eE run (FL R) R.pc {R with pc:=R.pc+1}):=by
 by_cases C:FL R=0
 .rw[C];exact⟨W,W,W,DO _,DO _,DO _,DO _,id,DO _,id,id⟩
 have h:=(DD D R.pc {R with pc:=R.pc+1} C).bj;exact⟨h.ae,h.data,h.depth,h.ac,h.pu,h.sl,h.lg,h.bp,h.ct,h.aI,h.aa⟩
theorem CX{run:RS->RS}(C:∀G,Pot G<|run G):∀(k:Nat)(R:RS),Pot R<|lH run k R
 |0,R=>Pot.refl R
 |k+1,R=>by
  unfold lH;split
  .exact(Oj C R).trans (CX C k _)
  exact Pot.refl R
theorem sU:∀(d:Nat)(R:RS),Pot R<|iR d R
 |0,R=>Pot.refl R
 |d+1,R=>by
  show Pot R (EH _);refine(CX (sU d) (R.ac+1) R).trans ?_;generalize lH (iR d) (R.ac+1) R=S;unfold EH;split
  .exact⟨W,W,W,In _,K2,K2,K2,id,K2,id,λ_=>In _⟩
  exact Pot.refl S
end
section
variable {b2:Nat}
def BF(x:WD){T:Nat}:rowL (x.alloc<|.cells cs.toArray T) x.heap.size T cs:=World.rowIs_alloc x cs.toArray T _<|λi D=>K9
def PW.sl{O:Nat}{V:DV}{y:WD}(h:PW O P V y)(U:O<=y.heap.size):∃D c1 E c2 a3 c3,V.pv=.slice D P.pu.length c1/\V.lv=.slice E P.sl.length c2/\V.gv=.slice a3 P.lg.length c3:=by have Q:=h _ _ (BF y) (ai (dO _ y) _) U;let⟨D,c1,G⟩:=dt Q.pu;let⟨E,c2,J⟩:=dt Q.sl;let⟨a3,c3,I⟩:=dt Q.lg;grind
structure GoodR(R:RS):Prop where
 ae:R.ae.size<=1000
 data:R.data.size<=70000
 aI:R.aI.size<=70000
 aa:R.aa.size<=70000
 pc:R.pc<=2000
 aS:R.depth<=16
 bp:Cd R.w
 pu:50*R.w.pu.length+R.ac<=44000000000
 sl:100*R.w.sl.length+R.ac<=90000000000
 lg:R.w.lg.length+R.ac<=900000000
def WQ.copy{O Y:Nat}{V V':DV}{l:hZ}{x y:WD}(h:DW O Y P V x)(f:∀p∈l,rowL x p.1 p.2.1 p.2.2/\¬vu Y V p.1)(hn:(l.map (·.1)).Nodup)(e:V'.tv=V.tv)(Z:PW x.heap.size P V' y)(c:bW x y):WQ x.heap.size y.heap.size P l (y.alloc<|.cells #[V'.pv,V'.lv,V'.gv] 146):=by
 have E:Below _ y (y.alloc<|.cells #[V'.pv,V'.lv,V'.gv] 146):=ai (dO _ y) _;have d:=Z _ _ (BF y) E c.size;have G:=c.trans<|E.mono c.size;refine⟨V',d,λp Z=>⟨(f p Z).1.below G,λg=>?_⟩,hn,G.size⟩;have I:=World.rowIs.lt (f p Z).1;have N:∀{e s n:Nat}{v:VL}{U:List _},(y.alloc<|.cells #[V'.pv,V'.lv,V'.gv] 146).ownsRow x.heap.size e s v n U->v.ownBlock≠some p.1:=λQ j=>by have:=(Q.lt _ j).1;omega
 rcases g with D|D|D|D|⟨t,J,D⟩
 .have:=c.size;omega
 .exact N d.pu D
 .exact N d.sl D
 .exact N d.lg D
 exact(f p Z).2<|A4<|A4<|A4<|A4 ⟨t,e▸J,D⟩
def WQ.frame{O Y:Nat}{l:hZ}{x:WD}(h:WQ O Y P l x)(G:RS)(e:G.w=P)(U:G.st=[])(J:G.mem=[])(I:G.ac<=1000000):DQ O x.heap.size Y G l (x.alloc<|.cells (yt G Y dL dL).toArray 159):=by
 have D:Below _ x (x.alloc<|.cells (yt G Y dL dL).toArray 159):=ai (dO _ x) _;let⟨V,f,Z,Q,c⟩:=h;refine⟨_,_,V,⟨BF x,?_,?_,?_,λt _ k _ d=>(by cases d),c,By c D.size,I,K9,K9⟩,λp c=>⟨(Z p c).1.below D,λd=>?_⟩,Q⟩
 .rw[U];exact Xy _ _ _ _
 .rw[J];exact Xy _ _ _ _
 .rw[e];exact f.cB (Kb.h (S:=[]) D) K2
 have E:=World.rowIs.lt (Z p c).1;rcases d with e|e|e|e|e
 .omega
 .exact(Z p c).2 (LZ e)
 .cases e
 .cases e
 exact(Z p c).2<|A4 e
def Ho{x y:WD}{p:Addr}(h:Below b x y){v:VL}:Below b (x.setCell p v) (y.setCell p v):=⟨h.os,h.tape,h.output,by simpa[World.setCell]using h.size,λk D=>by simp only[World.setCell,Zq];rw[h.block k D]⟩
def DX(O H Y:Nat)(R:RS)(X C:VL)(V:DV)(l:hZ)(x:WD):=DA O H Y R X C V x/\(∀p∈l,rowL x p.1 p.2.1 p.2.2/\¬vU H Y X C V p.1)/\(l.map (·.1)).Nodup
section
variable {V:DV}
def DX.q(h:DX O H Y R X C V l x):DQ O H Y R l x:=⟨_,_,_,h⟩
def DX.below(h:DX O H Y R X C V l x)(D:Below x.heap.size x y):DX O H Y R X C V l y:=⟨h.1.below D,λp E=>⟨(h.2.1 p E).1.below D,(h.2.1 p E).2⟩,h.2.2⟩
theorem DX.aX(h:DX O H Y R X C V l x)(E:DA O H Y R' X C V y)(J:Kb S x y)(G:∀k∈S,vU H Y X C V k):DX O H Y R' X C V l y:=⟨E,λp I=>⟨J.row (h.2.1 p I).1 λD=>(h.2.1 p I).2<|G _ D,(h.2.1 p I).2⟩,h.2.2⟩
theorem DX.set(h:DX O H Y R X C V l x)(e:(yt R Y X C).set o v=yt R' Y X C)(D:R'.st=R.st)(I:R'.mem=R.mem)(E:R'.w=R.w)(G:R'.ac<=1000000):DX O H Y R' X C V l (x.setCell ⟨H,o,none⟩ v):=h.aX (S:=[H]) (h.1.set e D I E G) ((Kb.refl _ _).setCell AI v) λk J=>LZ<|BY.1 J
def DX.rows(h:DX O H Y R X C V l x):∃L:hZ,(∀k,X.ownBlock=some k->∃p∈L,p.1=k)/\(∀p∈L++l,rowL x p.1 p.2.1 p.2.2/\¬vu Y V p.1)/\((L++l).map (·.1)).Nodup/\∀p∈L,X.ownBlock=some p.1:=by -- hL3
 let⟨h,f,G⟩:=h;let⟨Q,D,s2,I,U⟩:=wL h.st;refine⟨Q,s2,λp Z=>?_,?_,λp Z=>(D p Z).1⟩
 .rcases Xr.1 Z with Z|Z
  .refine⟨(D p Z).2.2,λd=>?_⟩;have c:=Ty.aB (D p Z).2.2;rw[(D p Z).2.1]at c;rcases d with e|e|e|e|⟨t,E,e⟩
   .exact absurd (c.aF<|e▸Ty.aB h.wa.row) K3
   .exact absurd (c.aF<|Ty.az h.wa.pu e) K3
   .exact absurd (c.aF<|Ty.az h.wa.sl e) K3
   .exact absurd (c.aF<|Ty.az h.wa.lg e) K3
   exact h.tk t E _ e (D p Z).1
  exact⟨(f p Z).1,λd=>(f p Z).2<|d.elim (λe=>A4<|LZ e) λe=>A4<|A4<|A4<|A4 e⟩
 rw[XP,X5];refine⟨I,G,λa J b c e=>?_⟩;obtain⟨p,Z,rfl⟩:=Xq.1 J;obtain⟨q,d,rfl⟩:=Xq.1 c;exact(f q d).2<|e▸A4 (A4<|LZ (D p Z).1)
def DX.aY{E:DV}(h:DX O H Y R X C V l x)(Z:DW b2 xb P E x)(U:Kb S x y)(I:∀k∈S,k=H\/C.ownBlock=some k):DW b2 xb P E y:=Z.kb U λk G=>by
 have U:∀T,Ty x k T->T=159\/T=5:=λT U=>by
  rcases I k G with rfl|e
  .exact LZ (U.aF<|Ty.aB h.1.row)
  exact A4<|U.aF<|Ty.az h.1.me e
 refine⟨λT Q=>?_,λt J e=>?_⟩
 .grind[OH]
 let⟨q,c⟩:=Z.tm J;rcases U _ (Ty.az c e)with D|D<;>exact absurd D K3
end
def DX.adopt{O H Y D:Nat}{R G:RS}{X C:VL}{V E:DV}{l:hZ}{x:WD}(h:DX O H Y R X C V l x)(q:DW D xb G.w E x)(hb:O<=D)(K:∀p∈L++l,∀t∈E.tv,t.ownBlock≠some p.1)(N:∀k,X.ownBlock=some k->∃p∈L,p.1=k)(Z:∀k,vU H Y X C V k->k<D)(z:∀p∈l,p.1<D):DQ O H Y {R with w:=G.w} l (((x.setCell ⟨Y,0,none⟩ E.pv).setCell ⟨Y,1,none⟩ E.lv).setCell ⟨Y,2,none⟩ E.gv):=by
 let⟨h,F,T⟩:=h;let⟨y,A⟩:=hJ<|((x.setCell ⟨Y,0,none⟩ E.pv).setCell ⟨Y,1,none⟩ E.lv).setCell ⟨Y,2,none⟩ E.gv;rw[<-A];have u:Kb [Y] x y:=by rw[A];exact(((Kb.refl _ _).setCell AI _).setCell AI _).setCell AI _
 have Q:=Ty.aB h.wa.row;have I:∀{b f size n:Nat}{v:VL}{xs:List _},f≠146->x.ownsRow b f _ v n xs->y.ownsRow b f size v n xs:=λg I=>u.aD I λk hb U=>by rw[BY.1 U]at hb;exact g<|(Ty.az I hb).aF Q
 have J:∀{f size n k:Nat}{v:VL}{xs:List _},x.ownsRow _ f size v n xs->v.ownBlock=some k->D<=k:=λI u=>(I.lt _ u).1;refine⟨X,C,E,⟨u.row h.row λU=>absurd ((Ty.aB h.row).aF (by rw[BY.1 U];exact Q)) K3,I K3 h.st,I K3 h.me,⟨(by rw[A];exact(((h.wa.row.set _).set _).set _:):rowL y Y 146 [E.pv,E.lv,E.gv]),fO (I K3 q.pu) hb,fO (I K3 q.sl) hb,fO (I K3 q.lg) hb,q.tl,λi d t c j=>I K3<|q.tp i d t c j,h.wa.hb⟩,λt j k u m=>?_,h.hf,By h.hb u.size,h.gl,h.sl,h.ml⟩,λp c=>⟨u.row (F p c).1 λU=>(F p c).2 (by rw[BY.1 U];exact A4<|LZ W),λhf=>?_⟩,T⟩
 .obtain⟨p,c,rfl⟩:=N k m;grind
 have Z:=z p c;rcases hf with e|e|e|e|e|e|e|⟨t,j,e⟩
 .exact(F p c).2 (LZ e)
 .exact(F p c).2 (A4<|LZ e)
 .exact(F p c).2 (A4<|A4<|LZ e)
 .exact(F p c).2 (A4<|A4<|A4<|LZ e)
 .have:=J q.pu e;omega
 .have:=J q.sl e;omega
 .have:=J q.lg e;omega
 grind
section
variable {V:DV}
def DA.cE(h:DA O H Y R X C V x)(Z:Kb [H] x y)(b:rowL y H 159<|yt R' Y X C)(G:R'.st=R.st)(I:R'.mem=R.mem)(P:R'.w=R.w)(Q:R'.ac<=1000000):DA O H Y R' X C V y:=by
 have D:=Ty.aB h.row;refine⟨b,?_,?_,?_,h.tk,h.hf,By h.hb Z.size,Q,by rw[G];exact h.sl,by rw[I];exact h.ml⟩
 .rw[G];exact Z.aD h.st λk hb E=>by rw[BY.1 E]at hb;exact absurd ((Ty.az h.st hb).aF D) K3
 .rw[I];exact Z.aD h.me λk hb E=>by rw[BY.1 E]at hb;exact absurd ((Ty.az h.me hb).aF D) K3
 rw[P];refine h.wa.kb Z λk E=>?_;rw[BY.1 E];refine⟨λT Z=>tyF<|Z.aF D,λt U hb=>?_⟩;let⟨_,J⟩:=h.wa.tm U;exact absurd ((Ty.az J hb).aF D) K3
def Qb(x:WD)(b o:Nat)(G E D v3:VL):Kb [b] x (sC (sC (sC (sC x b o G) b (o+1) E) b (o+2) D) b (o+3) v3):=((((Kb.refl _ _).setCell AI _).setCell AI _).setCell AI _).setCell AI _
def DQ.self4(h:DQ O H Y R l x)(n:Nat):DQ O H Y {R with ak:=n} l (sC (sC (sC (sC x H 4<|lu n 0) H 5<|lu n 1) H 6<|lu n 2) H 7<|lu n 3):=by let⟨X,C,V,h,G⟩:=h;have E:=Qb x H 4 (lu n 0) (lu n 1) (lu n 2)<|lu n 3;exact DQ.aX G (h.cE E ((((h.row.set _).set _).set _).set _:) W W W h.gl) E (λk D=>LZ<|BY.1 D)<|λk E=>LZ E
def DQ.cK(h:DQ O H Y R l x)(n:Nat):DQ O H Y {R with ax:=n} l (sC (sC (sC (sC x H 8<|lu n 0) H 9<|lu n 1) H 10<|lu n 2) H 11<|lu n 3):=by let⟨X,C,V,h,G⟩:=h;have E:=Qb x H 8 (lu n 0) (lu n 1) (lu n 2)<|lu n 3;exact DQ.aX G (h.cE E ((((h.row.set _).set _).set _).set _:) W W W h.gl) E (λk D=>LZ<|BY.1 D)<|λk E=>LZ E
def DQ.cQ(h:DQ O H Y R l x)(n:Nat):DQ O H Y {R with value:=n} l (sC (sC (sC (sC x H 12<|lu n 0) H 13<|lu n 1) H 14<|lu n 2) H 15<|lu n 3):=by let⟨X,C,V,h,G⟩:=h;have E:=Qb x H 12 (lu n 0) (lu n 1) (lu n 2)<|lu n 3;exact DQ.aX G (h.cE E ((((h.row.set _).set _).set _).set _:) W W W h.gl) E (λk D=>LZ<|BY.1 D)<|λk E=>LZ E
def DX.nofb(h:DX O H Y R X C V l x)(D:∀p∈L,X.ownBlock=some p.1):∀p∈L++l,p.1≠H:=λp E e=>by
 rcases Xr.1 E with E|E
 .exact absurd ((Ty.az h.1.st<|D p E).aF<|e▸Ty.aB h.1.row) K3
 exact(h.2.1 p E).2<|LZ e
def DQ.frm(h:DQ O H Y R l x)(E:Ty x k 159)(hne:k≠H)(c:∀p∈l,p.1≠k)(U:Kb [k] x y):DQ O H Y R l y:=by
 let⟨X,C,V,h,Z,J⟩:=h;refine⟨X,C,V,h.kb U<|λj D Q=>?_,λp P=>⟨U.row (Z p P).1 λD=>c p P<|BY.1 D,(Z p P).2⟩,J⟩;rw[BY.1 D]at Q;have N:∀{b e size n:Nat}{v:VL}{I:List _},159≠e->x.ownsRow b e size v n I->v.ownBlock≠some k:=λhne G e=>hne<|E.aF<|Ty.az G e;rcases Q with e|e|e|e|e|e|e|⟨t,D,e⟩
 .omega
 .exact absurd (E.aF<|e▸Ty.aB h.wa.row) K3
 .exact N K3 h.st e
 .exact N K3 h.me e
 .exact N K3 h.wa.pu e
 .exact N K3 h.wa.sl e
 .exact N K3 h.wa.lg e
 let⟨q,P⟩:=h.wa.tm D;exact N K3 P e
end
def FJ(a b:Nat):cP 188 #[iI (a:Int),iI (b:Int)] w (rT (iI ((min a b:Nat):Int)) w):=by
 by_cases h:a<b
 .have e:min a b=a:=wq
  rw[e];clear e;go_enter func188,ntmps188;go_wp2;go_ret;exact⟨W,dO _ _⟩
 have e:min a b=b:=wq
 rw[e];clear e;go_enter func188,ntmps188;go_wp2;go_ret;exact⟨W,dO _ _⟩
def PhP(w:WD)(Cq9:X4):Nat->X4
 |0,x=>bW w x
 |_,x=>Cq9 x
def Rb{Cq9:X4}(D:∀x x',Cq9 x->bW x x'->Cq9 x')(k:Nat)(x x':WD)(h:PhP w Cq9 k x)(E:bW x x'):PhP w Cq9 k x':=by
 match k,h with
 |0,h=>exact(h).trans<|E.mono (h).size
 |_+1,h=>exact D x x' h E
def move_D{O H Y:Nat}{R:RS}{l:hZ}{x:WD}(f t v:Nat)(h:DQ O H Y R l x)(hn:R.w.pu.length<=900000000):cP 69 #[pt Y,wv f,wv t,wv v] x (Dp O H Y {R with w:=(fP f t v R.w).2} (.bool (fP f t v R.w).1) l x):=h.calls λE D=>ML f t v D hn
def Mt{R:RS}(J Z v:Nat){q:Nat×Nat}(g:Nat)(D:GoodR R)(b:Ry.w=R.w)(c:Ry.depth=R.depth)(U:Ry.depth≠16)(j:q.2<=70000)(I:g+100<=R.ac):GoodR (uT J Z v q g Ry (mB (ag Z Ry.w).2 (ag Z Ry.w).1).ae (ow J Z v Ry).2):=by
 let⟨E,h,_⟩:=Iq J Z v Ry;have d:=D.aS;have P:=D.pu;have Q:=D.sl;have f:=D.lg;rw[<-b]at P Q f;rw[<-c]at d;have G:Cd Ry.w:=by rw[b];exact D.bp
 refine⟨Jp<|qp G,By (mQ) j,In _,In _,In _,by show Ry.depth+1<=16;omega,E.bp G,?_,?_,?_⟩
 .show 50*(ow J Z v Ry).2.pu.length+g<=_;omega
 .show 100*(ow J Z v Ry).2.sl.length+g<=_;rw[E.sl];omega
 show(ow J Z v Ry).2.lg.length+g<=_;rw[E.lg];omega
variable {q:Nat}
def ff{x:WD}(h:bW x y){p:Addr}(C:x.cell? p=some v):y.cell? p=some v:=(Xc<|h.block _<|Yb _ _ C).trans C
def zA(L:s.tmps.getD t undef=.slice ad N E)(J:s.tmps.getD u undef=iI (a:Int))(H:s.tmps.getD q undef=iI ((a+b:Nat):Int))(Y:a+b<=N)(U:N<=E)(V:E<=9223372036854775807)(I:(ad=none/\E=0)\/∃g,ad=some ⟨g,0,none⟩)(D:∀r,PartOf (.slice ad N E) r a b->K (Wb s d r) x):Oper.wp prog ⟨some d,.slice 26 (.tmp t) (some<|.tmp u) (some<|.tmp q) none,ty,pos,af,gd⟩ s x K Q:=by
 have R:s.eval (.tmp t)=.slice ad N _:=L;have P:s.eval (.tmp u)=.int _ a:=J;have O:s.eval (.tmp q)=.int _ _:=H;rw[show((a+b:Nat):Int)=a+b by omega] at O H;rw[Xh] at L J H;rcases I with⟨rfl,X⟩|⟨g,rfl⟩
 .have C:E=a:=wq
  have G:b=0:=wq
  subst C G;have V:=D _ ⟨none,0,W,DO _,λh=>absurd W h⟩;clear D X;go_simp;exact V
 by_cases C:E=a
 .have V:=D (sL g b 0) ⟨_,0,W,wq,λh=>wq⟩;subst C;clear D;go_simp;rw[At wq,At wq,show((E:Int)+b).toNat - E=b by omega];exact V
 have V:=D (.slice _ b<|E - a) ⟨_,_,W,wq,λ_=>⟨g,N,_,W,W,Y⟩⟩;clear D;go_simp;rw[At wq,At wq,show((a:Int)+b).toNat - a=b by omega];exact V
def Fs{r:VL}{C:BA}(h:tG s t r)(G:(convert 26 9 r).run prog x=.ok (.string C) x)(D:K (Wb s d<|.string C) x):Oper.wp prog ⟨some d,.convert 26 9<|.tmp t,ty,pos,af,gd⟩ s x K Q:=by have e:s.eval (.tmp t)=r:=h;unfold Oper.wp;rw[show(execOp _ _).run _ x=.ok _ x by show((do pure (Next.value<|<-convert _ _ (s.eval<|.tmp t)):Sem Next)).run _ _=_;rw[e];exact zQ G];exact D
def st_eqK{a c:Int}{b:Bool}(h:tG s t<|iI a)(D:(a==c)=b)(C:K (Wb s d<|.bool b) x):Oper.wp prog ⟨some d,.binOp .eql 3 (.tmp t) (.const<|iI c) 3,ty,pos,af,gd⟩ s x K Q:=by go_simp;exact C
def xr{g t4 t5 G D J t9 sf v c:Nat}{C:BA}{f:Bool}(P:s.tmps.getD g undef=pt xb)(R:s.tmps.getD t1 undef=.string cd)(O:s.tmps.getD t2 undef=.string C)(H:s.tmps.getD t4 undef=wv Z)(I:s.tmps.getD t5 undef=wv sf)(L:s.tmps.getD G undef=wv v)(U:s.tmps.getD D undef=iI (gv:Int))(X:s.tmps.getD J undef=iI ((c+1:Nat):Int))(Y:s.tmps.getD t9 undef=.bool f)(V:K (Wb s d<|.agg #[pt xb,.string cd,.string C,.string ⟨#[]⟩,lu Z 0,lu Z 1,lu Z 2,lu Z 3,lu sf 0,lu sf 1,lu sf 2,lu sf 3,lu v 0,lu v 1,lu v 2,lu v 3,iI (gv:Int),iI ((c+1:Nat):Int),iI 0,iI 0,.bool f,.slice none 0 0,.slice none 0 0,.string ⟨#[]⟩]) x):Oper.wp prog ⟨some d,.build 159 #[(0,.tmp g),(1,.tmp t1),(2,.tmp t2),(4,.tmp t4),(5,.tmp t5),(6,.tmp G),(7,.tmp D),(8,.tmp J),(11,.tmp t9)],ty,pos,af,gd⟩ s x K Q:=by rw[Xh] at P R O H I L U X Y;unfold wv at H I L;go_simp;exact V
def Di{sf v G:Nat}{C:BA}{H:Bool}(h:s.tmps.getD t undef=.agg #[pt xb,.string cd,.string C,.string ⟨#[]⟩,lu Z 0,lu Z 1,lu Z 2,lu Z 3,lu sf 0,lu sf 1,lu sf 2,lu sf 3,lu v 0,lu v 1,lu v 2,lu v 3,iI (gv:Int),iI ((G+1:Nat):Int),iI 0,iI 0,.bool H,.slice none 0 0,.slice none 0 0,.string ⟨#[]⟩])(D:K (Wb s d<|pt x.heap.size)<|x.alloc<|.cells #[pt xb,.string cd,.string C,.string ⟨#[]⟩,lu Z 0,lu Z 1,lu Z 2,lu Z 3,lu sf 0,lu sf 1,lu sf 2,lu sf 3,lu v 0,lu v 1,lu v 2,lu v 3,iI (gv:Int),iI ((G+1:Nat):Int),iI 0,iI 0,.bool H,.slice none 0 0,.slice none 0 0,.string ⟨#[]⟩] 159):Oper.wp prog ⟨some d,.box 159<|.tmp t,ty,pos,af,gd⟩ s x K Q:=by rw[Xh] at h;go_simp;exact D
def PhG(O Y:Nat)(V:DV)(L9:List LogE)(tvs:Tn)(w:WD):Nat->X4
 |0,x=>bW w x
 |1,x=>Kb V.gv.ownBlock.toList w x
 |_,x=>∃v',x.ownsRow O 112 6 v' L9.length (qM L9 tvs)/\Fresh w V.gv v'/\Up V.gv.ownBlock.toList Y 2 v' w x
def RelG(Y:Nat):Nat->WD->X4:=λp x x'=>p=1->∃u,x'=x.setCell ⟨Y,2,none⟩ u
def NewG(O:Nat)(V:DV)(L9:List LogE)(tvs:Tn)(w:WD):Kp:=λp v x=>p≠0/\x.ownsRow O 112 6 v L9.length (qM L9 tvs)/\Fresh w V.gv v
section
variable {V:DV}
def Cn(h:PhG O Y V L9 tvs w k x)(C:k<=0):bW w x:=by
 cases(wq:k=0)
 exact h
def OG(h:PhG O Y V L9 tvs w k x)(C:k<=1):Kb V.gv.ownBlock.toList w x:=by
 match k,C,h with
 |0,_,h=>exact Kb.h h
 |1,_,h=>exact h
def VQ(C:Y<w.heap.size)(k:Nat)(x x':WD)(h:PhG O Y V L9 tvs w k x)(D:bW x x'):PhG O Y V L9 tvs w k x':=by
 match k,h with
 |0,h=>exact(h:bW w x).trans<|D.mono (h:bW w x).size
 |1,h=>exact(h:Kb V.gv.ownBlock.toList w x).below D
 |_+2,⟨v',h1,h2,h3⟩=>exact⟨v',dh h1 D,h2,Kb.up h3 D C⟩
def Vz(E:DW O Y P V w)(G:Y∉V.gv.ownBlock.toList)(I:p<2)(C:PhG O Y V L9 tvs w p x)(hrel:RelG Y p x x')(D:NewG O V L9 tvs w p v x):NewG O V L9 tvs w (p+1) v x':=by
 match p,I,C,hrel,D with
 |0,_,_,_,D=>exact absurd W D.1
 |1,_,C,hrel,D=>obtain⟨u,rfl⟩:=hrel W;exact⟨wq,fC D.2.1 (dS ((C:Kb V.gv.ownBlock.toList w x).row E.row G) D.2.1) _ _,D.2.2⟩
def Kb.cP(h:Kb S x x')(E:b<=x.heap.size)(D:∀k∈S,b<=k):Below b x x':=⟨h.os,h.tape,h.output,h.size,λi E=>h.block i wq (λC=>by have:=D i C;omega)⟩
end
def Kh{x:WD}{X:Vr}{C:BA}(h:tG s t<|pt b)(U:rowL x b 112 [lu n 0,lu n 1,lu n 2,lu n 3,.slice ad m c,.string C])(D:K (Wb s d<|.agg #[lu n 0,lu n 1,lu n 2,lu n 3,.slice ad m c,.string C]) x):Oper.wp prog ⟨some d,.load 112<|.tmp t,X,pos,af,gd⟩ s x K Q:=by have I:s.eval (.tmp t)=pt b:=h;have E:=U.cell (i:=0) W;have X:=U.cell (i:=1) W;have X:=U.cell (i:=2) W;have J:=U.cell (i:=3) W;have G:=U.cell (i:=4) W;have L:=U.cell (i:=5) W;go_simp;exact D
def log_R{O Y:Nat}{x:WD}(hn4:n<=4)(hn:R.w.lg.length<=900000000)(h:DQ O H Y R l x):cP 130 #[pt H,iI (n:Int)] x (Dp O H Y (Gf n R) (.tuple #[]) l x):=by
 let⟨tr,U⟩:=dP<|Gf n R;rw[<-U.aa];unfold Gf at U;have G:=cV h;have T:=cV<|dO O x;obtain⟨D,HL,HD⟩:∃D,Hd (pV R=D)/\Hd (D=pV R):=⟨_,W,W⟩
 clear h;go_enter func130,ntmps130;go_wp2_with fail
 refine(vx 300 wq G).mono ?_;rintro e y1⟨rfl,J,r⟩;obtain⟨R1,Z⟩:∃R',Hd (R'=dU 300 R):=⟨_,W⟩
 rw[<-Z.aa]at J U;replace G:=cV J;replace T:=cV<|T.trans r;replace HL:Hd (pV R1=D):=by rw[Z.aa,vb];exact HL
 clear J r Z;let⟨g8,_,_⟩:=G.aa.cell (o:=20)<|λ_ _=>W;obtain⟨R2,Z⟩:∃R',Hd (R'=QO R1):=⟨_,W⟩
 let⟨rd,a6⟩:=dP R1.aR;rw[<-a6.aa]at g8;go_upto_if 16 with fail;go_cut[] (λwx=>Hd (DQ O H Y R2 (l) wx)/\Hd (Below O x wx));case first=>
  cases rd
  .have he:R2=R1:=Z.aa.trans (iF (by rw[<-a6.aa];decide));rw[<-he]at G;clear a6 Z he;go_wp2;go_meet;case rel=>exact⟨G,T⟩
  have he:R2=fA R1:=Z.aa.trans<|At a6.symm;clear a6 Z;go_wp2_with fail
  refine(jh G G.ac).mono ?_;rintro e y⟨rfl,J,r⟩;rw[<-he]at J;replace G:=cV J;replace T:=cV<|T.trans r;clear J r he;go_wp2;go_meet;case rel=>exact⟨G,T⟩
 clear G T g8 a6;let⟨G,T⟩:=hcut;rw[<-Z.aa]at U;replace HL:Hd (pV R2=D):=by rw[Z.aa,hd_rd];exact HL
 clear Z;go_wp2_with fail
 refine(pB G).mono ?_;rintro e y3⟨rfl,J,r⟩;obtain⟨a,R3,Z⟩:∃a R',Hd (dA R2=(a,R')):=⟨_,_,W⟩
 rw[Z.aa]at J⊢;rw[Z.aa,dW]at U;replace G:=cV<|J.aW (iU<|cX a 0) (iU<|cX a 1) (iU<|cX a 2)<|iU<|cX a 3;replace T:=cV<|(T.trans r).trans<|(ai (dO _ y3)<|cin.wc a).mono J.hb.1;replace HL:Hd (pV R3=D):=by rw[show R3=(dA R2).2 by rw[Z.aa],Bt];exact HL
 clear J r Z;go_wp2_with fail
 refine(pB G).mono ?_;rintro e y4⟨rfl,J,r⟩;obtain⟨s,R4,Z⟩:∃a R',Hd (dA R3=(a,R')):=⟨_,_,W⟩
 rw[Z.aa]at J⊢;rw[Z.aa,dW]at U;replace G:=cV<|J.aW (iU<|cX s 0) (iU<|cX s 1) (iU<|cX s 2)<|iU<|cX s 3;replace T:=cV<|(T.trans r).trans<|(ai (dO _ y4)<|cin.wc s).mono J.hb.1;replace HL:Hd (pV R4=D):=by rw[show R4=(dA R3).2 by rw[Z.aa],Bt];exact HL
 clear J r Z;let⟨d9,e5,e3,e4,d8⟩:=G.aa.aJ;go_wp2_with fail
 refine(ij s 70000 K3 _).mono ?_;rintro e y5⟨rfl,r⟩;replace T:=cV<|T.trans<|r.mono G.hb.1;replace G:=cV<|G.below r;clear r;clear d9 e5 e3 e4 d8;have h7:=vH s;let⟨n7,f7⟩:=dP<|ec s 70000;rw[<-f7.aa]at h7 U⊢;go_wp2_with fail
 have hp:=vx (8*n7) wq G;rw[show((8*n7:Nat):Int)=8*(n7:Int) by omega]at hp;refine hp.mono ?_;rintro e y6⟨rfl,J,r⟩;obtain⟨R6,Z⟩:∃R',Hd (R'=dU (8*n7) R4):=⟨_,W⟩
 rw[<-Z.aa]at J U;replace G:=cV J;replace T:=cV<|T.trans r;replace HL:Hd (pV R6=D):=by rw[Z.aa,vb];exact HL
 clear J r Z hp f7 h7;let⟨d9,e5,e3,e4,d8⟩:=G.aa.aJ;let⟨vm,ze,p12,p13,p1f⟩:=G.aa.tail.aJ;go_wp2_with fail
 refine(tX a s G).mono ?_;rintro e y7⟨rfl,J,r⟩;have F:=Lu a s R6;have g4:=uC a s R6;obtain⟨⟨q1,q2⟩,R7,Z⟩:∃q R',Hd (dJ a s R6=(q,R')):=⟨_,_,W⟩
 rw[Z.aa]at J F g4⊢;rw[Z.aa,dW]at U;try dsimp only at J U F g4
 replace HL:Hd (pV R7=D):=by rw[show R7=(dJ a s R6).2 by rw[Z.aa],M8];exact HL
 simp only[rG];replace G:=cV J;replace T:=cV<|T.trans r;clear J r Z;clear d9 e5 e3 e4 d8 vm ze p12 p13 p1f;let⟨sf,e6⟩:=dP R7.ak;obtain⟨c4,c5,c6,c7⟩:cL y7 H 4 (iU<|cX sf 0)/\cL y7 H 5 (iU<|cX sf 1)/\cL y7 H 6 (iU<|cX sf 2)/\cL y7 H 7 (iU<|cX sf 3):=by rw[e6.aa];exact⟨(G.cell (o:=4)<|λ_ _=>W).1,(G.cell (o:=5)<|λ_ _=>W).1,(G.cell (o:=6)<|λ_ _=>W).1,(G.cell (o:=7)<|λ_ _=>W).1⟩
 have a5:=G.aa.hb.1;let⟨lb,f1⟩:=dP y7.heap.size;replace G:=cV<|G.tail.tail.box 112 [iU<|cX sf 0,iU<|cX sf 1,iU<|cX sf 2,iU<|cX sf 3,.slice none 0 0,.string ⟨#[]⟩];replace T:=cV<|T.trans<|(ai (dO _ y7)<|.cells #[iU<|cX sf 0,iU<|cX sf 1,iU<|cX sf 2,iU<|cX sf 3,.slice none 0 0,.string ⟨#[]⟩] 112).mono a5;have f2:O<=lb:=by rw[f1.aa];exact a5
 clear a5;go_wp2;rw[<-f1.aa]at G⊢;go_loopw[9] (λt9 wr=>∃(i:Nat)(ts:Tl)(R':RS)(ad:Gj)(cp:Nat)(L:hZ),i<=n/\t9=iI (i:Int)/\Hd (nR (n-i) ts R'=nR n [] R7)/\Hd (ts.length=i)/\Hd (pV R'=pV R7/\R'.mem=R7.mem/\(R'.ao=0->R7.ao=0))/\Hd (Tps O (.slice ad i cp) ts L)/\Hd (DQ O H Y R' ((lb,112,[iU<|cX sf 0,iU<|cX sf 1,iU<|cX sf 2,iU<|cX sf 3,.slice ad i cp,.string ⟨#[]⟩])::(L++l)) wr)/\Hd (Below O x wr)) (λt9 _=>n-nI t9);case atStart=>exact⟨0,[],R7,none,0,[],In _,W,W,W,⟨W,W,id⟩,Tps.nil O,G,T⟩
 clear G T c4 c5 c6 c7;obtain⟨i,ts,R',ad,cp,L,hi,rfl,b9,f8,a1,a7,G,T⟩:=hrel;by_cases hlt:i<n;case pos=>
  have hd:=dN i n;go_wp2_with fail
  refine(pB G).mono ?_;rintro e y⟨rfl,J,r⟩;obtain⟨t,R2,Z⟩:∃a R2,Hd (dA R'=(a,R2)):=⟨_,_,W⟩
  rw[Z.aa]at J⊢;have f4:Hd (nR (n-(i+1)) (ts++[t]) R2=nR n [] R7):=by show _=_;rw[<-b9.aa,show n-i=n-(i+1)+1 by omega,nR,Z.aa]
  have g0:Hd (pV R2=pV R7/\R2.mem=R7.mem/\(R2.ao=0->R7.ao=0)):=by rw[show R2=(dA R').2 by rw[Z.aa]];exact⟨(Bt R').trans a1.1,(yC R').trans a1.2.1,λe=>a1.2.2<|Cs e⟩
  have a5:=J.hb.1;have h2:DQ O H Y R2 ((lb,112,[iU<|cX sf 0,iU<|cX sf 1,iU<|cX sf 2,iU<|cX sf 3,.slice ad i cp,.string ⟨#[]⟩])::(L++l)) ((y.alloc<|cin.wc t).alloc<|cin.wc t):=(J.below<|ai (dO _ _)<|cin.wc t).below<|ai (dO _ _)<|cin.wc t;have g6:(lb,112,[iU<|cX sf 0,iU<|cX sf 1,iU<|cX sf 2,iU<|cX sf 3,.slice ad i cp,.string ⟨#[]⟩])::(L++l) |>.Perm (L++(lb,112,[iU<|cX sf 0,iU<|cX sf 1,iU<|cX sf 2,iU<|cX sf 3,.slice ad i cp,.string ⟨#[]⟩])::l):=X6.symm
  have h3:=h2.bh g6;let⟨i0,c8,b8,c9,c0⟩:=YI sy;have e8:=f8.aa;let⟨v',z,a3,d5,b1,d4⟩:=fh (P:=prog) _ O 110 110 24 i0 (.agg #[iU 0,iU 0,iU 0,iU 0]) 4 32 N0 c8 b8 c9 c0 W K3 (.slice ad i cp) ts.length (fj ts) (h3.tps a7) ⟨(y.alloc<|cin.wc t).heap.size,0,none⟩ 1 1 [iU<|cX t 0,iU<|cX t 1,iU<|cX t 2,iU<|cX t 3] W (fJ (y.alloc<|cin.wc t) #[iU<|cX t 0,iU<|cX t 1,iU<|cX t 2,iU<|cX t 3] 24) (by intro u hu;simp at hu;rcases hu with rfl|rfl|rfl|rfl<;>rfl) (by unfold maxLen;omega) wq N3;rw[show(y.alloc<|cin.wc t).heap.size=y.heap.size+1 by simp]at a3;have b0:Wds z O v' (ts++[t]):=by unfold Wds;rw[lB,Xm];exact d5
  let⟨L',a4,h4⟩:=h3.cS a7 b1 b0 d4;have h5:=h4.bh X6;obtain⟨f9,e7,rfl⟩:=dt b0;have k1:=(J.below<|ai (dO _ _)<|cin.wc t).row.cell (i:=4) W;have k2:=h5.row.cell (i:=4) W;have k3:=World.rowIs.frozen h5.row 4;have HBN:Hd (Below O x z):=(((T.trans r).trans<|(ai (dO _ y)<|cin.wc t).mono a5).trans<|(ai (dO _<|y.alloc<|cin.wc t)<|cin.wc t).mono N3).grown b1 h3.hb.1<|λk hk=>((h3.tps a7).lt k hk).1;have HN:=cV<|h5.bt (o:=4) (v:=.slice f9 (ts++[t]).length e7);have a9:(ts++[t]).length=i+1:=by rw[Xm,e8];rfl
  have g3:=cV a9;replace a4:=cV a4;rw[a9]at HN a3 a4;have g7:=cV a3;clear J h2 h3 h4 h5 g6 c8 b8 c9 c0 a3 d5 b1 d4 b0 e8 a9 Z b9 a1 a7 G T r f8 a5;go_wp2_with(at_builtin;refine Lib.wpList_append_run _ W _ _ _ _ W _ _ W W _ _ g7 ?_);refine⟨⟨i+1,ts++[t],R2,f9,e7,L',wq,N1,f4,g3,g0,a4,HN,HBN.setCell f2 _⟩,by simp[nI];omega⟩
 obtain rfl:i=n:=wq
 have hd:=dG i i;replace U:Hd (tr=DH (q1,q2) ts R'):=U.aa.trans (by rw[<-b9.aa,Nat.sub_self];rfl);clear b9;let⟨c19,_,_⟩:=G.aa.cell (o:=19)<|λ_ _=>W;by_cases h0:R'.ao=0;case neg=>
  have ht:tr=R':=U.aa.trans<|iF h0;have d0:((R'.ao:Int)==0)=false:=by rw[Xb];omega
  subst ht;have HE:Hd (DQ O H Y tr l wr):=by let⟨X,C,V,h,hl,hn⟩:=G.aa.tail;rw[XP,X5]at hn;exact⟨X,C,V,h,λp hp=>hl p<|Xn _ hp,hn.2.1⟩
  clear U G;go_wp2;refine bI W W ⟨W,HE,T⟩
 let⟨F,hq⟩:=F<|a1.2.2 h0;have hsf:R'.ak=sf:=by have:=Xl RS.ak a1.1;rw[e6.aa];exact this
 have hwl:R'.w.lg.length<=900000000:=by have:=Xl RS.w a1.1;replace this:R'.w=R7.w:=this;rw[this,hdw<|HL.trans HD];exact hn
 rw[<-a1.aa.2.1]at F;let⟨I,f3⟩:=dP<|dI<|dM R'.mem q1 q2;replace U:Hd (tr={R' with w:={R'.w with lg:=R'.w.lg++[⟨sf,ts,I⟩]}}):=U.aa.trans ((At h0).trans<|by rw[f3.aa,hsf]);have d0:((R'.ao:Int)==0)=true:=by rw[h0];rfl
 let⟨ad9,N,E,c22,F,hcc,hcm,hc⟩:=G.aa.cut (a:=q1) (b:=q2) F;rw[<-f3.aa]at hc;have k1:=G.aa.row.cell (i:=5) W;have k2:=World.rowIs.frozen G.row 5;go_upto_region 14 with fail
 go_cut[] (λwx=>wx=wr.setCell ⟨lb,5,none⟩ (.string I));case first=>
  clear G T a7;rcases hc with⟨rfl,rfl,rfl,rfl,rfl,hc⟩|⟨g,rfl,⟨rfl,rfl,hc⟩|⟨hca,hc⟩⟩;all_goals
   go_wp2;go_meet;case rel=>rfl
 clear hc c22 k1 k2 F hcc hcm;let⟨w9,b6⟩:=dP<|wr.setCell ⟨lb,5,none⟩<|.string I;obtain rfl:w9=wc:=b6.aa.trans hcut.symm;have h9:DQ O H Y R' ((lb,112,[iU<|cX sf 0,iU<|cX sf 1,iU<|cX sf 2,iU<|cX sf 3,.slice ad i cp,.string I])::(L++l)) w9:=by rw[b6.aa];exact G.bt (o:=5) (v:=.string I)
 have hb9:Below O x w9:=by rw[b6.aa];exact T.setCell f2 _
 clear G T b6 hcut;let⟨l1,hw,g5⟩:=h9.world;have e0:=(h9.cell (o:=0)<|λ_ _=>W).1;let⟨V,A,f0,g1,d6⟩:=hw;have HP:Hd ((∀p∈L++(l1++((lb,112,[iU<|cX sf 0,iU<|cX sf 1,iU<|cX sf 2,iU<|cX sf 3,.slice ad i cp,.string I])::l)),rowL w9 p.1 p.2.1 p.2.2/\¬vu Y V p.1)/\((L++(l1++((lb,112,[iU<|cX sf 0,iU<|cX sf 1,iU<|cX sf 2,iU<|cX sf 3,.slice ad i cp,.string I])::l))).map (·.1)).Nodup):=by
  have hp:(l1++((lb,112,[iU<|cX sf 0,iU<|cX sf 1,iU<|cX sf 2,iU<|cX sf 3,.slice ad i cp,.string I])::(L++l))).Perm (L++(l1++((lb,112,[iU<|cX sf 0,iU<|cX sf 1,iU<|cX sf 2,iU<|cX sf 3,.slice ad i cp,.string I])::l))):=by refine List.Perm.trans (List.Perm.append_left l1 (X6 (a:=(lb,112,[iU<|cX sf 0,iU<|cX sf 1,iU<|cX sf 2,iU<|cX sf 3,.slice ad i cp,.string I])) (l₁:=L) (l₂:=l)).symm) ?_;rw[<-XL,<-XL];exact List.Perm.append_right _ List.perm_append_comm
  exact⟨λp hm=>f0 p<|hp.mem_iff.2 hm,(hp.map _).nodup_iff.1 g1⟩
 have a2:Y∉V.gv.ownBlock.toList:=λhm=>absurd ((Ty.az A.lg<|by simpa using hm).aF<|Ty.aB A.row) K3;have a8:∀k v,cL w9 H k v->∀y,Kb V.gv.ownBlock.toList w9 y->cL y H k v:=λk v hc y hk=>(Xc<|hk.block H (Yb _ _ hc) (λhm=>by let⟨X,C,V9,hA,_⟩:=h9;exact absurd ((Ty.az A.lg<|by simpa using hm).aF<|Ty.aB hA.row) K3)).trans hc;have d3:=h9.row;have d1:∀u∈wI ⟨sf,ts,I⟩ (.slice ad i cp),u.oneCell'=true:=by intro u hu;unfold wI at hu;simp at hu;rcases hu with rfl|rfl|rfl|rfl|rfl|rfl<;>rfl
 clear h9 f0 g1;go_wp2;refine dy (PhG O Y V (R'.w.lg++[⟨sf,ts,I⟩]) (V.tv++[.slice ad i cp]) w9) (RelG Y) [(0,(pt H)),(8,(pt lb))] [(some 69,.v<|pt H),(some 70,.v<|pt H),(some 71,.v<|pt H),(some 72,.v<|pt Y),(some 73,.v<|pt H),(some 74,.v<|pt H),(some 75,.v<|pt H),(some 76,.v<|pt Y),(some 77,.v<|pt Y),(some 78,.v<|pq Y 2),(some 79,.v V.gv),(some 80,.v<|.agg #[iU<|cX sf 0,iU<|cX sf 1,iU<|cX sf 2,iU<|cX sf 3,.slice ad i cp,.string I]),(some 81,.l<|Wx w9 sf I<|.slice ad i cp),(some 82,.l<|NewG O V (R'.w.lg++[⟨sf,ts,I⟩]) (V.tv++[.slice ad i cp]) w9),(some 83,.v<|pt Y),(some 84,.v<|pq Y 2),(none,.v undef)] [13,16] [3,7,10,11,12] ((dO _ _).drew) (VQ A.row.lt)
   ⟨(@λs x f5 hl K f hv hK=>by
    have hx:bW w9 x:=f;let⟨q,e1,e2⟩:=hl 81 _ W;let⟨hq,b7⟩:=e2 wq;let⟨i0,c8,b8,c9,c0⟩:=YI wO;refine mq O 112 i0 _ 6 72 N0 c8 b8 c9 c0 W K3 V.gv R'.w.lg.length (qM R'.w.lg V.tv) (hv W) (dh A.lg hx) ⟨q,0,none⟩ 1 1 (wI ⟨sf,ts,I⟩<|.slice ad i cp) e1 W b7 d1 (by unfold maxLen;omega) wq (By d6 hx.size) ?_;intro v' y ho b1 hfr;refine hK v' y ((Kb.h (S:=V.gv.ownBlock.toList) hx).grown b1<|λk hk=>LZ (by rw[hk];simp)) (λh=>absurd h wq) nn1 ⟨wq,?_,hfr.pre hx⟩;rw[EI A.tl,Xm];exact ho),(@λs x f5 hl K f hv hK=>by
    have hx:Kb V.gv.ownBlock.toList w9 x:=f;obtain⟨-,J,h2⟩:=hl 82 _ W;have d7:=hx.row A.row a2;let⟨ad,cp,e⟩:=dt J;exact kY (u:=V.gv) (λ_=>N0) ⟨_,_,_,e⟩ (hv W) W (rowL.cell (i:=2) d7 W) (d7.frozen 2)<|hK _ _ ⟨_,fC J (dS d7 J) _ _,h2,Up.bM _ hx a2 A.row.lt⟩ (λ_=>⟨_,W⟩) (λ_=>W) W),AF⟩
   ⟨(λa0 f hv hK=>by
    have hx:Kb V.gv.ownBlock.toList w9 _:=OG f<|a0 1 16;exact dm (v:=(pt Y)) (hv W) (a8 0 _ e0 _ hx)<|kx hK),(λa0 f hv hK=>by
    have hx:Kb V.gv.ownBlock.toList w9 _:=OG f<|a0 1 16;exact dm (v:=(pt Y)) (hv W) (a8 0 _ e0 _ hx)<|kx hK),(λa0 f hv hK=>by
    have hx:bW w9 _:=Cn f<|a0 0 13;exact dm (v:=V.gv) (hv W) ((A.row.below hx).cell (i:=2) W)<|kx hK),(λa0 f hv hK=>by
    have hx:bW w9 _:=Cn f<|a0 0 13;exact Kh (hv W) (d3.below hx)<|kx hK),(@λk s x hk hlo f5 hl K a0 f hv hK=>by
    have hx:bW w9 x:=Cn f<|a0 0 13;refine AB (hv W)<|hK _ _ (ai (dO _ x) _) nn1 ⟨x.heap.size,W,λ_=>⟨K2,?_⟩⟩;exact fJ x #[iU<|cX sf 0,iU<|cX sf 1,iU<|cX sf 2,iU<|cX sf 3,.slice ad i cp,.string I] 112),AF⟩
   (λi d T' he p v x x' hne hp f hrel hT=>by
    have hm:=Xe he;simp only[IF,XV,reduceCtorEq,Zb,Za,XI,Xk,En.l.injEq]at hm;rcases hm with⟨-,rfl⟩|⟨-,rfl⟩
    .obtain⟨q,e1,e2⟩:=hT;exact⟨q,e1,λh=>wq⟩
    .exact Vz A a2 hp f hrel hT) (λi d T' he p v x x' f hb hT=>by
    have hm:=Xe he;simp only[IF,XV,reduceCtorEq,Zb,Za,XI,Xk,En.l.injEq]at hm;rcases hm with⟨-,rfl⟩|⟨-,rfl⟩
    .obtain⟨q,e1,e2⟩:=hT;exact⟨q,e1,λh=>⟨Xg (e2 h).1 hb.size,λj u hu=>(hb.cell (by rw[nD];exact(e2 h).1)).trans<|(e2 h).2 j u hu⟩⟩
    exact⟨hT.1,dh hT.2.1 hb,hT.2.2⟩) ?_
 intro gg z hz _;obtain⟨v',u1,u2,u3⟩:PhG O Y V (R'.w.lg++[⟨sf,ts,I⟩]) (V.tv++[.slice ad i cp]) w9 2 z:=hz;have f6:rowL z Y 146 [V.pv,V.lv,v']:=(u3.row A.row).congr λj hj=>by rcases(show j=0\/j=1\/j=2 by simp at hj;omega)with rfl|rfl|rfl<;>rfl
 have e9:=WQ.lg1 (e:=⟨sf,ts,I⟩) (l:=l1++((lb,112,[iU<|cX sf 0,iU<|cX sf 1,iU<|cX sf 2,iU<|cX sf 3,.slice ad i cp,.string I])::l)) A HP d6 a7 u3.kb f6 u1 u2;have HE:Hd (DQ O H Y tr l z):=by rw[U.aa];exact(g5 _ z e9 u3.kb.size).tail
 have HBZ:Hd (Below O x z):=hb9.trans<|u3.kb.cP d6 (λk hm=>by
  rcases IF.1 hm with rfl|hm
  .exact A.hb
  exact(A.lg.lt k<|by simpa using hm).1)
 clear hz u1 u2 u3 f6 e9 A a2 d1 d3 a8 g5 e0 HP;simp only[n8,sx9];go_wp2;refine bI W W ⟨W,HE,HBZ⟩
def po:Nat->(Tn->Prop)->Prop
 |0,P=>P []
 |n+1,P=>∀v,po n λl=>P<|v::l
theorem yI:∀(n:Nat){P:Tn->Prop},po n P->∀l:Tn,l.length=n->P l
 |0,P,h,l,hl=>by rwa[Yo hl]
 |n+1,P,h,[],hl=>by cases hl
 |n+1,P,h,v::l,hl=>yI n (h v) l K9
def Frm(h:Tn)(n:Nat)(a:Act):=∃l:Tn,a=⟨(h++l).toArray,[]⟩/\l.length=n
def Frm.op{h:Tn}{a:Act}{P:Act->Prop}(A:Frm h n a)(k:po n λl=>P ⟨(h++l).toArray,[]⟩):P a:=by obtain⟨l,rfl,C⟩:=A;grind[yI]
def WT:Nat->Code->Code
 |n+1,.seq _ b=>WT n b
 |_,c=>c
def pW(run:RS->RS)(d:Nat):=d<16->∀(b gb xb:Nat)(G:RS)(L:hZ)(z:WD),DQ b gb xb G L z->GoodR G->G.depth=d+1->cP 71 #[pt gb] z (Dp b gb xb (run G) (.tuple #[]) L z)
structure Cb(R Ry:RS)(q1 q2 o1 o2 gv:Nat):Prop where
 w:Ry.w=R.w
 aS:Ry.depth=R.depth
 d16:Ry.depth≠16
 gv:gv<=Ry.ac
 ac:Ry.ac+100<=R.ac
 fq:q1+q2<=Ry.mem.length
 q2:q2<=70000
 q1:q1<=70000
 fo:o1+o2<=Ry.mem.length
def w_pay0{Q:Ending->X4}{K:RS->RS}(n:Nat)(hn:n<=10000000)(I:Hd<|tr=fK (dU n R) K)(h:Hd<|Sx O H Y x R R l y)(k:∀D C,Hd (tr=K D)->Hd (Sx O H Y x (dU n R) D l C)->Q AG C):cP 123 #[pt H,iI (n:Int)] y Q:=by refine(vx n hn h.aa.q).mono ?_;rintro e C⟨rfl,E,G⟩;exact k _ C I ⟨E,h.aa.b.trans G,Sm.refl _⟩
def Vn{E:RS}{Q:Ending->X4}(V:Hd<|(a,E)=du (dA R) λa S=>(a,S))(h:Hd<|Sx O H Y x R0 R (bx b n::l) y)(Z:O<=b)(k:∀C,(∃X L P a3,cL C b 0 X/\cL C b 1 L/\cL C b 2 P/\cL C b 3 a3/\∀i,C.frozen? ⟨b,i,none⟩=false)->Hd (Sx O H Y x R0 E (bx b a::l)<|lp C b a)->Q (.returned<|wv a) C):cP 124 #[pt H] y Q:=by let⟨J,G⟩:=Xi V;refine(pB h.aa.q).mono ?_;rintro e C⟨rfl,D,U⟩;rw[<-G]at D;rw[<-J];let⟨X,c1,c2,c3,I⟩:=Sx.cs 0 b n ⟨D,dO _ _,Sm.refl _⟩ W;exact k C ⟨_,_,_,_,X,c1,c2,c3,I⟩ ⟨D.store,(h.aa.b.trans U).trans<|EQ Z,h.aa.s.trans<|by grind[ee]⟩
variable {sl:List Slt}
structure SnD where
 st:Nat
 ac:Nat
 aa:BA
 lg:List LogE
 er:Int
 pu:List Pur
 sl:List Slt
def EK(O hb:Nat)(rs:List Rs)(S:SnD)(x:WD)(e:Ending)(y:WD):=∃pv lv gv tv,e=.returned (.tuple #[iy S.st S.ac S.aa gv,.int .i64 S.er])/\Sep O (iK hb S.pu S.sl pv lv::rs) y/\Below O x y/\Low y 0 gv tv S.lg
structure SdI(b1 Y U gs:Nat)(ot:BA)(V:DV)(P:RW)(L:VL)(l:List Slt)(y1 x:WD):Prop where
 row:rowL x Y 146 [V.pv,V.lv,dL]
 bz:rowL x U 38 [.int .u8 0,.int .i64 (gs:Int),.string ot,V.gv]
 pu:x.ownsRow b1 150 9 V.pv P.pu.length (P.pu.flatMap qX)
 sl:x.ownsRow b1 152 13 V.lv P.sl.length (P.sl.flatMap oj)
 lo:Low x 0 V.gv V.tv P.lg
 aD:x.ownsRow b1 152 13 L l.length (l.flatMap oj)
 ne:∀k,L.ownBlock=some k->V.lv.ownBlock≠some k
 bel:Below b1 y1 x
 hb:b1<=Y/\b1<=U/\b1<=y1.heap.size
def rowL.bH{x:WD}{T:Nat}{l:Tn}(h:rowL x b T l)(hne:b≠g)(v:VL):rowL (x.setCell ⟨g,o,none⟩ v) b T l:=World.rowIs.setOther h hne v
def Low.kbt{x:WD}{G:VL}{L:List LogE}(h:Low x 0 G tv L)(H:Kb S x y)(E:∀k∈S,∀T,Ty x k T->T≠112/\T≠24):Low y 0 G tv L:=⟨h.1,H.aD h.2.1 λk hb C=>(E k C _<|Ty.az h.2.1 hb).1 W,λi l t G D=>H.aD (h.2.2 i l t G D) λk hb C=>(E k C _<|Ty.az (h.2.2 i l t G D) hb).2 W⟩
section
variable {V:DV}{L:VL}{l:List Slt}
def SdI.cC(h:SdI b1 Y U gs ot V P L l y1 x)(s:Slt)(c:l.length<=1000000000):∃I y,(Builtin.append_ #[144,144] 144 #[L,sL x.heap.size 1 1]).run prog (x.alloc<|.cells (oj s).toArray 152)=.ok I y/\SdI b1 Y U gs ot V P I (l++[s]) y1 y:=by
 have C:Below _ x (x.alloc<|.cells (oj s).toArray 152):=ai (dO _ x) _;let⟨Q,m,i,z,q,n,c,X,d⟩:=We;have E:=By h.hb.2.2 h.bel.size;let⟨I,y,t,r,r3,p⟩:=fh _ b1 144 144 152 i z 13 _ Q q n c X d m L _ _ (dh h.aD C) ⟨x.heap.size,0,none⟩ 1 1 (oj s) W (λj u A=>by rw[show(⟨x.heap.size,0,none⟩:Addr).add j=⟨x.heap.size,j,none⟩ by simp[Addr.add,qag]];exact(rowL.al x (oj s) _).cell A) (IQ s) (by grind[maxLen]) wq<|By E C.size;have R:=iM r3;have c:=(Kb.h C).trans R λi q=>LZ q;have Z:∀k∈L.ownBlock.toList,Ty x k 152:=λk H=>Ty.az h.aD K9;have D:∀{T k},Ty x k T->T≠152->k∉L.ownBlock.toList:=λQ J H=>J<|Q.aF<|Z _ H;refine⟨I,y,t,c.row h.row<|D (Ty.aB h.row) K3,c.row h.bz<|D (Ty.aB h.bz) K3,c.aD h.pu λk hb=>D (Ty.az h.pu hb) K3,c.aD h.sl λk hb H=>h.ne k K9 hb,h.lo.kbt c λk H T q=>?_,?_,λk G f=>?_,h.bel.trans<|c.bel (λk H=>(h.aD.lt k K9).1) E,h.hb⟩
 .grind
 .grind
 rcases p with e|e
 .exact h.ne k (e▸G) f
 have F:=e k G;have K:=(h.sl.lt k f).2;have N:=C.size;omega
end
def KO{b1 rb Y U gs:Nat}{ot:BA}{V:DV}{P:RW}{S:SnD}{x y1:WD}(HS:Hd<|S=⟨0,gs,ot,P.lg,0,P.pu,P.sl.filter λs=> !s.br⟩)(C:Hd<|SdI b1 Y U gs ot V P dL [] y1 y)(J:Hd<|Sep O (iK hb pu sl pv lv::rs) x)(p:Hd<|bW x y1)(aA:b1=y1.heap.size)(HR:Hd<|rowL y1 rb 38 [iB 0,iI 0,.string ⟨#[]⟩,dL]/\x.heap.size<=rb)(hsl:P.sl.length<=1000000000){a:Act}(A:Frm [pt hb,u1,u2,u3,pt rb,iI 0,pt Y,u7,u8,u9,pt U] 110 a):Code.wp prog (WT 12<|f41.body.getD .skip) (bodyPost prog f41<|EK O hb rs S x) a y:=by
 apply A.op;simp only[po,XN,XG];clear A;intros;conv=>arg 2;whnf
 let⟨a5,p5,e5⟩:=dt C.sl;let⟨N,HN⟩:=dP P.sl.length;rw[<-HN.aa]at hsl e5;go_wp2;go_loopw[11,12] (λt11 t wr=>∃i:Nat,i<=N/\t=iI (i:Int)/\Hd (SdI b1 Y U gs ot V P t11 ((P.sl.take i).filter λs=> !s.br) y1 wr)) (λ_ t _=>N-nI t);case atStart=>exact⟨0,In _,W,C⟩
 clear C;obtain⟨i,hi,rfl,C⟩:=hrel;have r1:=rowL.cell (i:=1) C.row W;rw[e5]at r1;by_cases hlt:i<N;case neg=>
  have hd:=dG i N;rw[XA (by rw[<-HN.aa];omega)]at C;let⟨aL,pL,eL⟩:=dt C.aD;let⟨m,q⟩:=dP<|(P.sl.filter λs=> !s.br).length;rw[<-q.aa]at eL;let⟨a6,p6,e6⟩:=dt C.pu;let⟨n6,HN6⟩:=dP P.pu.length;rw[<-HN6.aa]at e6;let⟨a4,p4,e4⟩:=dt C.lo.2.1;let⟨n4,HN4⟩:=dP P.lg.length;rw[<-HN4.aa]at e4;have c:=p.aa.trans<|C.bel.mono<|aA▸p.size;have H:=(J.below c).hd;have G:=HR.aa.1.below<|aA▸C.bel;have hrl:=World.rowIs.lt HR.1;have hhl:hb<x.heap.size:=World.rowIs.lt J.hd.row;have hbb:=C.aa.hb;have hx1:=p.aa.size;have a3:=HR.aa.2;have n1:Y≠U:=λe=>absurd ((Ty.aB C.row).aF<|e▸Ty.aB C.bz) K3;have n2:hb≠Y:=wq
  have n3:hb≠U:=wq
  have E:hb≠rb:=wq
  have n5:rb≠Y:=wq
  have n6':rb≠U:=wq
  let⟨Yq9,d⟩:=dP<|gB ((((wr.setCell ⟨Y,1,none⟩ u11).setCell ⟨hb,0,none⟩ V.pv).setCell ⟨hb,1,none⟩ u11).setCell ⟨hb,2,none⟩ dL) rb 0 gs ot V.gv;have hk:Kb [Y,hb,rb] wr Yq9:=by rw[d.aa];exact jE (((((Kb.refl [Y,hb,rb] wr).setCell AI _).setCell AI _).setCell AI _).setCell AI _) AI
  have K:Kb [hb] x Yq9:=by rw[d.aa];exact jE (((((Kb.h (S:=[hb]) c).setCell (A4 (by show _<=Y;omega)) _).setCell AI _).setCell AI _).setCell AI _)<|A4 a3
  have F:∀k∈[Y,hb,rb],∀T,Ty wr k T->T=146\/T=148\/T=38:=λk D T r=>by
   simp only[IF,Xk,XI]at D;rcases D with rfl|rfl|rfl
   .exact LZ (r.aF<|Ty.aB C.row)
   .exact A4 (LZ<|r.aF<|Ty.aB H.row)
   exact A4<|A4<|r.aF<|Ty.aB G
  have R:∀{b e s n:Nat}{v:VL}{xs:List _},e≠146/\e≠148/\e≠38->wr.ownsRow b e s v n xs->Yq9.ownsRow b e s v n xs:=λQ ho=>hk.aD ho λk hb D=>by
   rcases F k D _ (Ty.az ho hb)with h|h|h
   .exact Q.1 h
   .exact Q.2.1 h
   exact Q.2.2 h
  have HE:Hd (EK O hb rs S x (.returned<|.tuple #[iy 0 gs ot V.gv,iI 0]) Yq9):=by
   rw[HS.aa];refine⟨_,u11,_,_,W,J.kb (S:=[hb]) (r':=iK hb P.pu (P.sl.filter λs=> !s.br) _ u11) ⟨?_,fO (R K3 C.pu)<|In _,fO (R K3 C.aD)<|In _⟩ K (λk D=>LZ<|BY.1 D) λk D=>?_,K.bel (λk D=>by rw[BY.1 D];exact J.ge<|LZ W) J.s,C.lo.kbt hk λk D T r=>?_⟩
   .have h9:rowL ((((wr.setCell ⟨Y,1,_⟩ u11).setCell ⟨hb,0,_⟩ _).setCell ⟨hb,1,_⟩ u11).setCell ⟨hb,2,_⟩ dL) hb 148 [V.pv,u11,dL]:=(rowL.set (rowL.set (rowL.set (rowL.bH H.row n2 _) _) u11) dL:)
    rw[d.aa];exact(((h9.bH E _).bH E _).bH E _).bH E _
   .rcases D with D|D|D
    .exact LZ (LZ D)
    .exact A4 (by have:=(C.pu.lt k D).1;omega)
    exact A4 (by have:=(C.aD.lt k D).1;omega)
   rcases F k D T r with rfl|rfl|rfl<;>decide
  have a2:Hd (cL Yq9 rb 0 (iB 0)/\cL Yq9 rb 1 (iI (gs:Int))/\cL Yq9 rb 2 (.string ot)/\cL Yq9 rb 3 V.gv):=by have h9:rowL ((((wr.setCell ⟨Y,1,_⟩ u11).setCell ⟨hb,0,_⟩ V.pv).setCell ⟨hb,1,_⟩ u11).setCell ⟨hb,2,_⟩ dL) rb 38 [iB 0,iI 0,.string ⟨#[]⟩,dL]:=(((rowL.bH G n5 _).bH E.symm _).bH E.symm _).bH E.symm _;have h8:=rowL.set (o:=3) (rowL.set (o:=2) (rowL.set (o:=1) (rowL.set (o:=0) h9<|iB ((0:Nat):Int))<|iI (gs:Int))<|.string ot) V.gv;rw[d.aa];exact⟨rowL.cell (i:=0) h8 W,rowL.cell (i:=1) h8 W,rowL.cell (i:=2) h8 W,rowL.cell (i:=3) h8 W⟩
  have w0:=rowL.cell (i:=0) C.row W;have w2:=rowL.cell (i:=2) C.row W;have wf:=World.rowIs.frozen C.row;have h0:=rowL.cell (i:=0) H.row W;have h1:=rowL.cell (i:=1) H.row W;have h2:=rowL.cell (i:=2) H.row W;have hf:=World.rowIs.frozen H.row;have t0:=rowL.cell (i:=0) C.bz W;have t1:=rowL.cell (i:=1) C.bz W;have t2:=rowL.cell (i:=2) C.bz W;have t3:=rowL.cell (i:=3) C.bz W;have q0:=rowL.cell (i:=0) G W;have q1:=rowL.cell (i:=1) G W;have q2:=rowL.cell (i:=2) G W;have q3:=rowL.cell (i:=3) G W;have qf:=World.rowIs.frozen G;have m1:=n1.symm;have m2:=n2.symm;have m3:=n3.symm;have m4:=E.symm;have m5:=n5.symm;have m6:=n6'.symm;unfold dL at w2 h2 q3 d;rw[e6]at w0 d;rw[e4]at t3 d HE a2;rw[eL]at d;clear R F hk K H G c C HS hbb hx1 a3 hrl hhl e5 J HR p;subst eL;go_wp2;let⟨k0,k1,k2,k3⟩:=a2.aa;change bodyPost _ _ _ _ _ (gB ((((wr.setCell ⟨Y,1,none⟩<|.slice aL m pL).setCell ⟨hb,0,none⟩<|.slice a6 n6 p6).setCell ⟨hb,1,none⟩<|.slice aL m pL).setCell ⟨hb,2,none⟩<|.slice none 0 0) rb 0 gs ot<|.slice a4 n4 p4);rw[<-d.aa];refine sp (by simp[results,results41,go_sem,k0,k1,k2,k3]) W HE
 have hd:=dN i N;have z:i<P.sl.length:=by rw[<-HN.aa];exact hlt
 obtain⟨s,a1⟩:∃s,Hd (s=P.sl[i]):=⟨P.sl[i],cV W⟩
 have Z:Hd (P.sl.take (i+1)=P.sl.take i++[s]):=by show P.sl.take (i+1)=_;rw[Yy,iN z,a1.aa];rfl
 have a0:=C.aa.sl;rw[e5]at a0;obtain⟨Q,g5,rfl,hg5,a8, -⟩:=fH (fO a0<|In _) i z;have a7:∀j u,j<13->(oj s)[j]?=some u->cL wr g5 (i*13+j) u:=λj u hj hu=>a8 j u hj ((oW (f:=oj) (λ_=>W) _ i z j hj).trans (by rw[<-a1.aa];exact hu));clear a8 a0 Q hg5 a1 z;let⟨sa,sk,X,sb⟩:=s;have s0a:=AE a7;simp only[A3,A0,oj,wl,XN,XG,Nat.reduceAdd]at s0a;clear a7;cases w:sb with
 |true=>
  subst w;have HX:Hd (SdI b1 Y U gs ot V P u11 ((P.sl.take<|i+1).filter λs=> !s.br) y1 wr):=by show SdI _ _ _ _ _ _ _ _ _ _ _;rw[Z.aa,List.filter_append];simpa using C.aa
  clear C Z;go_wp2;exact⟨⟨_,wq,N1,HX⟩,by simp[nI];omega⟩
 |false=>
  subst w;obtain⟨aL,pL,rfl⟩:=dt C.aD;let⟨m,q⟩:=dP<|((P.sl.take i).filter λs=> !s.br).length;let⟨L',y2,I,HX⟩:=C.aa.cC ⟨sa,sk,X,false⟩ (By (List.length_filter_le _ _) (by rw[XB];omega));rw[<-q.aa]at I;replace I:Hd ((Builtin.append_ #[144,144] 144 #[.slice aL m pL,sL wr.heap.size 1 1]).run prog (wr.alloc<|.cells #[iU<|cX sa 0,iU<|cX sa 1,iU<|cX sa 2,iU<|cX sa 3,iU<|cX sk 0,.int _<|cX sk 1,iU<|cX sk 2,iU<|cX sk 3,.int _<|cX X 0,iU<|cX X 1,iU<|cX X 2,iU<|cX X 3,.bool false] 152)=.ok L' y2):=I;have HX2:Hd (SdI b1 Y U gs ot V P L' ((P.sl.take<|i+1).filter λs=> !s.br) y1 y2):=by show SdI _ _ _ _ _ _ _ _ _ _ _;rw[Z.aa,List.filter_append];exact HX
  rw[<-q.aa];clear C Z HX q;go_wp2_with(at_builtin;refine Lib.wpList_append_run _ W _ _ _ _ W _ _ W W _ _ I ?_);exact⟨⟨_,wq,N1,HX2⟩,by simp[nI];omega⟩
variable {b3 B:Nat}
def call_6{j D:RS}{y14:WD}{v:Nat}{V:DV}(b:Hd<|DX O H Y j X C V (bx b3 v::bx b2 Z::bx b1 gs::l) y14)(a3:Hd<|DQ B gb xb D (L++(bx b3 v::bx b2 Z::bx b1 gs::l)) y14)(d0:Hd<|Below O x y14)(d3:Hd ((∀k,vU H Y X C V k->k<B)/\∀p∈(bx b3 v::bx b2 Z::bx b1 gs::l:hZ),p.1<B))(hLs:Hd (∀k,X.ownBlock=some k->∃p∈L,p.1=k))(hbx:O<=B)(r:j.ac+D.ac<=1000000)(d8:D.aa.size<=70000)(c:o1+o2<=j.mem.length)(hne:H≠gb)(h3:D.ao≠3)(Q:Hd<|tr=FR (o1,o2) D j){c u16:VL}{a:Act}(A:Frm [pt H,u1,u2,u3,u4,c,u6,u7,u8,u9,u10,u11,u12,u13,iI (o1:Int),iI (o2:Int),u16,u17,pt xb,u19,pt gb] 234 a):Code.wp prog (WT 27<|f131.body.getD .skip) (bodyPost prog f131<|Dp O H Y tr (.tuple #[]) l x) a y14:=by
 apply A.op;clear A;iterate 234 intro
 simp only[po,XN,XG];conv=>arg 2;whnf
 unfold FR at Q;replace Q:=cV<|Q.trans<|iF h3;clear h3;let⟨sv2,mv2,V2,a2,e7,hn2⟩:=a3.aa;have a1:=cV a2.wa;have d4:Hd (∀p∈(L++(bx b3 v::bx b2 Z::bx b1 gs::l)),∀t∈V2.tv,t.ownBlock≠some _):=λp c t ht e=>(e7 p c).2<|A4<|A4<|A4<|A4<|A4<|A4<|A4 ⟨t,ht,e⟩;have f:=cV a2.row;let⟨n5,y⟩:=dP j.ac;let⟨n6,T⟩:=dP D.ac;have c:n5+n6<=1000000:=by rw[y.aa,T.aa];omega
 clear r;let⟨b9,e9,m⟩:=b.aa.q.cell (o:=16)<|λ_ _=>W;let⟨d7,_,_⟩:=a3.aa.cell (o:=16)<|λ_ _=>W;rw[<-y.aa]at b9;rw[<-T.aa]at d7;obtain⟨r,a0⟩:∃r:RS,Hd (r={j with ac:=j.ac+D.ac,aI:=D.aa}):=⟨_,W⟩
 rw[<-a0.aa]at Q;let⟨E,d⟩:=dP D.aa;have b7:=(b.below (dO _ _).drew).set (o:=16) (v:=.int _<|(n5+n6:Nat)) (R':={j with ac:=j.ac+D.ac}) (by rw[y.aa,T.aa];rfl) W W W (by show j.ac+D.ac<=_;rw[<-y.aa,<-T.aa];omega);rw[show((n5+n6:Nat):Int)=n5+n6 by omega]at b7;have b6:Hd (DX O H Y r X C V (bx b3 v::bx b2 Z::bx b1 gs::l)<|(y14.drew.setCell ⟨H,16,none⟩<|iI<|n5+n6).setCell ⟨H,3,none⟩<|.string E):=by rw[a0.aa,d.aa];exact b7.set (R':={j with ac:=j.ac+D.ac,aI:=D.aa}) W W W W (by show j.ac+D.ac<=_;rw[<-y.aa,<-T.aa];omega)
 have a7:Kb [H] _ ((y14.drew.setCell ⟨H,16,none⟩<|iI<|n5+n6).setCell ⟨H,3,none⟩<|.string E):=((Kb.h (dO _ _).drew).setCell AI _).setCell AI _;replace a1:=cV<|b.aY a1 a7<|λk c=>LZ<|BY.1 c;replace f:Hd (rowL _ gb _ _):=cV<|a7.row f<|λc=>hne (BY.1 c).symm;have I:Hd (Below _ x<|(y14.drew.setCell ⟨H,16,none⟩<|iI<|n5+n6).setCell ⟨H,3,none⟩<|.string E):=(d0.drew.setCell m _).setCell m _;have g23b:cL y14 gb 23 (.string E):=by rw[d.aa];exact a2.row.cell (i:=23) W
 let⟨f3b,z3b,_⟩:=b.aa.q.cell (o:=3)<|λ_ _=>W;clear a2 e7 hn2 b7 a7 a3 b d0 m;go_wp2
 go_big_region
 go_wp2;obtain⟨R7,d6⟩:∃R7:RS,Hd (R7=gT o1 (dI<|dH E 0<|min o2 E.size) r):=⟨_,W⟩
 rw[<-d.aa,<-d6.aa]at Q;have c8:o1+(dI<|dH E 0<|min o2 E.size).size<=r.mem.length:=by
  have s:r.mem=j.mem:=by rw[a0.aa]
  rw[s];show o1+(dH E 0<|min o2 E.size).length<=_;rw[nF];omega
 have hhs:E.size<=70000:=by rw[d.aa];exact d8
 clear b9 e9 d7;refine dy (PhP ((y14.drew.setCell _ _).setCell _ _)<|λx=>DX _ H Y R7 X C V _ x/\DW B xb D.w V2 x/\rowL x gb 159 _/\Below _ _ x) (λ_ _ _=>True) [(0,(.pointer _)),(14,(.int _ _)),(15,(.int _ _)),(20,(.pointer _))] (nV 221 [pt H,iI o1,pt gb,pt gb,_,_,iI o2,pt gb,pt gb,_,_,_,_,_,_]) [14] [5,10,11,12,13] ((dO _ _).drew) (Rb<|λx b h hb=>⟨h.1.below hb,h.2.1.kb (Kb.h (S:=[]) hb) K2,rowL.below h.2.2.1 hb,h.2.2.2.trans<|hb.mono h.1.1.hb⟩)
   ⟨(λg hv b=>by have r:Below _ _ _:=g;have hf:=b6.aa.below r;have hc:=IH o1 (dI<|dH E 0<|min o2 E.size) hf.1 c8;refine o6 @hv hc (λu z h=>?_) (λl z h=>absurd h.1 K2)<|λz h=>absurd h.1 K2;let⟨e,s,h2,h3⟩:=h;injection e with e;subst e;have hd:=hf.aY (a1.kb (Kb.h (S:=[]) r) K2) h2 (λk c=>A4<|by simpa using c);have hr:=h2.row (rowL.below f r) (λc=>absurd ((Ty.aB<|rowL.below f r).aF<|Ty.az hf.1.me<|by simpa using c) K3);have hu:=hf.aX s h2 (λk c=>A4<|A4<|A4<|LZ<|by simpa using c);rw[<-d6.aa]at hu;exact b _ z ⟨hu,hd,hr,(r.mono b6.1.hb).trans h3⟩ AF nn1 W),AF⟩
   ⟨(@λk s9 x hk hlo hdf hl K c g hv b=>by
    cases(Yn.1 (c 0 14):k=0);have r:Below _ _ x:=g;exact dm (v:=.string E) (hv W) (by rw[d.aa];exact rowL.cell (i:=23) (rowL.below f r) W)<|kx b),(@λk s9 x hk hlo hdf hl K c g hv b=>by
    cases(Yn.1 (c 0 14):k=0);have r:Below _ _ x:=g;exact dm (v:=.string E) (hv W) (by rw[d.aa];exact rowL.cell (i:=23) (rowL.below f r) W)<|kx b),(λ_ _ hv b=>by
    exact Va (hv W)<|kx b),(λ_ _ hv b=>by
    refine o6 @hv (FJ o2 E.size) (λu z h=>?_) (λl z h=>absurd h.1 K2)<|λz h=>absurd h.1 K2;let⟨e,hb⟩:=h;injection e with e;subst e;exact b _ z hb nn1 W),(λ_ _ hv b=>by
    refine o6 @hv (sK E 0 (min o2 E.size) wq wq wq _) (λu z h=>?_) (λl z h=>absurd h.1 K2)<|λz h=>absurd h.1 K2;let⟨e,hb⟩:=h;injection e with e;subst e;exact b _ z hb nn1 W),AF⟩
   (nl W) (nl W) ?_
 intro b y15 g _;obtain⟨c,b,r,e8⟩:(λx:WD=>DX O H Y R7 X C V (bx b3 v::bx b2 Z::bx b1 gs::l) x/\DW B xb D.w V2 x/\rowL x gb 159 (yt D xb sv2 mv2)/\Below O ((y14.drew.setCell ⟨H,16,none⟩<|iI<|(n5:Int)+(n6:Int)).setCell ⟨H,3,none⟩<|.string E) x) y15:=g;have U:=cV c;have J:=cV b;replace I:=cV<|I.trans e8;have c19:=rowL.cell (i:=19) r W;simp only[n8,sx9];clear c b e8 b6 a1 f c8 a0 d d8 hhs;by_cases n:D.ao=1;case neg=>
  have N:(D.ao==1)=false:=Xb.2 n;replace Q:Hd (tr=eN (jM false) R7):=Q.aa.trans (by rw[iF n,N]);have d1:((D.ao:Int)==1)=false:=Xb.2 wq;have P:=cV U.q;clear r U J N;go_wp2_with fail
  refine(jY false _).mono ?_;rintro e yA⟨r9,c,rfl,b⟩;replace I:=cV<|I.trans<|b.mono P.hb.1;replace P:=cV<|P.below b;clear b;go_wp2_with fail
  refine(iq r9 P).mono ?_;rintro e yB⟨rfl,s,F⟩;rw[c.aa,<-Q.aa]at s;replace P:=cV s.tail.tail.tail;replace I:=cV<|I.trans F;clear s F Q;go_wp2;refine bI W W ⟨W,P,I⟩
 have N:(D.ao==1)=true:=by rw[n];rfl
 replace Q:Hd (tr=eN (jM true) {R7 with w:=D.w}):=Q.aa.trans (by rw[At n,N]);have d1:((D.ao:Int)==1)=true:=by rw[n];rfl
 let⟨pv2,lv2,gv2,tv2⟩:=V2;let⟨a4,k4,e4⟩:=dt J.pu;let⟨a5,k5,e5⟩:=dt J.sl;let⟨a6,k6,e6⟩:=dt J.lg;dsimp only at e4 e5 e6;subst e4 e5 e6;have c0:=(U.q.cell (o:=0)<|λ_ _=>W).1;have e0:=J.aa.row.cell (i:=0) W;have e1:=J.aa.row.cell (i:=1) W;have e2:=J.aa.row.cell (i:=2) W;have w0:=U.aa.1.wa.row.cell (i:=0) W;have w1:=U.aa.1.wa.row.cell (i:=1) W;have w2:=U.aa.1.wa.row.cell (i:=2) W;have wz:=World.rowIs.frozen U.1.wa.row;have d5:=(U.below (dO _ y15).drew).adopt (G:=D) (L:=L) (J.kb (Kb.h (S:=[]) (dO _ y15).drew) K2) hbx d4 hLs.aa d3.1 d3.2;have a9:O<=Y:=U.aa.1.wa.hb;replace I:=cV<|((I.drew.setCell (p:=⟨Y,0,none⟩) a9<|.slice a4 D.w.pu.length k4).setCell (p:=⟨Y,1,none⟩) a9<|.slice a5 D.w.sl.length k5).setCell (p:=⟨Y,2,none⟩) a9<|.slice a6 D.w.lg.length k6;have P:=cV d5;clear d5 r U J N d4;go_wp2
 go_big_region
 go_wp2_with fail
 refine(jY true _).mono ?_;rintro e yA⟨r9,c,rfl,b⟩;replace I:=cV<|I.trans<|b.mono P.hb.1;replace P:=cV<|P.below b;clear b;go_wp2_with fail
 refine(iq r9 P).mono ?_;rintro e yB⟨rfl,s,F⟩;rw[c.aa,<-Q.aa]at s;replace P:=cV s.tail.tail.tail;replace I:=cV<|I.trans F;clear s F Q;go_wp2;refine bI W W ⟨W,P,I⟩

variable {x0:WD}
def call_5{wc:WD}{v:Nat}{V:DV}(J:Nat)(r:Hd (∀G,Pot G<|run G))(b7:Hd<|pW run R.depth)(U:Hd<|GoodR R)(D:Hd<|Cb R Ry q1 q2 o1 o2 gv)(g:Hd<|DX O H Y Ry X C V (bx b3 v::bx b2 Z::bx b1 gs::l) x0)(hLs:Hd (∀k,X.ownBlock=some k->∃p∈L,p.1=k))(c:Hd (∀p∈L,X.ownBlock=some p.1))(u:Hd<|Below O x x0)(y:Hd<|bW x0 wc){G2:RS}(b:Hd<|DQ x0.heap.size gb xb G2 (L++(bx b3 v::bx b2 Z::bx b1 gs::l)) wc)(j:Hd<|G2=uT J Z v (q1,q2) gv Ry (mB (ag Z Ry.w).2 (ag Z Ry.w).1).ae (ow J Z v Ry).2)(E:Hd<|tr=FR (o1,o2) (run G2) {Ry with ac:=Ry.ac-gv}){u5:VL}{a:Act}(A:Frm [pt H,u1,u2,u3,u4,u5,u6,u7,u8,u9,u10,u11,u12,u13,iI (o1:Int),iI (o2:Int),iI (gv:Int),u17,pt xb,u19,pt gb] 234 a):Code.wp prog (WT 24<|f131.body.getD .skip) (bodyPost prog f131<|Dp O H Y tr (.tuple #[]) l x) a wc:=by
 apply A.op;clear A;iterate 234 intro
 simp only[po,XN,XG];conv=>arg 2;whnf
 have hgb:=b.aa.hb.2;have hfx:=g.aa.1.row.lt;have a7:=g.aa.1.hb;have HLT:Hd ((∀k,vU H Y X C V k->k<x0.heap.size)/\∀p∈(bx b3 v::bx b2 Z::bx b1 gs::l),p.1<x0.heap.size):=⟨λk hk=>g.1.lt hk,λp hp=>World.rowIs.lt (g.2.1 p hp).1⟩
 obtain⟨N,h⟩:∃N,Hd (Ry.ac=N):=⟨_,W⟩
 have hgN:N<=1000000:=by rw[<-h.aa];exact g.1.gl
 have hgv:gv<=N:=by rw[<-h.aa];exact D.gv
 have a2:H≠gb:=wq
 rw[h.aa]at E;obtain⟨i,m⟩:∃i:RS,Hd (i={Ry with ac:=N-gv}):=⟨_,W⟩
 rw[<-m.aa]at E;let⟨a5,z16,z⟩:=(g.below y).q.cell (o:=16)<|λ_ _=>W;rw[h.aa]at a5;have n:Hd (DX O H Y i X C V (bx b3 v::bx b2 Z::bx b1 gs::l)<|x0.setCell ⟨H,16,none⟩<|iI<|(N-gv:Nat)):=by rw[m.aa];exact g.set W W W W K9
 rw[show((N-gv:Nat):Int)=N-gv by omega]at n;have f:Hd (Below _ (x0.setCell ⟨H,16,none⟩<|iI<|N-gv) _):=Ho y;have a1:Hd (DQ _ gb xb G2 _<|wc.setCell ⟨H,16,none⟩<|iI<|N-gv):=b.aa.frm (Ty.aB (g.below y).1.row) a2 (g.nofb c.aa)<|(Kb.refl _ _).setCell AI _;have b6:Hd (Below _ x<|x0.setCell ⟨H,16,none⟩<|iI<|N-gv):=u.aa.setCell z _;have S:R.depth<16:=by have K:=D.aa.aS;have h2:=D.aa.d16;have c:=U.aa.aS;omega
 have a0:GoodR G2:=by rw[j.aa];exact Mt J Z v gv U.aa D.w D.aS D.d16 D.q2 (by have K:=D.aa.ac;have h2:=D.aa.gv;omega)
 have T:G2.depth=R.depth+1:=by rw[j.aa];show Ry.depth+1=_;rw[D.aa.aS]
 have a3:=cV<|b7 S _ gb xb G2 _ _ a1 a0 T;have a4:(x0.setCell ⟨H,16,none⟩<|iI<|N-gv).heap.size=x0.heap.size:=K2
 have a9:=cV a4;have F:o1+o2<=i.mem.length:=by rw[m.aa];exact D.fo
 clear b y u a1 S a0 T a4 g z;go_wp2_with fail
 refine a3.mono ?_;rintro e y14⟨rfl,u,t⟩;have I:=r.aa G2;let⟨Q,b⟩:=dP<|run G2;rw[<-b.aa]at u I E;have s:i.ac+Q.ac<=1000000:=by
  have K:=I.ac;rw[j.aa]at K;have h2:i.ac=N-gv:=by rw[m.aa]
  have c:Q.ac<=gv:=K;omega
 have b:=I.aa (by rw[j.aa];exact In _);have b0:Hd (DX _ H Y i X C V _ _):=n.aa.below (by rw[a9.aa];exact f.trans t);have a6:Hd _:=b6.aa.trans<|(f.trans t).mono a7;have r:=cV u;let⟨c19,_,_⟩:=u.cell (o:=19)<|λ_ _=>W;replace s:=cV s;replace b:=cV b;replace F:=cV F;clear u t f b6 n a3 I a5 z16 a9;go_upto_if 198 with fail;go_cut[] (λu=>u=y14/\Q.ao≠3);case first=>
  by_cases c:Q.ao=3
  .have d3:((Q.ao:Int)==3)=true:=by rw[c];rfl
   replace E:Hd _:=E.aa.trans<|At c;have P:=cV b0.q;have d:=cV a6;go_wp2_with fail
   refine(dx 0 wq _).mono ?_;rintro e u⟨r9,u,rfl,hB⟩;replace d:=cV<|d.trans<|hB.mono P.hb.1;replace P:=cV<|P.below hB;clear hB;go_wp2_with fail
   refine(iq r9 P).mono ?_;rintro e yB⟨rfl,K,a8⟩;rw[u.aa,<-E.aa]at K;replace P:=cV K.tail.tail.tail;replace d:=cV<|d.trans a8;clear K a8 E;go_wp2;refine bI W W ⟨W,P,d⟩
  have d3:((Q.ao:Int)==3)=false:=Xb.2 wq;go_wp2;go_meet;grind
 rename_i hgo;refine hgo _ _ ?_;obtain⟨rfl,c⟩:=hcut;exact call_6 b0 r a6 HLT hLs a7 s.aa b.aa F.aa a2 c E ⟨_,W,W⟩

def call_4{wc:WD}{v:Nat}{V:DV}(J:Nat)(hrp:Hd (∀G,Pot G<|run G))(a3:Hd<|pW run R.depth)(f:Hd<|GoodR R)(F:Hd<|Cb R Ry q1 q2 o1 o2 gv)(i:Hd<|DX O H Y Ry X C V (bx b3 v::bx b2 Z::bx b1 gs::l) x0)(hLs:Hd (∀k,X.ownBlock=some k->∃p∈L,p.1=k))(hL3:Hd (∀p∈L,X.ownBlock=some p.1))(HB:Hd<|Below O x x0)(E:Hd<|bW x0 wc){g:RS}(y:Hd<|DQ x0.heap.size gb xb g (L++(bx b3 v::bx b2 Z::bx b1 gs::l)) wc)(s:Hd<|g=uT J Z v (q1,q2) gv Ry (mB (ag Z Ry.w).2 (ag Z Ry.w).1).ae (ag Z Ry.w).2)(I:Hd<|tr=D3 run J Z v (q1,q2) (o1,o2) gv Ry){a:Act}(A:Frm [pt H,iI (J:Int),u2,u3,u4,pt b2,pt b3,u7,u8,u9,u10,u11,u12,u13,iI (o1:Int),iI (o2:Int),iI (gv:Int),u17,pt xb,u19,pt gb] 234 a):Code.wp prog (WT 23<|f131.body.getD .skip) (bodyPost prog f131<|Dp O H Y tr (.tuple #[]) l x) a wc:=by
 apply A.op;clear A;iterate 234 intro
 simp only[po,XN,XG];conv=>arg 2;whnf
 obtain⟨G2,U⟩:∃G2:RS,Hd (G2=uT J Z v (q1,q2) gv Ry (mB (ag Z Ry.w).2 (ag Z Ry.w).1).ae (ow J Z v Ry).2):=⟨_,W⟩
 let⟨P1,t⟩:=dP<|(ag Z Ry.w).2;have P:Hd (g={G2 with w:=P1}):=by show _=_;rw[s.aa,U.aa,t.aa];rfl
 have a2:g.w.pu.length<=900000000:=by rw[s.aa];show(ag Z Ry.w).2.pu.length<=_;have o:=(iG Z Ry.w).2;have h2:=f.aa.pu;rw[F.aa.w]at o;rw[F.aa.w];omega
 have hbx:=i.aa.1.hb;clear s;let⟨mk,S⟩:=dP<|(ow J Z v Ry).1;unfold D3 at I;rw[<-U.aa,<-S.aa]at I;go_upto_if 170 with fail;go_cut[] (λb=>mk=true/\Hd (DQ x0.heap.size gb xb G2 (L++(bx b3 v::bx b2 Z::bx b1 gs::l)) b)/\Hd (bW x0 b));case first=>
  by_cases ho:J=241;case neg=>
   have d:((J:Int)==241)=false:=Xb.2 wq;have c:ow J Z v Ry=(true,P1):=by rw[t.aa];exact iF ho
   have r:g=G2:=by
    rw[P.aa];have:G2.w=P1:=by rw[U.aa];show(ow J Z v Ry).2=_;rw[c]
    rw[<-this]
   have b:mk=true:=by rw[S.aa,c]
   rw[r]at y;clear r ho c U P S;go_wp2;go_meet;case rel=>exact⟨b,y,E⟩
  have d:((J:Int)==241)=true:=by rw[ho];rfl
  have c:fP Ry.ak Z v g.w=(mk,G2.w):=by
   have o:ow J Z v Ry=fP Ry.ak Z v P1:=by rw[t.aa];exact At ho
   have h2:g.w=P1:=by rw[P.aa]
   have h3:G2.w=(ow J Z v Ry).2:=by rw[U.aa];rfl
   rw[h2,<-o,h3,S.aa]
  have r:({g with w:=G2.w}:RS)=G2:=by rw[P.aa]
  have HM:=cV c;have HE:=cV r;clear ho c r;go_wp2;refine dy (PhQ _ gb xb (λk=>match k with|0=>g|_=>G2) (L++(bx b3 v::bx b2 Z::bx b1 gs::l)) x0) (λ_ _ _=>True) [(0,(.pointer _)),(18,(.pointer _)),(5,(.pointer _)),(6,(.pointer _))] (nV 171 [pt H,pt H,pq H 4,_,_,_,.bool mk]++[(some 21,.v<|.bool mk)]) [6] [3,4,5] (Ik 0 _ _ ⟨y,E⟩ (dO _ _).drew) (Ik)
    ⟨(@λs9 x N hl K D hv n=>by have T:DQ _ gb xb g _ x:=D.1;have c:=move_D Ry.ak Z v T a2;rw[HM.aa]at c;refine o6 @hv c (λu z h=>?_) (λl z h=>absurd h.1 K2)<|λz h=>absurd h.1 K2;let⟨e,o,hb⟩:=h;injection e with e;subst e;rw[show({g with w:=(mk,G2.w).2}:RS)=G2 from HE.aa]at o;exact n _ z ⟨o,D.2.trans hb⟩ AF nn1 W),AF⟩
    ⟨(@λk s9 x hk a0 N hl K j D hv n=>by
     cases(Yn.1 (j 0 6):k=0);have T:=D.2;have c:=(i.below T).q;exact dD (hv W) (c.cell<|λ_ _=>W).1 (c.cell<|λ_ _=>W).1 (c.cell<|λ_ _=>W).1 (c.cell<|λ_ _=>W).1<|n _ x (dO _ _) nn1 W),(@λk s9 x hk a0 N hl K j D hv n=>by
     cases(Yn.1 (j 0 6):k=0);have T:=D.2;have c:=(i.below T).q;let⟨r,c1,c2,c3,_⟩:=c.tail.aJ;exact dD (hv W) r c1 c2 c3<|n _ x (dO _ _) nn1 W),(@λk s9 x hk a0 N hl K j D hv n=>by
     cases(Yn.1 (j 0 6):k=0);have T:=D.2;have c:=(i.below T).q;let⟨r,c1,c2,c3,_⟩:=c.aJ;exact dD (hv W) r c1 c2 c3<|n _ x (dO _ _) nn1 W),AF⟩
    (λ_ _ _ h=>(mE W h).elim) (λ_ _ _ h=>(mE W h).elim) ?_
  intro c c D _;replace y:Hd (DQ _ gb xb G2 _ _):=cV D.1;replace E:=cV D.2;clear D;simp only[n8,sx9];cases mk;case true=>go_wp2;go_meet;case rel=>exact⟨W,y,E⟩
  have Q:=cV (i.below E).q;have m:=cV<|HB.trans<|E.mono hbx;replace I:Hd _:=I.aa.trans<|iF K3;clear HM HE y E;go_wp2_with fail
  refine(dx 0 wq _).mono ?_;rintro e c⟨r9,c,rfl,r⟩;replace m:=cV<|m.trans<|r.mono Q.hb.1;replace Q:=cV<|Q.below r;clear r;go_wp2_with fail
  refine(iq r9 Q).mono ?_;rintro e r⟨rfl,o,r⟩;rw[c.aa,<-I.aa]at o;replace Q:=cV o.tail.tail.tail;replace m:=cV<|m.trans r;clear o r I;go_wp2;refine bI W W ⟨W,Q,m⟩
 rename_i hgo;refine hgo _ _ ?_;clear y E;let⟨b,y,E⟩:=hcut;replace I:=cV<|I.trans<|At b;exact call_5 J hrp a3 f F i hLs hL3 HB E y U I ⟨_,W,W⟩

def Jt{wc:WD}{v:Nat}{V:DV}(J:Nat)(u:Hd (∀G,Pot G<|run G))(F:Hd<|pW run R.depth)(j:Hd<|GoodR R)(s:Hd<|Cb R Ry q1 q2 o1 o2 gv)(U:Hd<|DX O H Y Ry X C V (bx b3 v::bx b2 Z::bx b1 gs::l) x0)(i:Hd (∀k,X.ownBlock=some k->∃p∈L,p.1=k))(N:Hd (∀p∈L,X.ownBlock=some p.1))(r:Hd<|Below O x x0)(D:Hd<|bW x0 wc){z:RS}(E:Hd<|DQ x0.heap.size gb xb z (L++(bx b3 v::bx b2 Z::bx b1 gs::l)) wc)(K:Hd<|z={uT J Z v (q1,q2) gv Ry (mB (ag Z Ry.w).2 (ag Z Ry.w).1).ae (ag Z Ry.w).2 with ak:=Z,ax:=Ry.ak,value:=v})(c:Hd<|tr=D3 run J Z v (q1,q2) (o1,o2) gv Ry){a:Act}(A:Frm [pt H,iI (J:Int),u2,u3,u4,pt b2,pt b3,u7,u8,u9,u10,u11,u12,u13,iI (o1:Int),iI (o2:Int),iI (gv:Int),u17,pt xb,u19,pt gb] 234 a):Code.wp prog (WT 22<|f131.body.getD .skip) (bodyPost prog f131<|Dp O H Y tr (.tuple #[]) l x) a wc:=by
 apply A.op;clear A;iterate 234 intro
 simp only[po,XN,XG];conv=>arg 2;whnf
 have I:=E.aa.hb.2;have b:H<x0.heap.size:=U.aa.1.row.lt;obtain⟨G1,y⟩:∃G1:RS,Hd (G1=uT J Z v (q1,q2) gv Ry (mB (ag Z Ry.w).2 (ag Z Ry.w).1).ae (ag Z Ry.w).2):=⟨_,W⟩
 go_upto_if 147 with fail;go_cut[] (λg=>Hd (DQ x0.heap.size gb xb G1 (L++(bx b3 v::bx b2 Z::bx b1 gs::l)) g)/\Hd (bW x0 g));case first=>
  by_cases T:J=244;case neg=>
   have d:((J:Int)==244)=false:=Xb.2 wq;have h:z=G1:=by rw[K.aa,y.aa];unfold uT;simp only[iF T]
   rw[h]at E;clear h T;go_wp2;go_meet;simp_all
  have d:((J:Int)==244)=true:=by rw[T];rfl
  have h:({{{z with ak:=Ry.ak}with ax:=Ry.ax}with value:=Ry.value})=G1:=by rw[K.aa,y.aa];unfold uT;simp only[At T]
  clear T;refine wp_cond_true (Xl Value.bool d) ?_;obtain⟨m,P⟩:∃n:Nat,Hd (n=Ry.ak):=⟨_,cV W⟩
  rw[<-P.aa]at h;refine wp_seq_k λb Q=>?_;go_cut[] (λg=>Hd (DQ x0.heap.size gb xb {z with ak:=m} (L++(bx b3 v::bx b2 Z::bx b1 gs::l)) g)/\Hd (bW x0 g));case first=>have e:=((U.below D).q.cell (o:=4)<|λ_ _=>W).1;rw[<-P.aa]at e;let⟨e,z4,_⟩:=E.aa.cell (o:=4)<|λ_ _=>W;have e:=((U.below D).q.cell (o:=5)<|λ_ _=>W).1;rw[<-P.aa]at e;let⟨e,z5,_⟩:=E.aa.cell (o:=5)<|λ_ _=>W;have e:=((U.below D).q.cell (o:=6)<|λ_ _=>W).1;rw[<-P.aa]at e;obtain⟨e,e,_⟩:=E.aa.cell (o:=6)<|λ_ _=>W;have e:=((U.below D).q.cell (o:=7)<|λ_ _=>W).1;rw[<-P.aa]at e;obtain⟨e,e,_⟩:=E.aa.cell (o:=7)<|λ_ _=>W;replace E:=cV<|E.self4 m;replace D:=cV<|(((D.setCell (p:=⟨gb,4,none⟩) I<|lu m 0).setCell (p:=⟨gb,5,none⟩) I<|lu m 1).setCell (p:=⟨gb,6,none⟩) I<|lu m 2).setCell (p:=⟨gb,7,none⟩) I<|lu m 3;clear P;go_wp2;go_meet;case rel=>exact⟨E,D⟩
  refine Q _ _ ?_;clear E D P Q;let⟨E,D⟩:=hcut;obtain⟨S,P⟩:∃n:Nat,Hd (n=Ry.ax):=⟨_,cV W⟩
  rw[<-P.aa]at h;refine wp_seq_k λb Q=>?_;go_cut[] (λg=>Hd (DQ x0.heap.size gb xb {{z with ak:=m}with ax:=S} (L++(bx b3 v::bx b2 Z::bx b1 gs::l)) g)/\Hd (bW x0 g));case first=>have b:=((U.below D).q.cell (o:=8)<|λ_ _=>W).1;rw[<-P.aa]at b;obtain⟨b,b,_⟩:=E.aa.cell (o:=8)<|λ_ _=>W;have b:=((U.below D).q.cell (o:=9)<|λ_ _=>W).1;rw[<-P.aa]at b;let⟨b,z9,_⟩:=E.aa.cell (o:=9)<|λ_ _=>W;have b:=((U.below D).q.cell (o:=10)<|λ_ _=>W).1;rw[<-P.aa]at b;obtain⟨b,b,_⟩:=E.aa.cell (o:=10)<|λ_ _=>W;have t:=((U.below D).q.cell (o:=11)<|λ_ _=>W).1;rw[<-P.aa]at t;obtain⟨b,b,_⟩:=E.aa.cell (o:=11)<|λ_ _=>W;replace E:=cV<|E.cK S;replace D:=cV<|(((D.setCell (p:=⟨gb,8,none⟩) I<|lu S 0).setCell (p:=⟨gb,9,none⟩) I<|lu S 1).setCell (p:=⟨gb,10,none⟩) I<|lu S 2).setCell (p:=⟨gb,11,none⟩) I<|lu S 3;clear P;go_wp2;go_meet;case rel=>exact⟨E,D⟩
  refine Q _ _ ?_;clear E D P Q;let⟨E,D⟩:=hcut;obtain⟨f,P⟩:∃n:Nat,Hd (n=Ry.value):=⟨_,cV W⟩
  rw[<-P.aa]at h;have b:=((U.below D).q.cell (o:=12)<|λ_ _=>W).1;rw[<-P.aa]at b;obtain⟨b,b,_⟩:=E.aa.cell (o:=12)<|λ_ _=>W;have b:=((U.below D).q.cell (o:=13)<|λ_ _=>W).1;rw[<-P.aa]at b;obtain⟨b,b,_⟩:=E.aa.cell (o:=13)<|λ_ _=>W;have b:=((U.below D).q.cell (o:=14)<|λ_ _=>W).1;rw[<-P.aa]at b;obtain⟨b,b,_⟩:=E.aa.cell (o:=14)<|λ_ _=>W;have f15:=((U.below D).q.cell (o:=15)<|λ_ _=>W).1;rw[<-P.aa]at f15;obtain⟨b,b,_⟩:=E.aa.cell (o:=15)<|λ_ _=>W;replace E:=cV<|E.cQ f;replace D:=cV<|(((D.setCell (p:=⟨gb,12,none⟩) I<|lu f 0).setCell (p:=⟨gb,13,none⟩) I<|lu f 1).setCell (p:=⟨gb,14,none⟩) I<|lu f 2).setCell (p:=⟨gb,15,none⟩) I<|lu f 3;clear P;rw[h]at E;clear h;go_wp2;go_meet;case rel=>exact⟨E,D⟩
 rename_i hgo;refine hgo _ _ ?_;clear E D;let⟨E,D⟩:=hcut;exact call_4 J u F j s U i N r D E y c ⟨_,W,W⟩

end
end cin
end Go.Proofs.YtohoajjdoihekaaGreatDoor
