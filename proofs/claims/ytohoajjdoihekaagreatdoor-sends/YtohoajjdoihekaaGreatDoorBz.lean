import Derived.Test.YtohoajjdoihekaaGreatDoorDf
set_option linter.unusedVariables false
set_option linter.unusedSimpArgs false
set_option linter.defProp false
namespace Go.Proofs.YtohoajjdoihekaaGreatDoor
namespace cin
open Go.RowKit Go.Maps Go.Proofs.Tryz Tryz
set_option maxRecDepth 100000
set_option maxHeartbeats 8000000
variable {wk:Wk}{F F':Fz}{T T':TS}{A:Nat->Acc}{fr Z g a b i gb ab n O t d p r e st gs pb mb U sz hb bb q c o m off Nq9 ocp u j len E gg k:Nat}{data aa:BA}{P:RW}{pu:List Pur}{sl:List Slt}{sb:Vp}{q':List Rs}{x y x' w:WD}{lv v pv:VL}{tv xs ps:Tn}{s:Act}{pos:String}{af:U9}{gd:U6}{K:K6}{Q:Y6}{er:Int}{P0 Jq9:X4}{Zq9:Nat->X4}{D2:Nat->VL->X4}{I:Vm}{es:Es}{oad:Gj}{ty:Vr}
section
variable {B:Nat}
def WJ(T:TS):=∀e∈T.ay,e.aM.length<=4
def Nb(wk:Wk)(aS:Nat):=∀G T v fr Z,RunF G->aS<G.depth->G.ac<=100000->GoodT T->T.ch.length+T.ay.length+2+G.ac<=1000000->WJ T->WJ (wk G T v fr Z).2
def VM{X:Nat}(Q:Nb wk X)(Y:X<=F.depth)(U:F.ac<=100000)(Y:GoodT T)(d:T.ch.length+T.ay.length+F.ac<=1000000)(E:WJ T)(h:mh wk F T=some (F',T')):WJ T':=by
 rcases Rd h with rfl|⟨_,⟨d,c,H,I,rfl⟩|⟨L,rfl,H⟩⟩|⟨C,Z,v,data,G,H,I,O,J,V,rfl⟩
 .exact E
 .intro e D;rw[(tq T _ _ _ _).2]at D;exact E e D
 .intro e D;rcases Xr.1 D with D|D
  .exact E e D
  grind
 have R:=qg G C;exact Q _ T v _ Z (uw O J Y) (by show X<G.depth+1;rw[H.depth];omega) (by show eA G C<=_;omega) Y (by show T.ch.length+T.ay.length+2+eA G C<=_;omega) E
theorem Ia{wk:Wk}{A O:Nat}(hA:2<=A)(D:ET wk A O)(H:Nb wk O):∀(n:Nat)(F:Fz)(T:TS),RunF F->O<=F.depth->F.ac<=100000->GoodT T->T.ch.length+T.ay.length+F.ac<=1000000->WJ T->WJ (fw wk n F T).2
 |0,F,T,_,_,_,_,_,hS=>hS
 |n+1,F,T,hr,hd,hg,hT,hb,hS=>by
  rw[fw];by_cases J:F.aG=true
  .grind
  rw[iF J];let⟨L,s2⟩:=uY hA D hr hd hg hT hb;cases O:mh wk F T with
  |none=>exact hS
  |some y=>
   let⟨F',T'⟩:=y;have h:=s2 F' T' O;have E:=VM H hd hg hT hb hS O;dsimp only;have G:=h.cf;have C:=h.fx;have I:=h.ac;by_cases e:F'.aG=true
   .cases n with
    |zero=>exact E
    |succ n=>grind[fw]
   exact Ia hA D H n F' T' ⟨by rw[C.ae];exact hr.cs,by rw[C.data];exact hr.ds,h.rs,by rw[C.depth];exact hr.dp,h.nx (K9:F'.aG=false),h.pc,h.os,h.st⟩ (by rw[C.depth];exact hd) wq (hT.ext h.ext h.aO) wq E
theorem Pa:∀d,d<=16->Nb (dc d) (16-d)
 |0,_=>λG T v fr Z O Q=>by have:=O.dp;omega
 |d+1,h16=>λG T v fr Z O Q D Q U I=>by
  let⟨H,E,L,J⟩:=sN Q.aO v fr Z;have h:=Ia wq (BI d wq) (Pa d wq) (G.ac+2) G _ O wq D (Q.ext H E) K9 (λe C=>by rw[J]at C;exact I e C);show WJ (lD T (fw (dc d) (G.ac+2) G<|fU T v fr Z).2<|sT (fw (dc d) (G.ac+2) G<|fU T v fr Z).1);unfold lD;split
  .exact h
  intro e C;exact h e<|YY C
def Ve(E:GoodT<|T0 A)(G:data.size<=500)(D:g<=100000):WJ (jZ (T0 A) fr Z B data g).2:=Pa 16 (DO _) (rY (A Z).ae fr Z B data g) (T0 A) B fr Z ⟨E.cs Z,(by show data.size<=65536;omega),In _,(by show 1<=16;omega),In _,In _,In _,In _⟩ (by show 16-16<1;omega) D E (by show 0+0+2+g<=_;omega)<|λe C=>by cases C
def zN(h:a%M=b%M)(P:RW):(ks a P).mo=(ks b P).mo/\(ks a P).ae=(ks b P).ae:=by unfold ks;rw[funext λp=>xP h];cases P.pu.find? λp=>gN p.aj b<;>exact⟨W,W⟩
def CZ(J:RelW (T0 A) P)(E:Cd P):GoodT (T0 A):=by
 refine⟨λm C e=>?_,λa=>?_,λc D=>by cases D⟩
 .have H:(A m).ai=(A C).ai:=(J.ai m).trans<|(zN e P).1.trans (J.ai C).symm;have G:(A m).ae=(A C).ae:=(J.ae m).trans<|(zN e P).2.trans (J.ae C).symm;have I:(A m).ar=(A C).ar:=funext λk=>(J.aK m k).trans ((by grind[fu,tw]:fu _ m k P=fu _ C k P).trans (J.aK C k).symm);show A m=A C;generalize A m=p at*;generalize A C=q at*;cases p;simp_all
 rw[J.ae a];unfold ks;cases J:P.pu.find? λp=>gN p.aj a with
 |none=>exact In _
 |some p=>exact E.1 p<|Zt J
structure SnL where
 st:Nat
 ac:Nat
 aa:BA
 lg:List LogE
 er:Int
 aw:Nat->Acc
def kH(A:Nat->Acc)(fr Z B:Nat)(data:BA)(g:Int):SnL:=
 if data.size<=500/\0<=g/\g<=100000 then
  if decide (gP (A fr).ai B<0)=true then⟨0,0,⟨#[]⟩,[],5,A⟩
  else⟨(jZ (T0 A) fr Z B data g.toNat).1.st,(jZ (T0 A) fr Z B data g.toNat).1.ac,(jZ (T0 A) fr Z B data g.toNat).1.aa,(jZ (T0 A) fr Z B data g.toNat).2.ay,0,(jZ (T0 A) fr Z B data g.toNat).2.aw⟩
 else⟨0,0,⟨#[]⟩,[],1,A⟩
structure Alike(R:SnL)(pu:List Pur)(sl:List Slt)(S:SnD):Prop where
 st:R.st=S.st
 ac:R.ac=S.ac
 aa:R.aa=S.aa
 lg:R.lg=S.lg
 er:R.er=S.er
 ll:R.lg.length<=100000
 tp:∀e∈R.lg,e.aM.length<=4
 rel:RelW (T0 R.aw) ⟨S.pu,S.sl,[]⟩
 cd:Cd ⟨S.pu,S.sl,[]⟩
 lpu:S.pu.length<=pu.length+2003
 lsl:S.sl.length<=sl.length+1000
 lct:gF ⟨S.pu,S.sl,[]⟩<=gF ⟨pu,sl,[]⟩+501
def QY(a b:Nat):decide (gP a b<0)=iX a b:=by grind[xm,gP,OsQ,W8]
def Le(l:List LogE):gF ⟨pu,sl.filter λs=> !s.br,[]⟩=gF ⟨pu,sl,l⟩:=by unfold gF;grind[List.countP_filter]
def NU(fr Z B:Nat)(data:BA)(g:Int)(l:RelW (T0 A) ⟨pu,sl,[]⟩)(R:Cd ⟨pu,sl,[]⟩)(n:pu.length<=800000000)(i:sl.length<=800000000):(data.size<=500/\0<=g/\g<=100000->(fP fr Z B ⟨pu,sl,[]⟩).1=true->OkR (zl (ag Z (fP fr Z B ⟨pu,sl,[]⟩).2).2 (ag Z (fP fr Z B ⟨pu,sl,[]⟩).2).1 fr Z B data g.toNat))/\Alike (kH A fr Z B data g) pu sl (tj pu sl fr Z B data g):=by
 have q:=CZ l R;have N:∀e:Int,Alike ⟨0,0,_,[],e,A⟩ pu sl ⟨0,0,⟨#[]⟩,[],e,pu,sl⟩:=λe=>⟨W,W,W,W,W,In _,λe V=>(by cases V),l,R,X7 _ _,X7 _ _,X7 _ _⟩
 by_cases E:data.size<=500/\0<=g/\g<=100000;case neg=>grind[absurd,kH,tj]
 let⟨u,k,r⟩:=E;obtain⟨m,rfl⟩:∃m:Nat,g=m:=⟨g.toNat,wq⟩
 have o:m<=100000:=wq
 let⟨X,J⟩:=l.move q.aO fr Z B;let⟨L,c,_,p⟩:=wW fr Z B ⟨pu,sl,[]⟩;have O:decide (gP (A fr).ai B<0)= !(fP fr Z B ⟨pu,sl,[]⟩).1:=by
  rw[QY,X];unfold iX;by_cases h:(A fr).ai%M<B%M
  .rw[OsQ h,W8 (by show¬B%M<=(A fr).ai%M;omega)];rfl
  rw[W8 h,OsQ (by show B%M<=(A fr).ai%M;omega)];rfl
 unfold kH tj;have E:data.size<=500/\0<=(m:Int)/\(m:Int)<=100000:=⟨u,k,r⟩
 rw[At E,At E,O];generalize fP fr Z B ⟨pu,sl,[]⟩=y at*;let⟨ok,C⟩:=y;cases ok with
 |false=>grind
 |true=>
  rw[iF<|Bool.noConfusion,At W];dsimp only at L c p J⊢;rw[show(m:Int).toNat=m from W];have I:(mB (ag Z C).2 (ag Z C).1).ae=(A Z).ae:=by rw[mi,<-(J W).ae Z];exact(sN q.aO _ fr Z).1.ae Z
  have r:zl (ag Z C).2 (ag Z C).1 fr Z B data m=eO (rY (A Z).ae fr Z B data m) (ag Z C).2:=by unfold zl;rw[I];rfl
  have v:=O2 q l ((J W).bX Z) u o;have c:=(iG Z C).2;have D:=kK Z C;have Y:=lh Z C;have U:=(mr Z C).bp<|L.bp R;rw[r];generalize(ag Z C).2=Q at*;have j:GoodR (eO (rY (A Z).ae fr Z B _ m) Q):=⟨q.cs Z,(by show data.size<=_;omega),In _,In _,In _,(by show 1<=16;omega),U,(by show 50*Q.pu.length+m<=_;have:(⟨pu,sl,[]⟩:RW).pu.length=pu.length:=rfl;omega),(by show 100*Q.sl.length+m<=_;rw[D.1,L.sl];show 100*sl.length+m<=_;omega),(by show Q.lg.length+m<=_;rw[D.2,L.lg];show 0+m<=_;omega)⟩
  have r:=sU 16<|eO (rY (A Z).ae fr Z B data m) Q;have c:50*(iR 16 _).w.pu.length+(iR 16 _).ac<=50*Q.pu.length+m:=r.pu;have p2:100*(iR 16 _).w.sl.length+(iR 16 _).ac<=100*Q.sl.length+m:=r.sl;have K:(iR 16 _).w.lg.length+(iR 16 _).ac<=Q.lg.length+m:=r.lg;have p4:200*gF _+(iR 16 _).ac<=200*gF Q+m:=r.ct;have H:=Qi (d:=15) (G:=eO (rY (A Z).ae fr Z B data m) Q);have f:=Ve (fr:=fr) (Z:=Z) (B:=B) q u o;rw[D.2,L.lg,show(⟨pu,sl,[]⟩:RW).lg.length=0 from W]at K;rw[D.1,L.sl,show(⟨pu,sl,[]⟩:RW).sl.length=sl.length from W]at p2;have c:gF C<=gF _+1:=By p (Nat.add_le_add_left (by split<;>omega) _);rw[Y]at p4;unfold OkR;generalize iR 16 (eO (rY (A Z).ae fr Z B data m) Q)=S at*;generalize jZ (T0 A) fr Z B data m=z at*;let⟨⟨st,gs,aa⟩,T'⟩:=z;unfold LE;rcases v with⟨v,c,q,u,x⟩|⟨v,c,⟨q,u,x⟩|⟨q,u,x,e6⟩⟩
  .refine⟨λ_ _=>⟨j,wq,wq⟩,?_⟩;rw[AQ];let⟨t,f2⟩:=H c;cases(x:T'=T0 A);exact⟨(by show st=S.ao-1;rw[c];exact v),(by show gs=S.ac;rw[t];exact q),(by show aa=S.aa;rw[f2];exact u),W,W,In _,λe V=>(by cases V),l,R,X7 _ _,X7 _ _,X7 _ _⟩
  .refine⟨λ_ _=>⟨j,wq,wq⟩,?_⟩;rw[AQ];cases(x:T'=T0 A);exact⟨(by show st=S.ao-1;rw[u];exact q),v,c,W,W,In _,λe V=>(by cases V),l,R,X7 _ _,X7 _ _,X7 _ _⟩
  refine⟨λ_ _=>⟨j,wq,wq⟩,?_⟩;rw[At u];refine⟨q,v,c,e6.lg,W,?_,f,e6.clear,(r.bp U).clear,?_,?_,?_⟩
  .show T'.ay.length<=_;rw[e6.lg];omega
  .show S.w.pu.length<=_;omega
  .show(S.w.sl.filter λs=> !s.br).length<=_;have:=List.length_filter_le (λs:Slt=> !s.br) S.w.sl;omega
  show gF ⟨S.w.pu,S.w.sl.filter λs=> !s.br,[]⟩<=_;rw[Le S.w.lg];show gF S.w<=_;omega
end
section
variable {rs:List Rs}
section
variable {q:List Rs}{L:List LogE}
def MP(O:Nat)(x:WD)(q:List Rs):Rs:=⟨λk=>O<=k/\k<x.heap.size/\∀r∈q,¬r.F k,λy=>x.heap.size<=y.heap.size/\∀k,O<=k->k<x.heap.size->(∀r∈q,¬r.F k)->y.heap[k]?=x.heap[k]?,λh hk=>Xg hk.2.1 h.1,λh hs he=>⟨By h.1 hs,λk h1 h2 h3=>(he k ⟨h1,h2,h3⟩).trans<|h.2 k h1 h2 h3⟩⟩
def Sep.fix(h:Sep O (q++rs) x):Sep O (q++[MP O x q]) x:=by
 let⟨D,_,_⟩:=XW.1 h.p;refine⟨λr G=>?_,XW.2 ⟨D,XO _ _,λr G s I k E C=>?_⟩,h.s⟩
 .rcases Xr.1 G with G|G
  .exact h.i r (Xw _ G)
  rw[BY.1 G];exact⟨⟨DO _,λ_ _ _ _=>W⟩,λk H=>H.1⟩
 rw[BY.1 I]at C;exact C.2.2 r G E
def Sep.cF(h:Sep O (q++rs) x)(C:Sep O (q'++[MP O x q]) y):Sep O (q'++rs) y:=by
 let⟨P,p2,E⟩:=XW.1 h.p;let⟨p4,_,G⟩:=XW.1 C.p;let⟨I,Q⟩:=(C.i _<|Xn _<|YL _).1;have N:∀r∈rs,∀k,r.F k->O<=k/\k<x.heap.size/\∀s∈q,¬s.F k:=λr U k V=>⟨(h.i r<|Xn _ U).2 k V,r.lt (h.i r<|Xn _ U).1 V,λs X D=>E s X r U k D V⟩
 refine⟨λr U=>?_,XW.2 ⟨p4,p2,λr U s X k J H=>G r U _ (YL _) k J<|N s X k H⟩,C.s⟩;rcases Xr.1 U with U|U
 .exact C.i r (Xw _ U)
 have D:=h.i r<|Xn _ U;refine⟨r.fr D.1 I λk V=>?_,D.2⟩;grind
def Sep.add2(h:Sep O rs y)(D:∀r∈q,r.I y)(H:q.Pairwise λr s=>∀k,r.F k->¬s.F k)(C:∀r∈q,∀k,r.F k->O<=k)(G:∀r∈q,∀s∈rs,∀k,r.F k->¬s.F k):Sep O (q++rs) y:=⟨λr E=>(Xr.1 E).elim (λE=>⟨D r E,C r E⟩)<|h.i r,XW.2 ⟨H,h.p,G⟩,h.s⟩
def Rt(L:List LogE)(tv:Tn):LT:=(L.zip tv).map λp=>(p.2,p.1.aM.length,fj p.1.aM)
def yl{t:VL×Nat×Tn}(h:(Rt L tv)[i]?=some t):∃l u,L[i]?=some l/\tv[i]?=some u/\t=(u,l.aM.length,fj l.aM):=by grind[Rt]
def VE(h:tv.length=L.length):(Rt L tv).length=L.length:=by grind[Rt]
def tsL_x(h:tv.length=L.length)(i:Nat)(t:VL×Nat×Tn)(E:(Rt L tv)[i]?=some t):(qM L tv)[i*6+4]?=some t.1:=by obtain⟨l,u,D,C,rfl⟩:=yl E;have G:=(Do.1 D).1;rw[P9 h G 4 wq];rw[iN wq]at C;cases hV C;rfl
abbrev Fw(lv:VL)(tv:Tn)(L:List LogE):List Rs:=fp 112 6 lv L.length (qM L tv)::(Rt L tv).map (rh 0)
def IK(h:Sep O rs y)(a:O<=b)(Q:Lo y b lv tv L)(w:∀r∈rs,∀k,r.F k->k<b\/∃R cl,y.heap[k]?=some (.map R cl)):Sep O (Fw lv tv L++rs) y:=by
 let⟨K,H,f,X⟩:=Q;have D:∀r∈(Rt L tv).map (rh 0),∃(u:VL)(l:LogE),y.ownsRow b 24 4 u l.aM.length (fj l.aM)/\r=rh 0 (u,l.aM.length,fj l.aM):=λr v=>by obtain⟨t,V,rfl⟩:=Xq.1 v;let⟨i,c⟩:=XM V;obtain⟨l,u,U,J,rfl⟩:=yl c;exact⟨u,l,f i l u U J,W⟩
 have G:∀r∈Fw lv tv L,∀k,r.F k->b<=k/\∃T,Ty y k T:=λr v k e=>by
  rcases IF.1 v with rfl|v
  .exact⟨(H.lt k e).1,_,Ty.az H e⟩
  obtain⟨u,l,E,rfl⟩:=D r v;exact⟨(E.lt k e).1,_,Ty.az E e⟩
 refine h.add2 (λr v=>?_) ?_ (λr v k e=>By a (G r v k e).1) λr v s a k e C=>?_
 .rcases IF.1 v with rfl|v
  .exact fO H (In _)
  obtain⟨u,l,E,rfl⟩:=D r v;exact fO E<|In _
 .refine XT.2 ⟨λr v k e C=>?_,?_⟩
  .obtain⟨u,l,E,rfl⟩:=D r v;exact absurd ((Ty.az H e).aF<|Ty.az E C) K3
  refine YJ.2<|Y7.2 λi j c o I k e C=>?_;let⟨l,u,U,J,m⟩:=yl<|iN c;let⟨c,N,S,g,p⟩:=yl<|iN o;rw[m]at e;rw[p]at C;let⟨c,q2⟩:=Do.1 J;let⟨Y,Z⟩:=Do.1 g;have:=Y7.1 X i j c Y I k (by rw[q2];exact e);rw[Z]at this;exact this C
 let⟨c,T,g2⟩:=G r v k e;rcases w s a k C with P|⟨R,cl,P⟩
 .omega
 let⟨c,z,d⟩:=g2;rw[d]at P;cases P
def Sep.lgs(h:Sep O (Fw lv tv L++rs) y)(G:tv.length=L.length):Low y 0 lv tv L:=by
 refine⟨G,h.hd,λi l t E D=>?_⟩;have C:(Rt L tv)[i]?=some (t,l.aM.length,fj l.aM):=by grind[Rt]
 exact(h.i _<|Xw _<|IN _<|Xq.2 ⟨_,Xe C,W⟩).1
end
def J0{O:Nat}{rs:List Rs}{x:WD}(fr Z B:Nat)(data:BA)(g:Int)(h:Sep O (fN gb ab n A sb::rs) x)(hz:Zr x)(hA:GoodT<|T0 A)(hn:n+3400010<800000000000):cP 13 #[pt gb,nz fr Z B data g] x λe y=>∃lv tv E H,e=.returned (.tuple #[iy (kH A fr Z B data g).st (kH A fr Z B data g).ac (kH A fr Z B data g).aa lv,iI (kH A fr Z B data g).er])/\E<=n+3400010/\tv.length=(kH A fr Z B data g).lg.length/\Sep O (Fw lv tv (kH A fr Z B data g).lg++fN gb ab E (kH A fr Z B data g).aw H::rs) y/\Below O x y:=by
 have R:HostAt gb ab n A sb x:=⟨h.hd.row,h.hd.aw,hz⟩
 have U:=h.ge<|LZ W;have Q:∀y (d:Sep _ _ y),Sep O (Fw dL [] []++fN gb ab n A sb::rs) y:=λy d=>IK d d.s ⟨W,Xy _ _ _ _,λi l t f=>K2,List.Pairwise.nil⟩ λr c k Y=>LZ<|d.lts r c k Y;unfold kH;by_cases C:data.size<=500/\0<=g/\g<=100000
 .rw[At C];obtain⟨m,rfl⟩:∃m:Nat,g=m:=⟨g.toNat,wq⟩
  refine(NX fr Z m x R C.1 wq hA hn).mono ?_;rintro e y c;unfold WA at c;rw[show(m:Int).toNat=m from W];by_cases f:decide (gP (A fr).ai B<0)=true
  .rw[At f]at c⊢;obtain⟨rfl,D,Y⟩:=c;have d:Sep _ (fN gb ab n A sb::rs) y:=h.kb ⟨D.row,D.aw⟩ Y (λk Y=>LZ<|BY.1 Y) λk Y=>LZ Y;exact⟨_,[],n,sb,W,X7 _ _,W,Q y d,Y.bel (λk Y=>K9) h.s⟩
  rw[iF f]at c⊢;obtain⟨lv,b,tv,E,H,rfl,D,P,f,I,⟨S2,Y,X⟩,J⟩:=c;have G:∀k∈gb::S2,(fN gb ab n A sb).F k:=λk Y=>(IF.1 Y).imp id<|X k;have d:Sep _ (fN gb ab E _ _::rs) y:=h.kb ⟨D.row,D.aw⟩ Y G λk Y=>Y.elim (λe=>LZ<|LZ e) λV=>(J k V).imp A4 id;refine⟨lv,tv,E,_,W,P,I.1,IK d (By h.s f) I λr c k Y=>?_,Y.bel (λk Y=>h.ge<|G k Y) h.s⟩;rcases IF.1 c with rfl|c
  .rcases Y with rfl|Y
   .exact LZ (Xg h.hd.row.lt f)
   exact A4<|D.aw.isMap Y
  exact LZ<|Xg (h.tl.lts r c k Y) f
 rw[iF C];refine(Re fr Z g C x).mono ?_;rintro e y⟨rfl,f⟩;exact⟨_,[],n,sb,W,X7 _ _,W,Q y<|h.below f,f.mono h.s⟩
variable {B:Nat}
def DF{mb fr Z B:Nat}{data:BA}{g:Int}{G:Vr}(h:tG s t<|pt mb)(C:rowL x mb 43<|kZ fr Z B data g)(E:K (Wb s d<|nz fr Z B data g) x):Oper.wp prog ⟨some d,.load 43<|.tmp t,G,pos,af,gd⟩ s x K Q:=by have mm:=C.cs;simp only[oI,kZ,wl,XN,XG,Nat.reduceAdd]at mm;go_simp;exact E
def Am{E:Vr}(C:K (Wb s d<|pt x.heap.size)<|x.alloc zd):Oper.wp prog ⟨some d,.alloc 38,E,pos,af,gd⟩ s x K Q:=by go_simp;exact C
def CallK(st gs:Nat)(aa:BA)(er:Int)(D:VL->X4):Kp:=λp v x=>p≠0/\∃ad m c,v=.tuple #[iy st gs aa<|.slice ad m c,.int .i64 er]/\(p=1->D (.slice ad m c) x)
def ResK(st gs:Nat)(aa:BA)(D:VL->X4):Kp:=λp v x=>p≠0/\∃ad m c,v=iy st gs aa (.slice ad m c)/\(p=1->D (.slice ad m c) x)
def RowK(Zq9:Nat->X4)(D2:Nat->VL->X4):Kp:=λp v x=>∃b,v=pt b/\(p<=1->Zq9 b x)/\(p=2->∃lv,D2 b lv x)
def PhSn(P0:X4)(D:VL->X4)(D2:Nat->VL->X4):Nat->X4
 |0,x=>P0 x
 |1,x=>∃lv,D lv x
 |_,x=>∃b lv,D2 b lv x
def Po(d:Nat)(Zq9:Nat->X4)(D2:Nat->VL->X4):Nat->Act->WD->X4
 |0,_,x,x'=>∀b,Zq9 b x->Zq9 b x'
 |_,s,_,x'=>∃b lv,s.tmps.getD d undef=pt b/\D2 b lv x'
section
variable {g:Int}{D:VL->X4}
def E9(E:∀x x',P0 x->bW x x'->P0 x')(C:∀H x x',D H x->bW x x'->D H x')(G:∀b H x x',D2 b H x->bW x x'->D2 b H x')(k:Nat)(x x':WD)(h:PhSn P0 D D2 k x)(I:bW x x'):PhSn P0 D D2 k x':=by
 match k,h with
 |0,h=>exact E x x' h I
 |1,⟨H,h⟩=>exact⟨H,C H x x' h I⟩
 |_+2,⟨b,H,h⟩=>exact⟨b,H,G b H x x' h I⟩
def CallK.bel{x:WD}(L:CallK st gs aa er D p v x)(C:∀J x x',D J x->bW x x'->D J x')(J:bW x x'):CallK st gs aa er D p v x':=by let⟨G,I,m,c,E,H⟩:=L;exact⟨G,I,m,c,E,λh=>C _ x x' (H h) J⟩
def ResK.bel{x:WD}(L:ResK st gs aa D p v x)(C:∀J x x',D J x->bW x x'->D J x')(J:bW x x'):ResK st gs aa D p v x':=by let⟨G,I,m,c,E,H⟩:=L;exact⟨G,I,m,c,E,λh=>C _ x x' (H h) J⟩
def RowK.bel{x:WD}(L:RowK Zq9 D2 p v x)(bZ:∀b x x',Zq9 b x->bW x x'->Zq9 b x')(H:∀b I x x',D2 b I x->bW x x'->D2 b I x')(J:bW x x'):RowK Zq9 D2 p v x':=by let⟨b,E,C,G⟩:=L;exact⟨b,E,λh=>bZ b x x' (C h) J,λh=>(G h).imp λI h=>H b I x x' h J⟩
def rP{x:WD}(hne:¬p=0)(I:p<2)(I:CallK st gs aa er D p v x):CallK st gs aa er D (p+1) v x':=by let⟨G,E,m,c,C,H⟩:=I;exact⟨Nat.succ_ne_zero _,E,m,c,C,λh=>absurd h wq⟩
def vz{x:WD}(E:p<2)(C:CallK st gs aa er D p v x):CallK st gs aa er D (p+1) v x':=rP C.1 E C
def Av{x:WD}(I:p<2)(I:ResK st gs aa D p v x):ResK st gs aa D (p+1) v x':=by let⟨G,E,m,c,C,H⟩:=I;exact⟨Nat.succ_ne_zero _,E,m,c,C,λh=>absurd h wq⟩
def zP{s:Act}{x:WD}(I:p<2)(hrel:Po d Zq9 D2 p s x x')(H:RowK Zq9 D2 p (iY s<|some d) x):RowK Zq9 D2 (p+1) (iY s<|some d) x':=by
 let⟨b,E,C,G⟩:=H;match p,I,hrel with
 |0,_,h=>exact⟨b,E,λ_=>h b<|C<|In _,λh=>absurd h wq⟩
 |1,_,⟨b',lv,e1,e2⟩=>exact⟨b',e1,λh=>absurd h wq,λ_=>⟨lv,e2⟩⟩
def rO{f V:Nat}(hn:(r=1/\f=13/\V=0/\d=0/\e=0)\/(r=2/\f=41/\V=1/\d=9/\e=2)){a:Act}{Q:Y6}(hs:a.tmps.size=66)(q:tG a 0<|pt pb)(a4:tG a 4<|pt mb)(h0:P0 w.drew)(q:∀x x',P0 x->bW x x'->P0 x')(X:∀u x x',D u x->bW x x'->D u x')(bZ:∀b x x',Zq9 b x->bW x x'->Zq9 b x')(n:∀b u x x',D2 b u x->bW x x'->D2 b u x')(hl:∀x,P0 x->cL x pb V (pt U))(Y:∀x,P0 x->rowL x mb 43 (kZ fr Z B data g))(hc:∀x,P0 x->cP f #[pt U,nz fr Z B data g] x λe z=>∃L m c,e=.returned (.tuple #[iy st gs aa<|.slice L m c,iI er])/\D (.slice L m c) z/\∀b,Zq9 b x->Zq9 b z)(z0:∀x,P0 x->Zq9 x.heap.size (x.alloc zd))(z1:∀u x,D u x->Zq9 x.heap.size (x.alloc zd))(zr:∀b x,Zq9 b x->ResAt x b 0 0 ⟨#[]⟩ dL)(T:∀b u x,D u x->Zq9 b x->D2 b u (gB x b st gs aa u))(hQ:∀(u1 u2 u3:VL) b u x,D2 b u x->Q .normal (dQ a [(13+d,pt pb),(14+d,pt pb),(15+d,pq pb V),(16+d,pt U),(17+d,nz fr Z B data g),(18+d,u1),(12+d,u2),(19+d,u3),(20+d,iI er),(7+e,pt b),(8+e,iI er)]) x):(ym f18 r).wp prog Q a w:=by
 have hd:0<=d:=In _;have o:0<=e:=In _;rcases hn with⟨rfl,rfl,rfl,rfl,rfl⟩|⟨rfl,rfl,rfl,rfl,rfl⟩;all_goals
  refine jB _ (λx=>dO _ x) _ (Po (7+gD o) Zq9 D2) [(0,pt pb),(4,pt mb)] [(some<|13+gD hd,.v<|pt pb),(some<|14+gD hd,.v<|pt pb),(some<|15+gD hd,.v _),(some<|16+gD hd,.v _),(some<|17+gD hd,.v _),(some<|18+gD hd,.l<|CallK st gs _ er D),(some<|12+gD hd,.l<|CallK st gs _ er D),(some<|19+gD hd,.l<|ResK st gs _ D),(some<|20+gD hd,.v _),(some<|7+gD o,.l<|RowK Zq9 D2),(none,.v _),(some<|8+gD o,.v<|iI er)] [5,10] [3,4,6,7,8,9] [] (ha:=⟨N0,by rw[hs];rfl,K9,N0⟩) K2 K2 h0 (E9 q X n)
   ⟨(λC hv H=>by
    refine o6 @hv (hc _ C) (λv x' h=>?_) (λl x' h=>K9)<|λx' h=>K9;obtain⟨L,m,c,h1,q,h3⟩:=h;cases ZH h1;exact H _ x' ⟨_,q⟩ h3 nn1 ⟨Nat.one_ne_zero,L,m,c,W,λ_=>q⟩),(@λs x I E K C hv H=>by
    obtain⟨b,j,O,_⟩:=E (7+gD o) _ W;obtain⟨_,L,m,c,R,y⟩:=E (19+gD hd) _ W;have P:=T b _ x (y W)<|O<|DO _;exact pN j R (zr b x<|O<|DO _)<|H _ _ ⟨b,_,P⟩ ⟨b,_,j,P⟩ (λ_=>W) W),AF⟩
   ⟨(@λk s x q J I E K G C hv H=>by
    obtain rfl:k=0:=by have:=G 0 5;omega
    exact dm (hv W) (hl x C)<|kx H),(@λk s x q J I E K G C hv H=>by
    obtain rfl:k=0:=by have:=G 0 5;omega
    exact DF (hv W) (Y x C)<|kx H),(@λk s x q J I E K G C hv H=>gW W<|H _ x (dO _ _) nn1<|E (18+gD hd) _ W),(@λk s x q J I E K G C hv H=>by
    obtain⟨N,L,m,c,R,y⟩:=E (12+gD hd) _ W;exact IJ R<|H _ x (dO _ _) nn1 ⟨N,L,m,c,W,y⟩),(@λk s x q J I E K G C hv H=>by
    obtain⟨N,L,m,c,R,y⟩:=E (12+gD hd) _ W;exact I0 R<|kx H),(@λk s x q J I E K G C hv H=>by
    have S:=G 1 10;refine Am<|H _ _ (ai (dO _ x) _) nn1 ⟨_,W,λ_=>?_,λh=>absurd h wq⟩;match k,S,C with
    |0,_,h=>exact z0 x h
    |1,_,⟨u,h⟩=>exact z1 u x h),AF⟩
   (λi d T9 hq p s x x' A hp C hrel q=>by
    rcases zZ ((Do.1 hq).1)with rfl|rfl|rfl|rfl|rfl|rfl|rfl|rfl|rfl|rfl|rfl|rfl;all_goals first
     |(cases hq;done)
     |(obtain⟨rfl,e9⟩:=Xi (hV hq)
       cases Zk e9;first
        |exact rP (λh=>A (by rw[h];rfl)) hp q
        |exact vz hp q
        |exact Av hp q
        |exact zP hp hrel q))
   (λi d T9 hq p v x x' C hb q=>by
    have Y:=Xe hq;simp only[IF,XV,reduceCtorEq,Zb,Za,XI,Xk,En.l.injEq]at Y;rcases Y with⟨-,rfl⟩|⟨-,rfl⟩|⟨-,rfl⟩|⟨-,rfl⟩
    .exact q.bel X hb
    .exact q.bel X hb
    .exact q.bel X hb
    exact q.bel bZ n hb) ?_
  intro F x C q;obtain⟨b,j,_,O⟩:=q 9 _ _ W;obtain⟨u,O⟩:=O W;have P:=hQ (F 5) (F 6) (F 7) b u x O;rwa[<-j]at P
end
variable {RS:List Rs}
def NoT(T:Nat)(r:Rs):=∀(x:WD)(k:Nat),r.I x->r.F k->¬Ty x k T
theorem JE{T:Nat}(h:T≠e):NoT T (fp e sz v n xs):=λx k C E D=>h<|D.aF<|Ty.az C E
def ED:NoT 38 (fN gb ab n A sb):=λx k C I D=>by
 rcases I with rfl|I
 .exact absurd (D.aF<|Ty.aB C.row) K3
 let⟨H,cl,h⟩:=C.aw.isMap I;let⟨I,E,G⟩:=D;grind
def Jf:NoT 38 (iK hb pu sl pv lv):=λx k C E D=>by
 rcases E with rfl|E|E
 .exact absurd (D.aF<|Ty.aB C.row) K3
 .exact absurd (D.aF<|Ty.az C.pu E) K3
 exact absurd (D.aF<|Ty.az C.sl E) K3
def Rz{L:List LogE}:∀r∈Fw lv tv L,NoT 38 r:=λr C=>by
 rcases IF.1 C with rfl|C
 .grind[JE]
 obtain⟨t,_,rfl⟩:=Xq.1 C;exact JE K3
def Zrow(O:Nat)(RS:List Rs)(b:Nat)(x:WD):=rowL x b 38 [.int .u8 0,.int .i64 0,.string ⟨#[]⟩,dL]/\O<=b/\∀r∈RS,¬r.F b
section
variable {q:List Rs}
def Zrow.below(h:Zrow O RS b x)(hb:bW x y):Zrow O RS b y:=⟨h.1.below hb,h.2⟩
def Zrow.new(h:Sep O (q++RS) x):Zrow O RS x.heap.size (x.alloc zd):=⟨rowL.al x [iB 0,iI 0,.string ⟨#[]⟩,dL] _,h.s,λr D C=>absurd (h.lts r (Xn _ D) _ C)<|Yg _⟩
def Zrow.bz(h:Zrow O RS b x):ResAt x b 0 0 ⟨#[]⟩ dL:=⟨⟨h.1.cell W,h.1.cell W,h.1.cell W,h.1.cell W⟩,World.rowIs.frozen h.1 0,World.rowIs.frozen h.1 1,World.rowIs.frozen h.1 2,World.rowIs.frozen h.1 3⟩
def Zrow.call(h:Zrow O RS b x)(J:Sep O (q++RS) x)(I:∀r∈q,NoT 38 r)(D:Sep O (q'++[MP O x q]) y):Zrow O RS b y:=by let⟨E,C⟩:=(D.i _<|Xn _<|YL _).1;refine⟨World.rowIs.of_block h.1<|C b h.2.1 (World.rowIs.lt h.1) λr G H=>?_,h.2⟩;exact I r G x b (J.i r<|Xw _ G).1 H<|Ty.aB h.1
theorem Zrow.put(h:Zrow O RS b x)(U:Sep O (q++RS) x)(V:∀r∈q,NoT 38 r)(st gs:Nat)(aa:BA)(lv:VL):Sep O (gj b 38 [iB (st:Int),iI (gs:Int),.string aa,lv]::(q++RS)) (gB x b st gs aa lv)/\Below O x (gB x b st gs aa lv):=by
 have H:Sep _ ([gj b 38 _]++(q++RS)) x:=U.add2 (λr Q=>by rw[BY.1 Q];exact h.1) (XO _ _) (λr Q k P=>by rw[BY.1 Q]at P;rw[P];exact h.2.1) λr Q s C k P D=>by
  rw[BY.1 Q]at P;obtain rfl:k=b:=P;rcases Xr.1 C with C|C
  .exact V s C x k (U.i s<|Xw _ C).1 D (Ty.aB h.1)
  exact h.2.2 s C D
 let⟨J,E⟩:=Sep.set H 0<|iB st;let⟨G,b2⟩:=Sep.set J 1<|iI gs;let⟨L,b3⟩:=Sep.set G 2<|.string aa;let⟨I,b4⟩:=Sep.set L 3 lv;exact⟨I,((E.trans b2).trans b3).trans b4⟩
end
abbrev PB(pb gb ab n hb bb:Nat)(A:Nat->Acc)(sb:Vp)(pu:List Pur)(sl:List Slt)(pv lv:VL)(G:Nat->VL×Tn)(rs:List Rs):List Rs:=gj pb 106 [pt gb,pt hb]::fN gb ab n A sb::iK hb pu sl pv lv::eH bb G::rs
def pm3{α:Type}{C rs:List α}{a b c d e:α}:(a::(C++b::c::d::e::rs)).Perm (e::a::(C++b::c::d::rs)):=by rw[(K2:a::(C++b::c::d::e::rs)=(a::C++[b,c,d])++e::rs),(K2:e::a::(C++b::c::d::rs)=e::((a::C++[b,c,d])++rs))];exact X6
def pm4{α:Type}{C rs:List α}{a b c d e f g:α}:(a::b::c::(C++d::e::f::g::rs)).Perm (g::(C++a::b::c::d::e::f::rs)):=by rw[(K2:a::b::c::(C++d::e::f::g::rs)=([a,b,c]++(C++[d,e,f]))++g::rs)];refine X6.trans<|List.Perm.cons _ ?_;rw[show[a,b,c]++(C++[d,e,f])++rs=[a,b,c]++(C++([d,e,f]++rs)) by simp];exact List.perm_append_comm_assoc _ _ _
def pm7{α:Type}{rs:List α}{k d r h m p:α}:(k::d::r::h::m::p::rs).Perm (r::m::p::h::d::k::rs):=by have e:([p,m,h,r]).Perm [r,m,p,h]:=(X6 (l₁:=[p,m,h])).trans<|List.Perm.cons _<|List.Perm.swap _ _ _;exact((List.reverse_perm [k,d,r,h,m,p]).symm.trans<|e.append_right _).append_right rs
def KP{O:Nat}{G:Nat->VL×Tn}{x:WD}(fr Z:Nat)(g:Int)(h:Sep O (PB pb gb ab n hb bb A sb pu sl pv lv G rs) x)(hz:Zr x)(h0:0<O)(hc:Cd ⟨pu,sl,[]⟩)(hr:RelW (T0 A) ⟨pu,sl,[]⟩)(hn:n<=400000000000)(d3:pu.length<=400000000)(b9:sl.length<=400000000)(h4:∀k,(G k).2.length%4=0)(hG:∀k,(G k).2.length+400000<=4000000000000):cP 18 #[pt pb,nz fr Z B data g,pt bb] x λe y=>e=.returned (.bool true)/\∃w E Y C P J H I m,Sep O (PB pb gb ab E hb bb Y C P J H I w rs) y/\Below O x y/\E<=n+3400010/\RelW (T0 Y) ⟨P,J,[]⟩/\Cd ⟨P,J,[]⟩/\P.length<=pu.length+2003/\J.length<=sl.length+1000/\gF ⟨P,J,[]⟩<=gF ⟨pu,sl,[]⟩+501/\m<=100000/\EG G w λk=>if k=1 then 4 else if k=0 then 4*m else 0:=by
 obtain⟨b7,hal⟩:=NU fr Z B data g hr hc (By d3 wq)<|By b9 wq;have c0:=cV<|CZ hr hc;have d:Hd (∀(n:Nat)(rs:List Rs)(y:WD),n+3400010<800000000000->Sep O (fN gb ab n A sb::rs) y->Zr y->cP 13 #[pt gb,nz fr Z B data g] y λe z=>∃lv tv E C,e=.returned (.tuple #[iy (kH A fr Z B data g).st (kH A fr Z B data g).ac (kH A fr Z B data g).aa lv,iI (kH A fr Z B data g).er])/\E<=n+3400010/\tv.length=(kH A fr Z B data g).lg.length/\Sep O (Fw lv tv (kH A fr Z B data g).lg++fN gb ab E (kH A fr Z B data g).aw C::rs) z/\Below O y z):=λn rs y hn hs hz=>J0 fr Z B data g hs hz c0 hn;have j:Hd (∀(rs:List Rs)(y:WD),Sep O (iK hb pu sl pv lv::rs) y->cP 41 #[pt hb,nz fr Z B data g] y (EK O hb rs (tj pu sl fr Z B data g) y)):=λrs y hs=>EF fr Z g hs b7 (By d3 wq)<|By b9 wq;generalize kH A fr Z B data g=R at*;generalize tj pu sl fr Z B data g=S at*;obtain⟨st,gs,aa,L,er,Y⟩:=R;obtain⟨st',gs',out',L',er',P,J⟩:=S;obtain⟨e1,e2,e3,e4,e5,ll,tp,rel,cd,e6,e7,e0⟩:=hal;dsimp only at e1 e2 e3 e4 e5 ll tp rel cd e6 e7 e0 d;subst e1 e2 e3 e4 e5;unfold EK at j;dsimp only at j;have d5:=cV<|aIn rel<|aIn cd<|aIn e6<|aIn e7 e0;have K:=cV ll;have d1:=cV tp;have HZ:=cV hz;have HG4:=cV h4;have HGG:=cV hG;obtain⟨x1,F⟩:=hJ<|x.alloc<|.cells (kZ fr Z B data g).toArray 43;have a9:Hd (Below O x x1):=by rw[F];exact ai (dO _ x) _ |>.mono h.s
 have a0:Hd (Sep O (fN gb ab n A sb::gj x.heap.size 43 (kZ fr Z B data g)::gj pb 106 [pt gb,pt hb]::iK hb pu sl pv lv::eH bb G::rs) x1):=by rw[F];exact(h.row (kZ fr Z B data g) 43).bG
 obtain⟨mb,b1⟩:=hJ x.heap.size;rw[<-b1]at a0;clear h hz hc hr h4 hG rel cd e6 e7 e0 ll tp b7 c0;unfold nz;go_enter func18,ntmps18;go_upto_region 1 with fail
 change Code.wp _ _ _ _ (x.alloc<|.cells (kZ fr Z B data g).toArray 43);rw[<-F,<-b1];clear F b1;refine rO (LZ ⟨W,W,W,W,W⟩) (mb:=mb) (U:=gb) (fr:=fr) (Z:=Z) (B:=B) (data:=data) (g:=g) (st:=st) (gs:=gs) (aa:=aa) (er:=er)
  (P0:=λy=>Sep _ (fN gb ab n A sb::gj mb 43 (kZ fr Z B data g)::gj pb 106 [pt gb,pt hb]::iK hb pu sl pv lv::eH bb G::rs) y/\Below O x1 y)
  (D:=λlw y=>∃tv E C,E<=n+3400010/\tv.length=L.length/\Sep O (Fw lw tv L++fN gb ab E Y C::gj mb 43 (kZ fr Z B data g)::gj pb 106 [pt gb,pt hb]::iK hb pu sl pv lv::eH bb G::rs) y/\Below O x1 y)
  (Zq9:=Zrow O<|gj mb 43 (kZ fr Z B data g)::gj pb 106 [pt gb,pt hb]::iK hb pu sl pv lv::eH bb G::rs)
  (D2:=λb lw y=>∃tv E C,E<=n+3400010/\tv.length=L.length/\Sep O (gj b 38 [iB (st:Int),iI gs,.string aa,lw]::(Fw lw tv L++fN gb ab E Y C::gj mb 43 (kZ fr Z B data g)::gj pb 106 [pt gb,pt hb]::iK hb pu sl pv lv::eH bb G::rs)) y/\Below O x1 y)
  rfl W W ⟨a0.drew,(dO _ _).drew⟩ ?_ ?_ ?_ ?_ ?_ ?_ ?_ ?_ ?_ ?_ ?_ ?_
 .exact λy y' h hb=>⟨h.1.below hb,h.2.trans<|hb.mono h.1.s⟩
 .rintro lw y y' ⟨tv,E,C,q1,q2,Q,N⟩ hb;exact⟨tv,E,_,q1,q2,Q.below hb,N.trans<|hb.mono Q.s⟩
 .exact λb y y' h hb=>h.below hb
 .rintro b lw y y' ⟨tv,E,C,q1,q2,Q,N⟩ hb;exact⟨tv,E,_,q1,q2,Q.below hb,N.trans<|hb.mono Q.s⟩
 .exact λy h=>h.1.tl.tl.c 0 W
 .exact λy h=>h.1.tl.hd
 .intro y h;refine(d n _ y wq (Sep.fix (q:=[fN gb ab n A sb]) h.1)<|HZ.bq h0<|a9.trans h.2).mono ?_;rintro e z⟨lw,tv,E,C,rfl,q1,q2,Q,N⟩;obtain⟨f,cp,rfl⟩:=dt Q.hd;have q5:Sep O ((Fw (.slice f L.length cp) tv L++[fN gb ab E Y C])++[MP O y [fN gb ab n A sb]]) z:=by rwa[XL]
  have q6:=Sep.cF (q:=[fN gb ab n A sb]) h.1 q5;rw[XL]at q6;exact⟨f,_,cp,W,⟨tv,E,_,q1,q2,q6,h.2.trans N⟩,λb hz=>hz.call (q:=[fN gb ab n A sb]) h.1 (λr hr=>by rw[BY.1 hr];exact ED) q5⟩
 .exact λy h=>Zrow.new (q:=[fN gb ab n A sb]) h.1
 .rintro lw y ⟨tv,E,C,q1,q2,Q,N⟩;exact Zrow.new (q:=Fw lw tv L++[fN gb ab E Y _]) (by rw[XL];exact Q)
 .exact λb y h=>h.bz
 .rintro b lw y ⟨tv,E,C,q1,q2,Q,N⟩ hz;obtain⟨k1,k2⟩:=hz.put (q:=Fw lw tv L++[fN gb ab E Y _]) (by rw[XL];exact Q) (λr hr=>by
   rcases Xr.1 hr with hr|hr
   .exact Rz r hr
   rw[BY.1 hr];exact ED) st gs aa lw
  rw[XL]at k1;exact⟨tv,E,_,q1,q2,k1,N.trans k2⟩
 rintro u1 u2 u3 b lw y⟨tv,E,C,hn',b0,a6,c9⟩;have b8:=cV<|a6.bh<|pm3;have c8:=cV<|a9.trans c9;obtain⟨f,cp,rfl⟩:∃f cp,lw=.slice f L.length cp:=dt a6.tl.hd;clear a6 c9 a0 a9 d;simp only[n8,sx9];go_upto_region 2 with fail
 refine rO (A4 ⟨W,W,W,W,W⟩) (mb:=mb) (U:=hb) (fr:=fr) (Z:=Z) (B:=B) (data:=data) (g:=g) (st:=st) (gs:=gs) (aa:=aa) (er:=er)
  (P0:=λz=>Sep O (iK hb pu sl pv lv::gj b 38 [iB (st:Int),iI (gs:Int),.string aa,.slice f L.length cp]::(Fw (.slice f L.length cp) tv L++fN gb ab E Y C::gj mb 43 (kZ fr Z B data g)::gj pb 106 [pt gb,pt hb]::eH bb G::rs)) z/\Below _ x z)
  (D:=λgv z=>∃H I V,Sep O (iK hb P J H I::gj b 38 [iB st,iI (gs:Int),.string aa,.slice f L.length cp]::(Fw (.slice f L.length cp) tv L++fN gb ab E Y C::gj mb 43 (kZ fr Z B data g)::gj pb 106 [pt gb,pt hb]::eH bb G::rs)) z/\Low z 0 gv V L/\Below O x z)
  (Zq9:=Zrow O<|gj b 38 [iB st,iI (gs:Int),.string aa,.slice f L.length cp]::(Fw (.slice f L.length cp) tv L++fN gb ab E Y C::gj mb 43 (kZ fr Z B data g)::gj pb 106 [pt gb,pt hb]::eH bb G::rs))
  (D2:=λc gv z=>∃H I V,Sep O (gj c 38 [iB st,iI gs,.string aa,gv]::iK hb P J H I::gj b 38 [iB st,iI gs,.string aa,.slice f L.length cp]::(Fw (.slice f L.length cp) tv L++fN gb ab E Y C::gj mb 43 (kZ fr Z B data g)::gj pb 106 [pt gb,pt hb]::eH bb G::rs)) z/\Low z 0 gv V L/\Below O x z)
  rfl W W ⟨b8.drew,c8.drew⟩ ?_ ?_ ?_ ?_ ?_ ?_ ?_ ?_ ?_ ?_ ?_ ?_
 .exact λy y' h hb=>⟨h.1.below hb,h.2.trans<|hb.mono h.1.s⟩
 .rintro lw y y' ⟨H,I,V,q1,q2,Q⟩ hb;exact⟨_,_,_,q1.below hb,q2.kbt (Kb.h (S:=[]) hb) K2,Q.trans<|hb.mono q1.s⟩
 .exact λb y y' h hb=>h.below hb
 .rintro b lw y y' ⟨H,I,V,q1,q2,Q⟩ hb;exact⟨_,_,_,q1.below hb,q2.kbt (Kb.h (S:=[]) hb) K2,Q.trans<|hb.mono q1.s⟩
 .intro y h;exact(h.1.tl.tl.ap.tl.tl).c 1 W
 .intro y h;exact(h.1.tl.tl.ap.tl).hd
 .intro y h;refine(j _ y<|Sep.fix (q:=[iK hb pu sl pv lv]) h.1).mono ?_;rintro e z⟨H,I,gv,V,rfl,q1,q2,Q⟩;obtain⟨a2,c2,rfl⟩:=dt Q.2.1;have q5:Sep _ ([iK hb _ _ _ _]++[MP O y [iK hb pu sl pv lv]]) z:=q1;exact⟨a2,_,c2,W,⟨_,_,_,Sep.cF (q:=[iK hb pu sl pv lv]) h.1 q5,Q,h.2.trans q2⟩,λb hz=>hz.call (q:=[iK hb pu sl pv lv]) h.1 (λr hr=>by rw[BY.1 hr];exact Jf) q5⟩
 .exact λy h=>Zrow.new (q:=[iK hb pu sl pv lv]) h.1
 .rintro lw y ⟨H,I,V,q1,q2,Q⟩;exact Zrow.new (q:=[iK hb _ _ _ _]) q1
 .exact λb y h=>h.bz
 .rintro c gv y ⟨H,I,V,q1,q2,Q⟩ hz;obtain⟨k1,k2⟩:=hz.put (q:=[iK hb _ _ _ _]) q1 (λr hr=>by rw[BY.1 hr];exact Jf) st gs aa gv;refine⟨_,_,_,k1,q2.kbt (S:=[c]) (jE (Kb.refl _ y) AI)<|λk hk T hT=>?_,Q.trans k2⟩;rw[BY.1 hk]at hT;rw[hT.aF<|Ty.aB hz.1];decide
 rintro v1 v2 v3 c gv z⟨H,I,V,o,p,d0⟩;obtain⟨ad2,cp2,rfl⟩:∃f cp,gv=.slice f L.length cp:=dt p.2.1;have a7:=cV o;have d4:=cV d0;have d7:=o.tl.tl.c 3 W;have k23:=o.c 3 W;have W3:=cV (SO L z (o.tl.tl.tl.lgs b0) p (by have:=K.aa;omega) (λa ha=>by have:=d1.aa a ha;omega));clear o p d0 b8 c8 j;simp only[n8,sx9];go_upto_region 4 with(first|(go_at_call 42;refine W3.aa.mono ?_;rintro e z4⟨rfl,b6⟩)|fail);have a8:=a7.aa.below b6;have d6:=cV<|d4.trans<|b6.mono a7.s;replace d7:=a8.tl.tl.c 3 W;have W4:=cV (eh (LZ ⟨W,W,W,W,W⟩) (a8.bh<|pm4) (VE b0) (tsL_x b0) (λt ht=>by obtain⟨i,hi⟩:=XM ht;obtain⟨l,u,e1,_,rfl⟩:=yl hi;have:=d1.aa l<|Xe e1;show l.aM.length<=_;omega) HG4 (λk=>by have:=HGG.aa k;have:=K.aa;omega) (by have:=K.aa;omega));clear k23 b6 a8 a7 d4 W3;go_upto_region 5 with(first|(go_at_call 43;refine W4.aa.mono ?_;rintro e z5⟨rfl,w,X,d9,d8⟩)|fail);have i0:=X.tl.tl.tl.c 0 W;have i1:=X.tl.tl.tl.c 1 W;have i2:=X.tl.tl.tl.c 2 W;have j0:=X.tl.c 0 W;have j1:=X.tl.c 1 W;have j2:=X.tl.c 2 W;have HE:Hd (∃w E Y C P J H I m,Sep O (PB pb gb ab E hb bb Y C P J H I w rs) z5/\Below O x z5/\E<=n+3400010/\RelW (T0 Y) ⟨P,J,[]⟩/\Cd ⟨P,J,[]⟩/\P.length<=pu.length+2003/\J.length<=sl.length+1000/\gF ⟨P,J,[]⟩<=gF ⟨pu,sl,[]⟩+501/\m<=100000/\EG G w λk=>if k=1 then 4 else if k=0 then 4*m else 0):=by obtain⟨a1,a2,a3,a4,a5⟩:=d5.aa;refine⟨w,E,Y,C,_,_,H,I,L.length,?_,d6.trans d9,hn',a1,a2,a3,a4,a5,K,d8⟩;exact(X.sw.tl.bh<|pm7).tl.tl
 clear X d9 d8 W4 d6 d7;go_wp2;go_ret;exact⟨W,HE⟩
abbrev noG:Nat->VL×Tn:=λ_=>(dL,[])
def PI(h:rowL x bb 52 [dL,dL,dL,dL]):(eH bb noG).I x:=⟨h,λk D=>Xy _ _ _ _,λk D i v C=>(by cases C),Xy _ _ _ _,λi v k C=>(by cases C)⟩
def Sep.book(h:Sep O rs x):Sep O (eH x.heap.size noG::rs) (x.alloc<|.cells #[dL,dL,dL,dL] 52):=
 h.new (r:=eH x.heap.size noG) (PI<|rowL.al x [dL,dL,dL,dL] _) (ai (dO _ x) _) λk E=>by
  rcases E with rfl|⟨c,D,E|⟨v,C,_⟩⟩|E
  .omega
  .cases E
  .cases C
  cases E
def hg4(k m n:Nat)(h:n=(if k=3 then 4 else if k=2 then 28 else 0)+(if k=1 then 4 else if k=0 then 4*m else 0)):n%4=0:=K9
def hg6(k:Nat):(0+(if k=3 then 4 else if k=2 then 28 else 0))%4=0/\(if k=3 then 4 else if k=2 then 28 else 0)<=28:=K9
def hg5(k m:Nat):(if k=3 then 4 else if k=2 then 28 else 0)+(if k=1 then 4 else if k=0 then 4*m else 0)<=32+4*m:=K9
theorem rL:∀(M:Td)(a:Act),(dQ a M).tmps.size=a.tmps.size/\(dQ a M).defers=a.defers
 |[],a=>⟨W,W⟩
 |p::M,a=>by let⟨C,D⟩:=rL M<|a.put (some p.1) p.2;exact⟨C.trans<|by simp[Act.put],D⟩
theorem zH(j:Nat):∀(M:Td)(a:Act),(∀p∈M,p.1≠j)->(dQ a M).tmps.toList[j]?=a.tmps.toList[j]?
 |[],a,_=>rfl
 |p::M,a,h=>by refine(zH j M (a.put _ _) λq C=>h q<|IN _ C).trans ?_;grind[Act.put]
def rH{a:Act}{lo hi:Nat}{M:Td}{b:Act}{P:Act->Prop}(f:dQ a M=b)(G:M=M.dropLast++[(hi,v)]:=by rfl)(X:(M.dropLast.all λp=>decide (lo<=p.1)&&decide (p.1<hi))=true:=by rfl)(Z:lo<=hi:=by decide)(Z:hi<a.tmps.size:=by simp)(z:a.defers=[]:=by rfl)(h:po (hi-lo) λl=>P ⟨(a.tmps.toList.take lo++(l++v::a.tmps.toList.drop (hi+1))).toArray,[]⟩):P b:=by
 subst f;rw[G];generalize M.dropLast=Nq9 at*;have H:∀p∈Nq9,lo<=p.1/\p.1<hi:=λp f=>K9
 let⟨C,J⟩:=rL (Nq9++[(hi,v)]) a;have D:∀j,j<lo\/hi<j->(dQ a<|Nq9++[(hi,v)]).tmps.toList[j]?=a.tmps.toList[j]? :=λj Y=>zH j _ a λp f=>K9
 have g2:(dQ a<|Nq9++[(hi,v)]).tmps.toList[hi]?=some v:=by rw[(by grind[dQ]:dQ a (Nq9++[(hi,v)])=(dQ a Nq9).put (some hi) v)];have R:=(rL Nq9 a).1;show((dQ a Nq9).tmps.setIfInBounds hi v).toList[hi]?=some v;grind
 generalize dQ a (Nq9++[(hi,v)])=b at*;let⟨⟨L⟩,d⟩:=b;cases(J.trans z:d=[]);have C:L.length=a.tmps.toList.length:=C;have Z:hi<a.tmps.toList.length:=Z;have R:=yI _ h ((L.drop lo).take<|hi-lo) K9;have e:L=a.tmps.toList.take lo++((L.drop lo).take (hi-lo)++v::a.tmps.toList.drop (hi+1)):=by
  refine List.ext_getElem? λj=>?_;have D:=D j;by_cases V:j<lo
  .grind
  rw[Xx K9,XB,Zg wq];by_cases U:j<hi
  .grind
  rw[Xx K9,XB,X8,Zg wq];grind
 grind
theorem It(h:q<18446744073709551616):eU (Az q)=mW q:=by grind[eU,mW,cX,Az]
theorem mk_wv(h:q<18446744073709551616):wv (Az q)=.agg #[iU 7,iU 7,iU 7,iU (q:Int)]:=Xl (λl:Tn=>Value.agg l.toArray)<|It h
def rn(C:q<9223372036854775808)(w:WD):cP 47 #[iI (q:Int)] w (rT (wv<|Az q) w):=by grind[mk_wv,kk]
theorem Ix{α:Type}:∀(n k:Nat)(m:List α)(j:Nat)(u:α),k<n->m[j]?=some u->((List.replicate n m).flatten)[k*m.length+j]?=some u
 |0,k,m,j,u,h,_=>wq
 |n+1,0,m,j,u,_,hu=>K9
 |n+1,k+1,m,j,u,h,hu=>by rw[List.replicate_succ,List.flatten_cons,Xx K9,show(k+1)*m.length+j-m.length=k*m.length+j by grind];exact Ix n k m j u wq hu
def Bk(c z:Nat)(x:WD)(bb Nq9 ocp:Nat)(oad:Gj):=Nq9<=5000000000000/\(∀y,bW x y->y.cell? ⟨bb,c,none⟩=some (.slice oad Nq9 ocp))/\∀i,i<Nq9->∃og ad m cp q4 q n9,oad=some ⟨og,0,none⟩/\m<=9223372036854775807/\Hd (q4=i/4)/\Hd (q=i/4*4)/\Hd (∀y,cP 47 #[.int .i64 (q:Int)] y λe z=>e=.returned (wv n9)/\bW y z)/\Hd (∀y,bW x y->y.cell? ⟨og,i,none⟩=some (.slice ad m cp))/\Hd (∀y g o,(∀j u,(mC c q)[j]?=some u->y.cell? ⟨g,o+j,none⟩=some u)->Wd y g o n9)/\Hd (∀k,k<m->∃g,ad=some ⟨g,0,none⟩/\∀y,bW x y->∀j u,(mC c q)[j]?=some u->y.cell? ⟨g,k*z+j,none⟩=some u)
theorem QS(q j:Nat)(u:VL)(h:(mW q)[j]?=some u):(mC c q)[j]?=some u:=by have C:=(Do.1 h).1;unfold mC;grind
def Bx(h:∀j u,(mC c q)[j]?=some u->cL y g (o+j) u)(D:q<18446744073709551616):Wd y g o (Az q):=by
 have N:∀j u,(eU<|Az q)[j]?=some u->cL y g (o+j) u:=λj u C=>by grind[It,QS]
 exact⟨N 0 _ W,N 1 _ W,N 2 _ W,N 3 _ W⟩
def ua{G:Nat->VL×Tn}{x:WD}(h:Sep O (eH bb G::rs) x)(f:∀k,(G k).2.length<=5000000000000)(c:Nat)(D:c<4:=by decide):∃oad Nq9 ocp,Bk c (cZ c) x bb Nq9 ocp oad:=by
 have J:=h.hd.aa c D;let⟨oad,ocp,R⟩:=dt J;rw[R]at J;have p:=f c;refine⟨_,_,_,p,λy C=>(C.cell h.hd.row.lt).trans (by rw[<-R];exact rowL.cell h.hd.row (match c,D with|0,_=>rfl|1,_=>rfl|2,_=>rfl|3,_=>rfl)),λi l=>?_⟩;obtain⟨-,X,rfl,P,A, -⟩:=fH J i l;let⟨Z,m,S,e,L⟩:=h.hd.md c D i _<|iN l;have:maxLen=9223372036854775807:=N0
 refine⟨X,Z,m,S,_,_,_,W,wq,W,W,λy=>rn wq y,λy C=>(C.cell P).trans ?_,λy g o C=>Bx C wq,λk N=>?_⟩
 .grind
 rcases L with⟨_,l⟩|⟨g,l,rfl,T,F,_⟩
 .omega
 refine⟨g,W,λy C j u U=>(C.cell<|qaa T).trans ?_⟩;have V:=Ix m k _ j u N U;have z:=(Do.1 U).1;rw[BP D<|i/4*4]at V z;have H:k*cZ c+j<m*cZ c:=by grind[cZ]
 have Y:(l.toList.take<|m*cZ c)[k*cZ c+j]?=some u:=by rwa[F]
 rw[ZT,At H,Zs]at Y;grind[cell_of_row]
def p9{D:Nat}(G:Hd<|D=j/4)(h:tG s t<|iI (j:Int))(H:j<=9000000000000)(C:K (Wb s d<|iI (D:Int)) x):Oper.wp prog ⟨some d,.binOp .quo 3 (.tmp t) (.const<|iI 4) 3,ty,pos,af,gd⟩ s x K Q:=by rw[G.aa]at C;have e:(j:Int).tdiv 4=((j/4:Nat)):=rfl;rw[<-(by grind[IntKind.wrap,IntKind.bits,IntKind.signed]:IntKind.i64.wrap ((j/4:Nat))=((j/4:Nat))),<-e]at C;go_simp;exact C
def rg{C:Nat}(G:Hd<|C=j/4)(D:Hd<|q=j/4*4)(h:tG s t<|iI (C:Int))(J:j<=9000000000000)(H:K (Wb s d<|iI (q:Int)) x):Oper.wp prog ⟨some d,.binOp .mul 3 (.tmp t) (.const<|iI 4) 3,ty,pos,af,gd⟩ s x K Q:=by
 have L:C<=9000000000000:=by rw[G.aa];omega
 rw[(by rw[D.aa,G.aa]:q=C*4)]at H;clear J D G;have L:IntKind.i64.wrap (C*4)=((C*4:Nat)):=by grind[IntKind.wrap,IntKind.bits,IntKind.signed]
 go_simp;first
  |exact H
  |(rw[L];exact H)
def v8(he:tG s t<|wv n)(D:tG s u<|wv n)(C:K (Wb s d<|.bool false) x):Oper.wp prog ⟨some d,.binOp .neq 24 (.tmp t) (.tmp u) 24,ty,pos,af,gd⟩ s x K Q:=by
 have G:∀w,(Op.equalIn _ 24 _<|wv n).run _ w=.ok _ w:=λw=>by rw[ig,jg W]
 go_simp;exact C
def Q6(he:tG s t<|Iy n m)(D:tG s u<|Iy n m)(C:K (Wb s d<|.bool false) x):Oper.wp prog ⟨some d,.binOp .neq 54 (.tmp t) (.tmp u) 54,ty,pos,af,gd⟩ s x K Q:=by
 have G:∀w,(Op.equalIn 10000 54 (Iy n m)<|Iy n m).run prog w=.ok true w:=λw=>by grind[P4,jg]
 go_simp;exact C
def DU(h:tG s t<|pq b off)(D:Wd x b off n)(C:Wd x b (off+4) m)(G:K (Wb s d<|Iy n m) x):Oper.wp prog ⟨some d,.load 54<|.tmp t,ty,pos,af,gd⟩ s x K Q:=by obtain⟨J,V,V,R⟩:=D;let⟨H,U,L,P⟩:=C;go_simp;exact G
def jsv{d t:Nat}{D:Td}{Q:Y6}{ty:Vr}{pos:String}{af:U9}{gd:U6}(he:pg I D es ⟨some d,.load 54<|.tmp t,ty,pos,af,gd⟩ t=some (pq b off))(C:∀x,Jq9 x->Wd x b off n/\Wd x b (off+4) m):WL Jq9 I D es Q ⟨some d,.load 54<|.tmp t,ty,pos,af,gd⟩ (some d) (.v<|Iy n m):=λs x h H K G=>DU (H t _ he) (C x h).1 (C x h).2<|G _ x (dO _ _) nn1 W
def Rv{x:WD}{a:Act}{Q:Y6}(A:Frm [pt bb] 183 a)(C:Hd<|Bk 0 4 x bb Nq9 ocp oad)(D:Hd<|bW x y)(X:Hd (∀b z,Frm [pt bb] 183 b->bW x z->Q .normal b z)):Code.wp prog (zu [true,false]<|f21.body.getD .skip) Q a y:=by
 have l:=C.aa.1;apply A.op;simp only[po,XN,XG];intros;conv=>arg 2;whnf
 go_wp2;go_loopw[3] (λt wr=>∃i:Nat,i<=Nq9/\t=iI (i:Int)/\Hd (bW x wr)) (λt _=>Nq9-nI t);case atStart=>grind
 obtain⟨i,hi,rfl,D⟩:=hrel;have l:=C.aa.2.1 wr D;by_cases H:i<Nq9;case neg=>go_wp2;exact X.aa _ _ ⟨_,W,W⟩ D
 obtain⟨N,r,m,r,r,q,Z,rfl,r,P,Y,R,V,S,f⟩:=C.aa.2.2 i H;go_wp2
 as_aux_lemma=>
  go_loopw[4] (λt wr=>∃k:Nat,k<=m/\t=iI (k:Int)/\Hd (bW x wr)) (λt _=>m-nI t);case atStart=>exact⟨0,In _,W,D⟩
  obtain⟨k,r,rfl,D⟩:=hrel;have l:=C.aa.2.1 wr D;have l:=V.aa wr D;have l:(0:Int)<=i:=wq
  have l:(i:Int)<Nq9:=wq
  by_cases J:k<m
  .obtain⟨g,rfl,U⟩:=f.aa k J;have F:(k:Int)<m:=wq
   have T:Hd _:=λy p=>S _ _ _<|U y p;go_upto_region 7 with fail
   refine Gs [(0,(pt bb)),(3,(.int _ _)),(4,(.int _ _))] (nV 34 [pt bb,pt bb,pt bb,_,_,_,_,_,_,wv Z,_,_,_,_,_]) [3,5,6,8,9,11,12,13,14] W (λy z h l=>h.trans<|l.mono h.size) D ⟨(jc W λx L=>C.aa.2.1 x L),(js λs x l K G=>qb (l 37 _ W) (l 38 _ W) H G),(jc W λx L=>V x L),(js λs x l K G=>mA 4 (l 40 _ W) (l 41 _ W) J G),(jw W λx L=>T x L),(js λs x l K G=>p9 P (l 44 _ W) wq G),(js λs x l K G=>rg P Y (l 45 _ W) wq G),(jl W λx _=>R x),(js λs x l K G=>v8 (l 43 _ W) (l 47 _ W) G),AF⟩ λz r=>?_;replace r:=cV r;generalize l:dQ _ _=e;apply rH l (lo:=34) (hi:=48);simp only[po,List.take_succ_cons,Y3,List.drop_succ_cons,List.drop_zero,XN,XG];intros
   as_aux_lemma=>go_wp2;exact⟨⟨k+1,wq,N1,r.aa⟩,by simp[nI];omega⟩
  go_wp2;exact⟨⟨i+1,wq,N1,D⟩,by simp[nI];omega⟩
def Ri{x:WD}{a:Act}{Q:Y6}(A:Frm [pt bb] 183 a)(D:Hd<|Bk 1 6 x bb Nq9 ocp oad)(C:Hd<|bW x y)(p:Hd (∀b z,Frm [pt bb] 183 b->bW x z->Q .normal b z)):Code.wp prog (zu [true,true,false]<|f21.body.getD .skip) Q a y:=by
 have l:=D.aa.1;apply A.op;simp only[po,XN,XG];intros;conv=>arg 2;whnf
 go_wp2;go_loopw[5] (λt wr=>∃i:Nat,i<=Nq9/\t=iI (i:Int)/\Hd (bW x wr)) (λt _=>Nq9-nI t);case atStart=>grind
 obtain⟨i,hi,rfl,C⟩:=hrel;have r:=D.aa.2.1 wr C;by_cases P:i<Nq9;case neg=>go_wp2;exact p.aa _ _ ⟨_,W,W⟩ C
 obtain⟨l,l,m,l,l,q,U,rfl,l,L,S,R,F,l,T⟩:=D.aa.2.2 i P;go_wp2
 as_aux_lemma=>
  go_loopw[6] (λt wr=>∃k:Nat,k<=m/\t=iI (k:Int)/\Hd (bW x wr)) (λt _=>m-nI t);case atStart=>exact⟨0,In _,W,C⟩
  obtain⟨k,e,rfl,C⟩:=hrel;have r:=D.aa.2.1 wr C;have r:=F.aa wr C;have r:(0:Int)<=i:=wq
  have r:(i:Int)<Nq9:=wq
  by_cases V:k<m
  .obtain⟨g,rfl,Y⟩:=T.aa k V;have r:(k:Int)<m:=wq
   have r:=AE (z:=6) λj u _=>Y wr C j u;simp only[A3,A0,mC,mW,z4,XN,XG,Nat.reduceAdd]at r;have G:=rowL.al wr (mC 1 q) 112;replace C:=cV<|C.trans<|(ai (dO _ wr)<|.cells (mC 1 q).toArray 112).mono C.size;go_upto_region 16 with fail
   change Code.wp _ _ _ _ (wr.alloc<|.cells (mC 1 q).toArray 112);obtain⟨nb,Z⟩:∃nb,nb=wr.heap.size:=⟨_,W⟩
   rw[<-Z]at G⊢;generalize wr.alloc (.cells (mC 1 q).toArray 112)=r at*;have f:Hd (∀y,(bW x y/\rowL y nb 112 _)->Wd y nb 0 U/\y.cell? ⟨nb,4,_⟩=some (.slice _ 0 0)/\y.cell? ⟨nb,5,_⟩=some _):=λy X=>⟨l _ _ _ λj u N=>(by rw[XF];exact X.2.cell N),X.2.cell W,X.2.cell W⟩
   refine Gs [(5,(.int _ _)),(7,(pt nb))] (nV 80 [pt nb,wv U,.int _ _,.int _ _,.int _ _,wv U,.bool _,.bool false,.pointer _,.slice _ 0 0,iI 0,.bool false,.bool false,.bool false,.pointer _,.string _,.bool false,.bool false]) [1,3,4,5,6,9,15] W (λy z h l=>⟨h.1.trans<|l.mono h.1.size,h.2.below l⟩) ⟨C,G⟩ ⟨(jw W λx J=>(f x J).1),(js λs x l K H=>p9 L (l 82 _ W) wq H),(js λs x l K H=>rg L S (l 83 _ W) wq H),(jl W λx _=>R x),(js λs x l K H=>v8 (l 81 _ W) (l 85 _ W) H),(jc W λx J=>(f x J).2.1),(jc W λx J=>(f x J).2.2),AF⟩ λz r=>?_;replace r:=cV r;generalize l:dQ _ _=e;apply rH l (lo:=80) (hi:=97);simp only[po,List.take_succ_cons,Y3,List.drop_succ_cons,List.drop_zero,XN,XG];intros
   as_aux_lemma=>go_wp2;exact⟨⟨k+1,wq,N1,r.aa.1⟩,by simp[nI];omega⟩
  go_wp2;exact⟨⟨i+1,wq,N1,C⟩,by simp[nI];omega⟩
def Rn{x:WD}{a:Act}{Q:Y6}(A:Frm [pt bb] 183 a)(C:Hd<|Bk 2 8 x bb Nq9 ocp oad)(G:Hd<|bW x y)(Z:Hd (∀b z,Frm [pt bb] 183 b->bW x z->Q .normal b z)):Code.wp prog (zu [true,true,true,false]<|f21.body.getD .skip) Q a y:=by
 have l:=C.aa.1;apply A.op;simp only[po,XN,XG];intros;conv=>arg 2;whnf
 go_wp2;go_loopw[8] (λt wr=>∃i:Nat,i<=Nq9/\t=iI (i:Int)/\Hd (bW x wr)) (λt _=>Nq9-nI t);case atStart=>exact⟨0,In _,W,G⟩
 obtain⟨i,hi,rfl,G⟩:=hrel;have l:=C.aa.2.1 wr G;by_cases J:i<Nq9;case neg=>go_wp2;exact Z.aa _ _ ⟨_,W,W⟩ G
 obtain⟨N,r,m,r,r,q,X,rfl,r,U,f,V,Y,S,p⟩:=C.aa.2.2 i J;go_wp2
 as_aux_lemma=>
  go_loopw[9] (λt wr=>∃k:Nat,k<=m/\t=iI (k:Int)/\Hd (bW x wr)) (λt _=>m-nI t);case atStart=>exact⟨0,In _,W,G⟩
  obtain⟨k,r,rfl,G⟩:=hrel;have l:=C.aa.2.1 wr G;have l:=Y.aa wr G;have l:(0:Int)<=i:=wq
  have l:(i:Int)<Nq9:=wq
  by_cases L:k<m
  .obtain⟨g,rfl,D⟩:=p.aa k L;have F:(k:Int)<m:=wq
   have T:Hd (∀y,bW x y->Wd y g _ X/\Wd y g _ 0):=λy P=>⟨S _ _ _<|D y P,D y P 4 _ W,D y P 5 _ W,D y P 6 _ W,D y P 7 _ W⟩
   go_upto_region 24 with fail
   refine Gs [(0,(pt bb)),(8,(.int _ _)),(9,(.int _ _))] (nV _ [pt bb,pt bb,_,_,_,_,_,_,_,_,_,_,_,wv X,_,_]) [3,5,6,8,9,11,12,13,14,15] W (λy z h l=>h.trans<|l.mono h.size) G ⟨(jc W λx R=>C.aa.2.1 x R),(js λs x l K H=>qb (l _ _ W) (l _ _ W) J H),(jc W λx R=>Y x R),(js λs x l K H=>mA 8 (l _ _ W) (l _ _ W) L H),(jsv W λx R=>T x R),(js λs x l K H=>p9 U (l _ _ W) wq H),(js λs x l K H=>rg U f (l _ _ W) wq H),(jl W λx _=>V x),(jv (λ_ _=>N0) W),(js λs x l K H=>Q6 (l _ _ W) (l _ _ W) H),AF⟩ λz r=>?_;replace r:=cV r;generalize l:dQ _ _=e;apply rH l (lo:=119) (hi:=134);simp only[po,List.take_succ_cons,Y3,List.drop_succ_cons,List.drop_zero,XN,XG];intros
   as_aux_lemma=>go_wp2;exact⟨⟨k+1,wq,N1,r.aa⟩,by simp[nI];omega⟩
  go_wp2;exact⟨⟨i+1,wq,N1,G⟩,by simp[nI];omega⟩
def RN{x:WD}{a:Act}{Q:Y6}(A:Frm [pt bb] 183 a)(D:Hd<|Bk 3 10 x bb Nq9 ocp oad)(C:Hd<|bW x y)(p:Hd (∀b z,Frm [pt bb] 183 b->bW x z->Q .normal b z)):Code.wp prog (zu [true,true,true,true,false]<|f21.body.getD .skip) Q a y:=by
 have l:=D.aa.1;apply A.op;simp only[po,XN,XG];intros;conv=>arg 2;whnf
 go_wp2;go_loopw[10] (λt wr=>∃i:Nat,i<=Nq9/\t=iI (i:Int)/\Hd (bW x wr)) (λt _=>Nq9-nI t);case atStart=>grind
 obtain⟨i,hi,rfl,C⟩:=hrel;have r:=D.aa.2.1 wr C;by_cases P:i<Nq9;case neg=>go_wp2;exact p.aa _ _ ⟨_,W,W⟩ C
 obtain⟨l,l,m,l,l,q,U,rfl,l,L,S,R,F,l,T⟩:=D.aa.2.2 i P;go_wp2
 as_aux_lemma=>
  go_loopw[11] (λt wr=>∃k:Nat,k<=m/\t=iI (k:Int)/\Hd (bW x wr)) (λt _=>m-nI t);case atStart=>exact⟨0,In _,W,C⟩
  obtain⟨k,e,rfl,C⟩:=hrel;have r:=D.aa.2.1 wr C;have r:=F.aa wr C;have r:(0:Int)<=i:=wq
  have r:(i:Int)<Nq9:=wq
  by_cases V:k<m
  .obtain⟨g,rfl,Y⟩:=T.aa k V;have r:(k:Int)<m:=wq
   have r:=AE (z:=10) λj u _=>Y wr C j u;simp only[A3,A0,mC,mW,z4,XN,XG,Nat.reduceAdd]at r;have G:=rowL.al wr (mC 3 q) 34;replace C:=cV<|C.trans<|(ai (dO _ wr)<|.cells (mC 3 q).toArray 34).mono C.size;go_upto_region 33 with fail
   change Code.wp _ _ _ _ (wr.alloc<|.cells (mC 3 q).toArray 34);obtain⟨nb,Z⟩:∃nb,nb=wr.heap.size:=⟨_,W⟩
   rw[<-Z]at G⊢;generalize wr.alloc (.cells (mC 3 q).toArray 34)=r at*;have f:Hd (∀y,(bW x y/\rowL y nb 34 _)->Wd y nb 0 U/\y.cell? ⟨nb,9,_⟩=some (.slice _ 0 0)/\y.cell? ⟨nb,8,_⟩=some _):=λy X=>⟨l _ _ _ λj u N=>(by rw[XF];exact X.2.cell N),X.2.cell W,X.2.cell W⟩
   refine Gs [(10,(.int _ i)),(12,(pt nb))] (nV _ [pt nb,wv U,.int _ i,.int _ _,.int _ _,wv U,.bool _,.bool false,.pointer _,.slice _ 0 0,iI 0,.bool false,.bool false,.bool false,.pointer _,.string _,.bool false,.bool false]) [1,3,4,5,6,9,15] W (λy z h l=>⟨h.1.trans<|l.mono h.1.size,h.2.below l⟩) ⟨C,G⟩ ⟨(jw W λx J=>(f x J).1),(js λs x l K H=>p9 L (l _ _ W) wq H),(js λs x l K H=>rg L S (l _ _ W) wq H),(jl W λx _=>R x),(js λs x l K H=>v8 (l _ _ W) (l _ _ W) H),(jc W λx J=>(f x J).2.1),(jc W λx J=>(f x J).2.2),AF⟩ λz r=>?_;replace r:=cV r;generalize l:dQ _ _=e;apply rH l (lo:=166) (hi:=183);simp only[po,List.take_succ_cons,Y3,List.drop_succ_cons,List.drop_zero,XN,XG];intros
   as_aux_lemma=>go_wp2;exact⟨⟨k+1,wq,N1,r.aa.1⟩,by simp[nI];omega⟩
  go_wp2;exact⟨⟨i+1,wq,N1,C⟩,by simp[nI];omega⟩
def D0{G:Nat->VL×Tn}{x:WD}(h:Sep O (eH bb G::rs) x)(D:∀k,(G k).2.length<=5000000000000):cP 21 #[pt bb] x λe y=>e=.returned (.bool true)/\bW x y:=by let⟨_,_,_,H⟩:=ua h D 0;let⟨_,_,_,L⟩:=ua h D 1;let⟨_,_,_,P⟩:=ua h D 2;let⟨_,_,_,J⟩:=ua h D 3;replace H:=cV H;replace L:=cV L;replace P:=cV P;replace J:=cV J;go_enter func21,ntmps21;refine wp_seq_k λK h=>?_;replace h:=cV h;go_wp2;refine h.aa _ _ ?_;refine wp_seq_k λK h=>?_;refine Rv ⟨_,W,W⟩ H (dO _ _) λb R Y C=>h _ _ ?_;refine wp_seq_k λK h=>?_;refine Ri Y L C λb X Y C=>h _ _ ?_;refine wp_seq_k λK h=>?_;refine Rn Y P C λb U Y C=>h _ _ ?_;refine wp_seq_k λK h=>?_;refine RN Y J C λb V Y C=>h _ _ ?_;replace C:=cV C;apply Y.op;simp only[po,XN,XG];intros;go_wp2;go_ret;exact⟨W,C.aa⟩
theorem Sp{α:Type}:∀(u v:List α),u.Nodup->(∀a∈u,a∈v)->u.length<=v.length
 |[],v,_,_=>In _
 |a::u,v,hn,h=>by
  let⟨E,C⟩:=X3.1 hn;obtain⟨s,t,rfl⟩:=List.append_of_mem<|h a Xz;have D:=Sp u (s++t) C λb G=>K9
  grind
def Nk{l:List AcE}(U:RelW (T0 A) P)(V:IsList A l):l.length<=gF P:=by
 obtain⟨Q,E,G, -⟩:=V.ex;rw[G];have H:gF P=((P.pu.filter yc).map (·.aj%M)++(P.sl.filter λs=> !s.br).map (·.aj%M)).length:=by rw[Xm,XH,XH,<-List.countP_eq_length_filter,<-List.countP_eq_length_filter];rfl
 rw[H];refine Sp _ _ (E.1.imp λh=>Nat.ne_of_lt h) λk V=>?_;let⟨D,C⟩:=(E.2 k).1 V;by_cases V:∃p∈P.pu,gN p.aj k=true/\yc p=true
 .obtain⟨p,hp,e,f⟩:=V;exact Xw _<|Xq.2 ⟨p,Yj.2 ⟨hp,f⟩,by rw[iw.1 e,WZ D]⟩
 refine Xn _ ?_;have V:(A k).ai%M=0/\(A k).ae.size=0:=by
  have J:(A k).ai=(ks k P).mo:=U.ai k;have I:(A k).ae=(ks k P).ae:=U.ae k;rw[J,I];unfold ks;cases X:P.pu.find? λp=>gN p.aj k with
  |none=>exact⟨W,W⟩
  |some p=>grind[yc,absurd]
 have X:∃j,(A k).ar j%M≠0:=YA λL=>C ⟨V.1,by generalize(A k).ae=c at*;let⟨d⟩:=c;rw[Array.eq_empty_of_size_eq_zero<|V.2],λj=>YA λh=>L ⟨j,h⟩⟩;let⟨j,R⟩:=X;have O:(A k).ar j=fu _ k j P:=U.aK k j;grind[fu,ly,absurd,gN]
def NA:List AcE:=[⟨5,9,⟨#[]⟩,[]⟩,⟨7,0,⟨#[51,95,85]⟩,[]⟩]
theorem AW:jt NA=true:=R5
def IT{C:Nat}(ha:rowL y C 34<|jL 5 9 ⟨#[]⟩ dL++jL 7 0 ⟨#[51,95,85]⟩ dL):AcIn y (sL C 2 2) NA:=by
 refine⟨_,_,W,A4 ⟨C,0,W,World.rowIs.lt ha,λi a E=>?_⟩⟩;have G:i<2:=(Do.1 E).1;obtain rfl|rfl:i=0\/i=1:=wq
 all_goals
  cases hV E;refine⟨dL,λj D=>?_,⟨_,0,W,LZ W⟩⟩;have D:j=0\/j=1\/j=2\/j=3\/j=4\/j=5\/j=6\/j=7\/j=8\/j=9:=wq
  rcases D with rfl|rfl|rfl|rfl|rfl|rfl|rfl|rfl|rfl|rfl<;>exact ha.cell W
def AL(w:WD):cP 20 #[] w λe y=>∃D,e=.returned (sL D 2 2)/\w.heap.size<=D/\rowL y D 34 (jL 5 9 ⟨#[]⟩ dL++jL 7 0 ⟨#[51,95,85]⟩ dL)/\bW w y:=by
 go_enter func20,ntmps20;go_wp2_with fail
 refine(dx 5 K3 _).mono ?_;rintro e L⟨Q,G,rfl,C⟩;unfold wv;replace C:=cV C;go_wp2_with fail
 refine(dx 9 K3 _).mono ?_;rintro e J⟨U,H,rfl,b2⟩;replace b2:=cV<|C.aa.trans<|b2.mono C.aa.size;unfold wv;go_wp2_with fail
 refine(dx 7 K3 _).mono ?_;rintro e z3⟨I,E,rfl,b3⟩;replace b3:=cV<|b2.aa.trans<|b3.mono b2.aa.size;unfold wv;go_wp2;have O:=rowL.al z3 (jL Q U ⟨#[]⟩ dL++jL I 0 ⟨#[51,95,85]⟩ dL) 34;refine IE W W ⟨_,W,b3.aa.size,?_,ai b3.aa _⟩;rw[G.aa,H.aa,E.aa]at O⊢;exact O
def new_no(l:List AcE)(w:WD)(h:AcIn w v l)(hz:Zr w)(J:jt l=false):cP 29 #[v] w (rT (.tuple #[.pointer none,iI 1]) w):=by
 have D:=cV<|Fh l w h hz;rw[J]at D;obtain⟨I,H,rfl,_⟩:=h;let⟨L,C⟩:=dP l.length;rw[<-C.aa]at D⊢;go_enter func29,ntmps29;go_wp2_with fail
 refine D.mono ?_;rintro e G⟨rfl,J⟩;have E:=cV J;go_wp2;refine Kg W W ⟨W,E⟩
def RJ{G:Nat->VL×Tn}{l:List AcE}(h:Sep O (eH bb G::rs) x)(hz:Zr x)(n:0<O)(m:∀y,Sep O rs y->Below O x y->AcIn y v l)(hr:jt l=false)(hl:l.length<=1000000)(U:∀a∈l,a.ar.length<=1000000000)(r:∀k,(G k).2.length%4=0)(w:∀k,(G k).2.length+10000000<=4000000000000):cP 17 #[v,pt bb] x λe y=>∃E,e=.returned (.tuple #[.pointer none,.bool true])/\Sep O (eH bb E::rs) y/\Below O x y/\EG G E λk=>if k=3 then 4 else if k=2 then 8*l.length+4 else 0:=by
 have W1:=cV<|PA h (λy d q=>m y d.tl q) wq U;obtain⟨b,b,z, -⟩:=m x h.tl<|dO _ _;let⟨L,b⟩:=dP l.length;have N:=cV m;have u:=cV hz;have i:=cV r;have f:=cV w;have S:=cV hr;have j:=cV hl;have P:=cV U;rw[<-b.aa]at z;subst z;go_enter func17,ntmps17;go_upto_region 2 with(first|(go_at_call 37;refine W1.aa.mono ?_;rintro e t⟨g,c,F,rfl,D,J,C,b⟩)|fail);replace J:=cV J;replace C:=cV C;replace b:=cV b;replace D:=cV D;go_upto_region 3 with(first|(go_at_call 29;refine(cV<|new_no l t (J.in C) (u.bq n b) S).aa.mono ?_;rintro e u⟨rfl,H⟩)|fail);have Z:Hd (Sep _ (eH bb G::G4 g c l F::(F.map _++rs)) u):=(C.aa.below H).bh<|(X6.cons _).trans<|List.Perm.swap _ _ _;have V:Hd _:=b.aa.trans<|H.mono C.aa.s;have W3:=cV<|L4 J.aa Z D.aa (λy d q=>N y d<|V.trans q) j P i.aa f;clear H C b D J;go_upto_region 4 with(first|(go_at_call 38;refine W3.aa.mono ?_;rintro e A⟨rfl,E,I,o,Y⟩)|fail);have Q:=cV<|V.trans o;have R:=cV I;have p:=cV Y;have T:=cV<|Ee l A<|N A I.tl Q;rw[S.aa]at T;go_upto_region 5 with(first|(go_at_call 39;refine T.aa.mono ?_;rintro e K⟨rfl,X⟩)|fail);have HE:Hd (∃E,(Ending.returned (.tuple #[.pointer none,.bool true])=.returned _)/\Sep _ (eH bb E::rs) K/\Below _ x K/\EG G E _):=⟨E,W,R.below X,Q.trans<|X.mono R.s,p⟩
 go_wp2;refine Kg W W ?_;let⟨q,k0,b,u,r⟩:=HE.aa;exact⟨W,q,b,u,r⟩
end
structure HE where
 pb:Nat
 gb:Nat
 ab:Nat
 n:Nat
 hb:Nat
 A:Nat->Acc
 sb:Vp
 pu:List Pur
 sl:List Slt
 pv:VL
 lv:VL
abbrev HE.rs(h:HE):List Rs:=[gj h.pb 106 [pt h.gb,pt h.hb],fN h.gb h.ab h.n h.A h.sb,iK h.hb h.pu h.sl h.pv h.lv]
structure HE.Ok(h:HE)(a:Nat):Prop where
 cd:Cd ⟨h.pu,h.sl,[]⟩
 rel:RelW (T0 h.A) ⟨h.pu,h.sl,[]⟩
 bn:h.n<=40+3400010*a
 bp:h.pu.length<=8+2003*a
 bs:h.sl.length<=160+1000*a
 bc:gF ⟨h.pu,h.sl,[]⟩<=168+501*a
def HE.Ok.up{h:HE}{a a':Nat}(k:h.Ok a)(e:a<=a'):h.Ok a':=⟨k.cd,k.rel,by have:=k.bn;omega,by have:=k.bp;omega,by have:=k.bs;omega,by have:=k.bc;omega⟩
def Dn(a b c:Nat):Nat:=400000*a+900000*c+8*b*(170+501*a)
def RI(a b:Nat):4*(a*b)<=(a+b)*(a+b):=by
 rcases Nat.le_total a b with h|h
 .obtain⟨d,rfl⟩:=Nat.exists_eq_add_of_le h;grind
 obtain⟨d,rfl⟩:=Nat.exists_eq_add_of_le h;grind
def un{a b c:Nat}(h:a+b<=47665)(E:c<=47665):Dn a b c+8*(40+3400010*a)+20000000<=4000000000000:=by have D:=RI a b;have C:=Yx h h;grind[Dn]
def dn_a(a b c:Nat):Dn a b c+400000<=Dn (a+1) b c:=by grind[Dn]
def dn_b(a b c:Nat):Dn a b c+8*(170+501*a)<=Dn a (b+1) c:=by grind[Dn]
def dn_c(a b c:Nat):Dn a b c+900000=Dn a b (c+1):=by grind[Dn]
structure SW(w:WD)(bb:Nat)(F:List Rs)(a b c:Nat)(v:VL)(ps:Tn)(hs:List HE)(G:Nat->VL×Tn)(y:WD):Prop where
 sp:Sep w.heap.size (eH bb G::fp 55 1 v ps.length ps::(hs.flatMap HE.rs++F)) y
 be:Below w.heap.size w y
 ok:∀h∈hs,h.Ok a
 g4:∀k,(G k).2.length%4=0
 gd:∀k,(G k).2.length<=Dn a b c
section
variable {z:WD}{F:List Rs}{hs s t:List HE}{h:HE}{G:Nat->VL×Tn}
def SW.below(S:SW w bb F a b c v ps hs G y)(C:bW y z):SW w bb F a b c v ps hs G z:=⟨S.sp.below C,S.be.trans<|C.mono S.sp.s,S.ok,S.g4,S.gd⟩
def pmH{α:Type}{D C:List α}{k l E H r3:α}:(k::l::(D++(E::H::r3::C))).Perm (E::H::r3::k::l::(D++C)):=List.perm_append_comm_assoc (k::l::D) [E,H,r3] C
def p8(s t:List HE)(h:HE)(F:List Rs):(s++h::t).flatMap HE.rs++F=s.flatMap HE.rs++(h.rs++(t.flatMap HE.rs++F)):=K2
def Bm{x y a:Nat}(h:x<=y+m)(C:y<=k+m*a):x<=k+m*(a+1):=K9
def SW.sent(S:SW w bb F a b c v ps (s++h::t) G y)(hz:Zr w)(Y:0<w.heap.size)(L:a+b<=47665)(A:c<=47665)(fr Z B:Nat)(data:BA)(g:Int):cP 18 #[pt h.pb,nz fr Z B data g,pt bb] y λe z=>e=.returned (.bool true)/\∃d J,d.pb=h.pb/\SW w bb F (a+1) b c v ps (s++d::t) J z:=by
 have k:=S.ok h K2;have D:=S.sp;rw[p8]at D;have l:=un L A;have R:=k.bn;have Q:=k.bp;have H:=k.bs;refine(KP fr Z g (D.bh<|pmH) (hz.bq Y S.be) Y k.cd k.rel wq wq wq S.g4 (λq=>by have:=S.gd q;omega)).mono ?_;rintro e z⟨rfl,J,j,K,P,X,V,I,O,m,u,r,T,l,N,p,o,U,i,E⟩;have n:=dn_a a b c;replace U:=cV U;refine⟨W,⟨h.pb,h.gb,h.ab,j,h.hb,K,P,X,V,I,O⟩,J,W,?_,S.be.trans r,λf C=>?_,λq=>?_,λq=>?_⟩
 .rw[p8];exact u.bh (pmH).symm
 .rcases Xr.1 C with C|C
  .exact(S.ok f<|Xw _ C).up (ZN _)
  rcases IF.1 C with rfl|C
  .exact⟨N,l,Bm T R,Bm p Q,Bm o H,Bm U.aa k.bc⟩
  exact(S.ok f<|Xn _<|IN _ C).up<|ZN _
 .rw[E q];dsimp only;have:=S.g4 q;split
  .omega
  split<;>omega
 rw[E q];dsimp only;have:=S.gd q;split
 .omega
 split<;>omega
def SW.told(S:SW w bb F a b c v ps (s++h::t) G y)(hz:Zr w)(H:0<w.heap.size)(E:a+b<=47665)(O:c<=47665):cP 19 #[pt h.pb,pt bb] y λe z=>e=.returned (.bool true)/\∃D,SW w bb F a (b+1) c v ps (s++h::t) D z:=by
 have k:=S.ok h K2;have C:=S.sp;rw[p8]at C;have V:=un E O;have U:=k.bn;have R:=k.bp;have J:=k.bs;refine(KH (C.bh<|pmH) (hz.bq H S.be) H k.cd k.rel wq wq wq S.g4 (λq=>by have:=S.gd q;omega)).mono ?_;rintro e z⟨rfl,D,l,V,X,P,Q,I⟩;have X:=Nk k.rel V;have L:=k.bc;have hdb:=dn_b a b c;refine⟨W,D,?_,S.be.trans Q,S.ok,λq=>?_,λq=>?_⟩
 .rw[p8];exact P.bh (pmH).symm
 .rw[I q];dsimp only;have:=S.g4 q;split
  .omega
  split<;>omega
 rw[I q];dsimp only;have:=S.gd q;split
 .omega
 split<;>omega
def Q7{l:List AcE}(I:jt l=true):(l.map uD).length<=8/\(l.flatMap ic).length<=160/\gF ⟨l.map uD,l.flatMap ic,[]⟩<=168:=by
 let⟨E,D⟩:=pY I;have H:∀l:List _,(∀x∈l,x.ar.length<=20)->(l.flatMap ic).length<=20*l.length:=λl=>by
  induction l with
  |nil=>simp
  |cons x l C=>grind[ic]
 grind[gF,yc,uD,ic]
def SW.bS{u:VL}{l:List AcE}(S:SW w bb F a b c v ps hs G y)(hz:Zr w)(H:0<w.heap.size)(I:a+b<=47665)(X:c<=47664)(Y:∀z,Sep w.heap.size F z->bW w z->AcIn z u l)(f:l.length<=100000)(P:∀x∈l,x.ar.length<=1000000000)(J:∀x∈l,x.ai<M):cP 17 #[u,pt bb] y λe z=>(jt l=false/\e=.returned (.tuple #[.pointer none,.bool true])/\∃C,SW w bb F a b (c+1) v ps hs C z)\/∃h C,e=.returned (.tuple #[pt h.pb,.bool true])/\SW w bb F a b (c+1) v ps (hs++[h]) C z:=by
 have f:=un I<|Nat.le_succ_of_le X;have ul:=dn_c a b c;have R:∀z,Sep _ (fp 55 1 v ps.length ps::(hs.flatMap HE.rs++F)) z->Below _ y z->AcIn z u l:=λz V U=>Y z V.tl.ap<|S.be.trans U;have D:∀{C:Nat->VL×List _},(EG G C λk=>if k=3 then 4 else if k=2 then 8*l.length+4 else 0)->(∀k,(C k).2.length%4=0)/\∀k,(C k).2.length<=Dn a b (c+1):=λQ=>by
  refine⟨λq=>?_,λq=>?_⟩
  .rw[Q q];dsimp only;have:=S.g4 q;grind
  rw[Q q];dsimp only;have:=S.gd q;grind
 by_cases f:jt l=true
 .refine(U3 S.sp (hz.bq H S.be) H R f S.g4 (λq=>by have:=S.gd q;omega)).mono ?_;rintro e z⟨pb,p,A,o,n,N,K,T,C,rfl,d,g,j,L⟩;let⟨O,g2⟩:=D L;let⟨c1,c2,c3⟩:=Q7 f;refine A4 ⟨⟨pb,p,o,n,A,jO l,N,l.map uD,l.flatMap ic,K,T⟩,C,W,?_,S.be.trans j,λZ E=>?_,O,g2⟩
  .rw[show(hs++[(⟨pb,p,o,n,A,_,N,_,_,K,T⟩:HE)]).flatMap _++F=hs.flatMap _++(HE.rs _++F) by rw[Zi,XL];rfl];exact g.bh (pmH).symm
  rcases Xr.1 E with E|E
  .exact S.ok Z E
  rw[BY.1 E];exact⟨new_cd f,Sj f J,(by show n<=_;omega),(by show(l.map uD).length<=_;omega),(by show(l.flatMap ic).length<=_;omega),(by show gF ⟨l.map uD,l.flatMap ic,[]⟩<=_;omega)⟩
 have f:jt l=false:=by simpa using f
 refine(RJ S.sp (hz.bq H S.be) H R f wq P S.g4 (λq=>by have:=S.gd q;omega)).mono ?_;rintro e z⟨C,rfl,g,j,L⟩;let⟨O,g2⟩:=D L;exact LZ ⟨f,W,C,g,S.be.trans j,S.ok,O,g2⟩
def Q5:CF 63 55 1 8:=Nw (z:=.pointer none) N0 N0 N0
def SW.cC(S:SW w bb F a b c v ps hs G y)(p:Nat)(hn:ps.length<=1000000):∃C z,(Builtin.append_ #[63,63] 63 #[v,sL y.heap.size 1 1]).run prog (y.alloc<|.cells #[pt p] 55)=.ok C z/\(∃H E,C=.slice H (ps.length+1) E)/\SW w bb F a b c C (ps++[pt p]) hs G z:=by let⟨C,z,J,I,r3⟩:=S.sp.sw.ca Q5 [pt p] W (λu D=>by rw[BY.1 D];rfl) (by grind[maxLen]) wq;refine⟨C,z,J,dt I.hd,?_,S.be.trans r3,S.ok,S.g4,S.gd⟩;rw[Xm];exact I.sw
end
end cin
end Go.Proofs.YtohoajjdoihekaaGreatDoor
