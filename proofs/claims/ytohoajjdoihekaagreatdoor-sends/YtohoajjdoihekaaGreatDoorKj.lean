import Derived.Test.YtohoajjdoihekaaGreatDoorRo
import Derived.Lib.BufferWrite
import Derived.Lib.UnsafeStr
import Derived.Laws.MakeOwn
import Derived.Laws.StructEq
import Derived.Maps.Views
set_option linter.unusedVariables false
set_option linter.unusedSimpArgs false
set_option linter.defProp false
namespace Go.Proofs.YtohoajjdoihekaaGreatDoor
namespace cin
open Go.RowKit Go.Maps Go.Proofs.Tryz Tryz
set_option maxRecDepth 100000
set_option maxHeartbeats 8000000
variable {n O H Y o p i J c k j ab m t sz by' d hb pb g bb st cp mb N gb pc:Nat}{y x w wr:WD}{R0 tr R:RS}{l L:hZ}{cs sls ys xs tv:Tn}{v v' v2 pv lv ov slv v1:VL}{ts S:Tl}{P:RW}{run:RS->RS}{wk:Wk}{F F':Fz}{T T':TS}{br:Bool}{A:Nat->Acc}{sb:Vp}{s:Act}{pos:String}{af:U9}{gd:U6}{K:K6}{Q:Y6}{rs:List Rs}{pu:List Pur}{G':Nat->VL×Tn}{ad:Gj}{data:BA}{mem:Vf}
section
variable {b:Nat}
def DQ.swap{p q:Nat×Nat×Tn}(h:DQ O H Y R (p::q::l) x):DQ O H Y R (q::p::l) x:=by
 let⟨X,C,V,h,E,D⟩:=h;refine⟨X,C,V,h,λr G=>E r ?_,?_⟩
 .grind
 grind
def DQ.store{P J L a3:VL}(h:DQ O H Y R ((b,24,[P,J,L,a3])::l) x):DQ O H Y R ((b,24,[lu n 0,lu n 1,lu n 2,lu n 3])::l) (lp x b n):=by
 have c:=h.row;let⟨X,C,V,h,Q,E⟩:=h;have Z:=(Q _ Xz).2;let⟨D,I⟩:=X3.1 E;have U:=we x b n;refine⟨X,C,V,h.kb U<|λk G=>K9,λp P=>?_,E⟩;rcases IF.1 P with rfl|P
 .exact⟨(((c.set _).set _).set _).set _,Z⟩
 exact⟨U.row (Q p<|IN _ P).1 λG=>D<|Xq.2 ⟨p,P,BY.1 G⟩,(Q p<|IN _ P).2⟩
def EQ(C:O<=b):Below O x (lp x b n):=((((dO _ _).setCell C _).setCell C _).setCell C _).setCell C _
def mM(J a b c:Nat)(R:RS):RS:=if R.ao=0 then eN (ep J (a%M) (b%M)<|c%M) (if ny J=0 then R else fA R)else R
def Nh(J:Nat)(R:RS):RS:=du (dA<|dU (if J=10 then 10 else 5) R) λa R=>du (if J=21\/J=25 then(0,R)else dA R) λb R=>du (if J=8\/J=9 then dA R else(0,R)) λc R=>mM J a b c<|if J=10 then dU (10*(GM<|pw b).size) R else R
def lst_le(s:BA):(GM s).size<=s.size:=by show((bl s).dropWhile (·==0)).toArray.size<=s.size;grind[YU,ik,List.dropWhile_sublist]
def Bn{K:Nat->RS->RS}{Q:Ending->X4}(L:Hd<|tr=du (dA R) K)(h:Hd<|Sx O H Y x R0 R (bx b n::l) y)(V:O<=b)(k:∀a E C,Hd (tr=K a E)->(∃U I J a3,cL C b 0 U/\cL C b 1 I/\cL C b 2 J/\cL C b 3 a3/\∀i,C.frozen? ⟨b,i,none⟩=false)->Hd (Sx O H Y x R0 E (bx b a::l)<|lp C b a)->Q (.returned<|wv a) C):cP 124 #[pt H] y Q:=by
 refine w_tak L h λa E C G D=>k a E C G ?_ ?_
 .obtain⟨c0,c1,c2,c3,P⟩:=D.aa.cs 0 b n W;grind
 exact⟨D.aa.q.store,D.aa.b.trans<|EQ V,D.aa.s⟩
def Sx.swap{p q:Nat×Nat×Tn}(h:Sx O H Y x R0 R (p::q::l) y):Sx O H Y x R0 R (q::p::l) y:=⟨h.q.swap,h.b,h.s⟩
def Sx.box(h:Sx O H Y x R0 R l y)(a:Nat):Sx O H Y x R0 R (bx y.heap.size a::l) (y.alloc<|wc a):=⟨h.q.aW _ _ _ _,h.b.trans<|(ai (dO _ y) _).mono h.q.hb.1,h.s⟩
theorem VJ(J:Nat)(L:J=21\/J=25)(h:DQ O H Y R l x):cP 121 #[pt H,iI (J:Int)] x (Dp O H Y (Nh J R) (.tuple #[]) l x):=by
 have E:ny J=0:=by rcases L with rfl|rfl<;>decide
 rcases L with rfl|rfl;all_goals
  refine jG (fK (dU 5 R) λR=>du _ λa R=>mM _ a 0 0 R) W h λtr D C=>?_;go_enter func121,ntmps121;go_wp2_with fail
  refine gR 5 D C λu K D C=>?_;go_wp2_with fail
  refine fE D C λa G t D C=>?_;go_wp2_with fail
  refine lT (dx 0 wq _) C λF C=>?_;replace C:=cV<|C.box 0;go_wp2_with fail
  refine lT (dx 0 wq _) C λk C=>?_;replace C:=cV<|C.box 0;unfold mM at D;have p:=C.aa.c 19 λ_ _=>W;by_cases I:G.ao=0
  .replace D:=cV<|D.trans<|At I;have j:((G.ao:Int) !=0)=false:=K9
   let⟨U,T,X,A,m⟩:=C.aa.cs 0 _ _ W;let⟨vm,ze,V,Q,o⟩:=C.aa.cs 1 _ _ W;let⟨P,z,Z,d,g⟩:=C.aa.cs 2 _ _ W;go_wp2_with fail
   refine(qC _ K3 a 0 0).mono ?_;rintro e N⟨r,f,rfl,S⟩;rw[<-f.aa]at D;replace C:=cV<|(C.below S).box r;rw[E,At W]at D;rw[E];go_wp2_with fail
   refine gf (iq r C.q) D C λy C=>?_;go_wp2;refine bI W W ⟨W,C.1.tail.tail.tail.tail,C.2⟩
  have j:((G.ao:Int) !=0)=true:=Zp.2 wq;replace C:=C.aa.aZ<|cV<|D.trans<|iF I;go_wp2;refine bI W W ⟨W,C.1.tail.tail.tail,C.2⟩
theorem Vt(J:Nat)(d:J=8\/J=9)(h:DQ O H Y R l x):cP 121 #[pt H,iI (J:Int)] x (Dp O H Y (Nh J R) (.tuple #[]) l x):=by
 have L:ny J=0:=by rcases d with rfl|rfl<;>decide
 rcases d with rfl|rfl;all_goals
  refine jG (fK (dU 5 R) λR=>du _ λa R=>du (dA R) λb R=>du (dA R) λc R=>mM _ a b c R) W h λtr D C=>?_;go_enter func121,ntmps121;go_wp2_with fail
  refine gR 5 D C λu u D C=>?_;go_wp2_with fail
  refine fE D C λa u u D C=>?_;go_wp2_with fail
  refine lT (dx 0 wq _) C λu C=>?_;have I:=cV C.q.hb.1;replace C:=cV<|C.box 0;go_wp2_with fail
  refine lT (dx 0 wq _) C λu C=>?_;have G:=cV C.q.hb.1;replace C:=cV<|C.box 0;replace C:=cV C.swap;go_wp2_with fail
  refine Bn D C I λb u u D E C=>?_;let⟨A,k,s2,s,U,X,P,Q,sf⟩:=E;unfold lp at C;replace C:=cV C.swap;go_wp2_with fail
  refine Bn D C G λc V u D E C=>?_;let⟨A,k,s2,s,U,X,P,Q,sf⟩:=E;unfold lp at C;unfold mM at D;have u:=C.aa.c 19 λ_ _=>W;by_cases Z:V.ao=0
  .replace D:=cV<|D.trans<|At Z;have K:((V.ao:Int) !=0)=false:=K9
   let⟨j,u,o,i,F⟩:=C.aa.cs 0 _ _ W;let⟨vm,ze,m,g,N⟩:=C.aa.cs 1 _ _ W;let⟨f,t,p,z,S⟩:=C.aa.cs 2 _ _ W;go_wp2_with fail
   refine(qC _ K3 a b c).mono ?_;rintro e u⟨r,T,rfl,u⟩;rw[<-T.aa]at D;replace C:=cV<|(C.below u).box r;rw[L,At W]at D;rw[L];go_wp2_with fail
   refine gf (iq r C.q) D C λy C=>?_;go_wp2;refine bI W W ⟨W,C.1.tail.tail.tail.tail,C.2⟩
  have K:((V.ao:Int) !=0)=true:=Zp.2 wq;replace C:=C.aa.aZ<|cV<|D.trans<|iF Z;go_wp2;refine bI W W ⟨W,C.1.tail.tail.tail,C.2⟩
theorem TT(J:Nat)(o:J=10)(h:DQ O H Y R l x):cP 121 #[pt H,iI (J:Int)] x (Dp O H Y (Nh J R) (.tuple #[]) l x):=by
 have I:ny J=0:=by subst o;decide
 subst o;refine jG (fK (dU 10 R) λR=>du _ λa R=>du (dA R) λb R=>fK (dU (10*(GM<|pw b).size) R) λR=>mM 10 a b 0 R) W h λtr D C=>?_;go_enter func121,ntmps121;go_wp2_with fail
 refine gR 10 D C λu u D C=>?_;go_wp2_with fail
 refine fE D C λa u u D C=>?_;go_wp2_with fail
 refine lT (dx 0 wq _) C λu C=>?_;have G:=cV C.q.hb.1;replace C:=cV<|C.box 0;go_wp2_with fail
 refine lT (dx 0 wq _) C λu C=>?_;replace C:=cV<|C.box 0;replace C:=cV C.swap;go_wp2_with fail
 refine Bn D C G λb u u D d C=>?_;obtain⟨u,u,s2,u,u,u,T,F,sf⟩:=d;unfold lp at C;replace C:=cV C.swap;let⟨vm,ze,V,P,Z⟩:=C.aa.cs 1 _ _ W;go_wp2_with fail
 refine vK (qk b) C λu C=>?_;let⟨u,L⟩:=dP<|pw b;have Q:u.size<=32:=by rw[L.aa];exact DO 32
 rw[<-L.aa]at D⊢;go_wp2_with fail
 refine(Lh u wq).mono ?_;rintro e v⟨rfl,rfl⟩;have U:=By (lst_le u) Q;let⟨m,f⟩:=dP<|GM u;rw[<-f.aa]at D U⊢;let⟨n9,E⟩:=dP<|10*m.size;have g:n9<=10000000:=by have:=E.aa;omega
 rw[<-E.aa]at D;have u:10*(m.size:Int)=n9:=by have:=E.aa;omega
 go_wp2_with fail
 refine gR n9 (hn:=g) D C λX u D C=>?_;unfold mM at D;have i:=C.aa.c 19 λ_ _=>W;by_cases j:X.ao=0
 .replace D:=cV<|D.trans<|At j;have t:((X.ao:Int) !=0)=false:=K9
  obtain⟨z,u,A,u,s⟩:=C.aa.cs 0 _ _ W;let⟨vm,ze,V,P,Z⟩:=C.aa.cs 1 _ _ W;let⟨p,u,S,K,k⟩:=C.aa.cs 2 _ _ W;go_wp2_with fail
  refine(qC 10 K3 a b 0).mono ?_;rintro e u⟨r,N,rfl,u⟩;rw[<-N.aa]at D;replace C:=cV<|(C.below u).box r;rw[I,At W]at D;rw[I];go_wp2_with fail
  refine gf (iq r C.q) D C λy C=>?_;go_wp2;refine bI W W ⟨W,C.1.tail.tail.tail.tail,C.2⟩
 have t:((X.ao:Int) !=0)=true:=Zp.2 wq;replace C:=C.aa.aZ<|cV<|D.trans<|iF j;go_wp2;refine bI W W ⟨W,C.1.tail.tail.tail,C.2⟩
theorem Vi(J:Nat)(u:J<=29/\J≠21/\J≠25/\J≠8/\J≠9/\J≠10)(h:DQ O H Y R l x):cP 121 #[pt H,iI (J:Int)] x (Dp O H Y (Nh J R) (.tuple #[]) l x):=by
 have v:((J:Int)==10)=false:=Xb.2 wq;have g:((J:Int) !=21)=true:=Zp.2 wq;have A:((J:Int) !=25)=true:=Zp.2 wq;have v:((J:Int)==8)=false:=Xb.2 wq;have v:((J:Int)==9)=false:=Xb.2 wq;have N:=u.1;refine jG (fK _ λR=>du _ λa R=>du (dA R) λb R=>mM J a b 0 R) (by unfold Nh;simp only[iF<|show¬J=10 by omega,iF<|show¬(J=21\/J=25) by omega,iF<|show¬(J=8\/J=9) by omega];rfl) h λtr D C=>?_;go_enter func121,ntmps121;go_wp2_with fail
 refine gR 5 D C λu u D C=>?_;go_wp2_with fail
 refine fE D C λa u u D C=>?_;go_wp2_with fail
 refine lT (dx 0 wq _) C λu C=>?_;have E:=cV C.q.hb.1;replace C:=cV<|C.box 0;go_wp2_with fail
 refine lT (dx 0 wq _) C λu C=>?_;replace C:=cV<|C.box 0;replace C:=cV C.swap;go_wp2_with fail
 refine Bn D C E λb P u D V C=>?_;obtain⟨u,u,s2,u,T,i,o,z,sf⟩:=V;unfold lp at C;replace C:=cV C.swap;unfold mM at D;have t:=C.aa.c 19 λ_ _=>W;by_cases Z:P.ao=0
 .replace D:=cV<|D.trans<|At Z;have F:((P.ao:Int) !=0)=false:=K9
  let⟨G,X,I,U,Q⟩:=C.aa.cs 0 _ _ W;let⟨vm,ze,j,f,k⟩:=C.aa.cs 1 _ _ W;let⟨d,s,m,p,K⟩:=C.aa.cs 2 _ _ W;go_wp2_with fail
  refine(qC J wq a b 0).mono ?_;rintro e u⟨r,S,rfl,u⟩;rw[<-S.aa]at D;replace C:=cV<|(C.below u).box r;obtain⟨k9,L⟩:∃k9,ny J=k9:=⟨_,W⟩
  rw[L]at D⊢;by_cases u:k9=0
  .subst u;rw[At W]at D;go_wp2_with fail
   refine gf (iq r C.q) D C λy C=>?_;go_wp2;refine bI W W ⟨W,C.1.tail.tail.tail.tail,C.2⟩
  rw[iF u]at D;have v:=Zp.2 u;replace D:Hd (tr=fK _ λR=>eN r R):=D;go_wp2_with fail
  refine TX (jh C.q C.q.ac) D C (hM _) λu u D C=>?_;let⟨G,X,I,U,Q⟩:=C.aa.cs 0 _ _ W;go_wp2_with fail
  refine gf (iq r C.q) D C λy C=>?_;go_wp2;refine bI W W ⟨W,C.1.tail.tail.tail.tail,C.2⟩
 have F:((P.ao:Int) !=0)=true:=Zp.2 wq;replace C:=C.aa.aZ<|cV<|D.trans<|iF Z;go_wp2;refine bI W W ⟨W,C.1.tail.tail.tail,C.2⟩
def DQ.bh{D:hZ}(h:DQ O H Y R l x)(p:l.Perm D):DQ O H Y R D x:=by let⟨X,C,V,h,G,E⟩:=h;exact⟨X,C,V,h,λq I=>G q<|p.mem_iff.2 I,(p.map _).nodup_iff.1 E⟩
def DQ.bt{T:Nat}(h:DQ O H Y R ((b,T,cs)::l) x):DQ O H Y R ((b,T,cs.set o v)::l) (x.setCell ⟨b,o,none⟩ v):=by
 have c:=h.row;let⟨X,C,V,h,Q,G⟩:=h;have U:=(Q _ Xz).2;let⟨E,I⟩:=X3.1 G;have Z:Kb [b] x (x.setCell ⟨b,o,none⟩ v):=(Kb.refl _ _).setCell AI v;refine⟨X,C,V,h.kb Z (λk D=>by rw[BY.1 D];exact U),λp J=>?_,G⟩;rcases IF.1 J with rfl|J
 .exact⟨c.set v,U⟩
 exact⟨Z.row (Q p<|IN _ J).1 λD=>E<|Xq.2 ⟨p,J,BY.1 D⟩,(Q p<|IN _ J).2⟩
def Tps(O:Nat)(t:VL)(ts:Tl)(L:hZ):=(∀k,t.ownBlock=some k->∃p∈L,p.1=k)/\∀y:WD,(∀p∈L,rowL y p.1 p.2.1 p.2.2)->Wds y O t ts
def Tps.nil(O:Nat):Tps O (.slice none 0 0) [] []:=⟨λk C=>(by cases C),λy _=>Xy y _ _ _⟩
def DQ.tps{t:VL}(h:DQ O H Y R (L++l) x)(D:Tps O t ts L):Wds x O t ts:=by let⟨X,C,V,h,G,E⟩:=h;exact D.2 x λp I=>(G p<|Xw _ I).1
def DQ.cS{t U:VL}{E:Tl}(h:DQ O H Y R (L++l) x)(f:Tps O t ts L)(j:x.grownBy y t.ownBlock)(m:Wds y O U E)(T:Fresh x t U):∃D,Tps O U E D/\DQ O H Y R (D++l) y:=by
 let⟨X,C,V,h,S,Q⟩:=h;let⟨D,d,s2,z,g⟩:=wL m;rw[XP,X5]at Q;have K:=iM j;have I:∀k∈t.ownBlock.toList,∃p∈L,p.1=k:=λk J=>f.1 k (by simpa using J);have Z:∀q∈l,q.1∉t.ownBlock.toList:=λq u J=>by let⟨p,c,e⟩:=I _ J;exact Q.2.2 _ (Xq.2 ⟨p,c,W⟩) _ (Xq.2 ⟨q,u,W⟩) e
 have G:∀p∈D,(∃q∈L,q.1=p.1)\/x.heap.size<=p.1:=λp c=>by
  rcases T with e|e
  .exact LZ (f.1 _<|e▸(d p c).1)
  exact A4<|e _ (d p c).1
 refine⟨D,⟨s2,g⟩,X,C,V,h.kb K<|λk J=>?_,λp c=>?_,?_⟩
 .obtain⟨p,c,rfl⟩:=I k J;exact(S p<|Xw _ c).2
 .rcases Xr.1 c with c|c
  .refine⟨(d p c).2.2,λT=>?_⟩;rcases G p c with⟨q,u,e⟩|e
   .exact(S q<|Xw _ u).2 (e▸T)
   have:=h.lt T;omega
  exact⟨K.row (S p<|Xn _ c).1<|Z p c,(S p<|Xn _ c).2⟩
 rw[XP,X5];refine⟨z,Q.2.1,λa A b T e=>?_⟩;obtain⟨p,c,rfl⟩:=Xq.1 A;obtain⟨q,u,rfl⟩:=Xq.1 T;rcases G p c with⟨r,T,c⟩|c
 .exact Q.2.2 _ (Xq.2 ⟨r,T,W⟩) _ (Xq.2 ⟨q,u,W⟩) (c.trans e)
 have:=World.rowIs.lt (S q<|Xn _ u).1;omega
def WQ.lg1{V:DV}{t:VL}{e:LogE}(h:DW O Y P V x)(z:(∀p∈L++l,rowL x p.1 p.2.1 p.2.2/\¬vu Y V p.1)/\((L++l).map (·.1)).Nodup)(hb:O<=x.heap.size)(X:Tps O t e.aM L)(A:Kb (Y::V.gv.ownBlock.toList) x y)(m:rowL y Y 146 [V.pv,V.lv,v'])(S:y.ownsRow O 112 6 v' (P.lg++[e]).length<|qM (P.lg++[e])<|V.tv++[t])(Q:Fresh x V.gv v'):WQ O Y {P with lg:=P.lg++[e]} l y:=by
 have c:∀k∈Y::V.gv.ownBlock.toList,∀T,Ty x k T->T=146\/T=112:=λk G T c=>by
  rcases IF.1 G with rfl|G
  .exact LZ (c.aF<|Ty.aB h.row)
  exact A4<|c.aF<|Ty.az h.lg<|by simpa using G
 have I:∀{b f size n:Nat}{v:VL}{xs:Tn},f≠146->f≠112->x.ownsRow b f size v n xs->y.ownsRow b f size v n xs:=λg Z I=>A.aD I λk hb G=>(c k G _<|Ty.az I hb).elim g Z;have j:∀k∈Y::V.gv.ownBlock.toList,vu Y V k:=λk G=>by
  rcases IF.1 G with rfl|G
  .exact LZ W
  exact A4<|A4<|A4<|LZ<|by simpa using G
 have U:=z.2;rw[XP,X5]at U;refine⟨{V with gv:=v',tv:=V.tv++[t]},⟨m,I K3 K3 h.pu,I K3 K3 h.sl,S,by simp[h.tl],λi d u c E=>?_,h.hb⟩,λp m=>⟨A.row (z.1 p<|Xn _ m).1 λG=>(z.1 p<|Xn _ m).2<|j _ G,λS=>?_⟩,U.2.1,By hb A.size⟩
 .by_cases hi:i<P.lg.length
  .rw[Xv hi]at c;rw[Xv (by rw[h.tl];exact hi)]at E;exact I K3 K3<|h.tp i d u c E
  rw[Xx wq]at c;rw[Xx (by rw[h.tl];omega),h.tl]at E;have A:i-P.lg.length=0:=by have:=(Do.1 c).1;simp at this;omega
  rw[A]at c E;cases(by simpa using c:e=d)
  cases(by simpa using E:t=u)
  exact fO (I K3 K3<|X.2 x λp m=>(z.1 p<|Xw _ m).1)<|In _
 have C:=z.1 p<|Xn _ m;rcases S with D|D|D|D|⟨u,E,D⟩
 .exact C.2 (LZ D)
 .exact C.2 (A4<|LZ D)
 .exact C.2 (A4<|A4<|LZ D)
 .rcases Q with J|J
  .exact C.2 (A4<|A4<|A4<|LZ<|J▸D)
  have:=J _ D;have:=World.rowIs.lt C.1;omega
 rcases Xr.1 E with E|E
 .exact C.2 (A4<|A4<|A4<|A4 ⟨u,E,D⟩)
 rw[BY.1 E]at D;let⟨q,c,J⟩:=X.1 _ D;exact U.2.2 _ (Xq.2 ⟨q,c,W⟩) _ (Xq.2 ⟨p,m,W⟩) J
def nR:Nat->Tl->RS->Tl×RS
 |0,ts,R=>(ts,R)
 |k+1,ts,R=>nR k (ts++[(dA R).1]) (dA R).2
def DH(q:Nat×Nat)(ts:Tl)(R:RS):RS:=if R.ao=0 then{R with w:={R.w with lg:=R.w.lg++[⟨R.ak,ts,dI<|dM R.mem q.1 q.2⟩]}}else R
def hd_rd(R:RS):pV (QO R)=pV R:=(E8 R).hd
def Gf(n:Nat)(R:RS):RS:=du (dA<|QO<|dU 300 R) λa R=>du (dA R) λs R=>du (dJ a s<|dU (8*ec s 70000) R) λq R=>du (nR n [] R)<|DH q
variable {a:Nat}
def uS(J:Nat)(R:RS):Nat×RS:=if J=241 then dA R else(0,R)
def vV(v:Nat)(R:RS):RS:=if v%M=0 then R else QO<|dU 900 R
def kB(g:Nat)(R:RS):Nat:=if ec g 200000<R.ac-R.ac/64 then ec g 200000 else R.ac-R.ac/64
def uT(J Z v:Nat)(q:Nat×Nat)(g:Nat)(R:RS)(c:BA)(P:RW):RS:=⟨c,dI<|dM R.mem q.1 q.2,⟨#[]⟩,if J=244 then R.ak else Z,if J=244 then R.ax else R.ak,if J=244 then R.value else v,g,R.depth+1,0,0,R.aR||J==250,[],[],⟨#[]⟩,P⟩
def FR(o:Nat×Nat)(G R:RS):RS:=if G.ao=3 then eN 0 R else
 eN (jM<|G.ao==1) (if G.ao=1 then{gT o.1 (dI<|dH G.aa 0<|min o.2 G.aa.size) {R with ac:=R.ac+G.ac,aI:=G.aa}with w:=G.w}else gT o.1 (dI<|dH G.aa 0<|min o.2 G.aa.size) {R with ac:=R.ac+G.ac,aI:=G.aa})
def ow(J Z v:Nat)(R:RS):Bool×RW:=if J=241 then fP R.ak Z v (ag Z R.w).2 else(true,(ag Z R.w).2)
def D3(run:RS->RS)(J Z v:Nat)(q o:Nat×Nat)(g:Nat)(R:RS):RS:=if (ow J Z v R).1=true then FR o (run<|uT J Z v q g R (mB (ag Z R.w).2 (ag Z R.w).1).ae (ow J Z v R).2) {R with ac:=R.ac-g}else eN 0 R
def Bu(run:RS->RS)(J gs Z v:Nat)(q o:Nat×Nat)(R:RS):RS:=if R.ao=0 then(if R.depth=16 then eN 0 {R with aI:=⟨#[]⟩}else D3 run J Z v q o (kB gs R) {R with aI:=⟨#[]⟩})else R
def calA(J:Nat)(R:RS)(K:Nat->Nat->Nat->Nat×Nat->Nat×Nat->RS->RS):RS:=du (dA<|dU 100 R) λgs R=>du (dA R) λZ R=>du (uS J R) λv R=>du (dA<|vV v R) λa R=>du (dA R) λn R=>du (dA R) λoa R=>du (dA R) λon R=>du (dJ a n R) λq R=>du (dJ oa on R) λo R=>K gs Z v q o R
def RR(run:RS->RS)(J:Nat)(R:RS):RS:=calA J R<|Bu run J
def FL(R:RS):Nat:=((bl R.ae).getD R.pc 0).toNat
def eE(run:RS->RS)(J p:Nat)(R:RS):RS:=
 if J=0 then{R with ao:=1}
 else if J<30 then Nh J R
 else if J<63 then lU J R
 else if J=80 then(dA<|dU 2 R).2
 else if J=81 then AD R
 else if J=82 then rZ 32 R
 else if J=83 then rZ 1 R
 else if J=84\/J=85\/J=92\/J=93 then rK J R
 else if 86<=J/\J<=91 then I1 J p R
 else if J=94 then lA ⟨#[]⟩ true false R
 else if 95<=J/\J<=159 then uI J R
 else if 160<=J/\J<=164 then Gf (J-160) R
 else if J=241\/J=244\/J=250 then RR run J R
 else if J=243 then yi 1 R
 else if J=253 then yi 2 R
 else fA R
def lH(run:RS->RS):Nat->RS->RS
 |0,R=>R
 |k+1,R=>if R.ao=0 then lH run k (eE run (FL R) R.pc {R with pc:=R.pc+1})else R
def EH(R:RS):RS:=if R.ao=3 then{R with ac:=0,aa:=⟨#[]⟩}else R
def iR:Nat->RS->RS
 |0,R=>R
 |d+1,R=>EH<|lH (iR d) (R.ac+1) R
theorem tS:∀(k:Nat)(C:Tl)(R:RS),Sm R (nR k C R).2
 |0,_,R=>Sm.refl R
 |k+1,C,R=>(ee R).trans<|tS k _ _
def nK{c:Prop}[Decidable c]{A B:RS}(D:Sm R A)(C:Sm R B):Sm R (if c then A else B):=K9
def Gt(J:Nat)(R:RS):Sm R (uS J R).2:=by grind[uS,ee,Sm.refl]
def GI(v:Nat)(R:RS):Sm R (vV v R):=nK (Sm.refl R)<|(kI 900 R).trans<|E8 _
def Sm.bT{S:RS}(h:Sm (dU n R) S)(C:S.ao≠3):S.ac+n<=R.ac:=by
 have D:=h.ac;by_cases E:R.ac<n
 .exact absurd (h.ov (by unfold dU;rw[At E];rfl)) C
 grind[dU]
def skey(s:Slt):Bool×Nat×Nat:=(s.br,s.aj,s.key)
def Cd(P:RW):=(∀p∈P.pu,p.ae.size<=1000)/\(P.pu.map (·.aj)).Pairwise (λa b=>gN a b=false)/\(P.sl.map skey).Pairwise (λq r=>ly r.1 r.2.1 r.2.2 ⟨q.2.1,q.2.2,0,q.1⟩=false)
def yc(p:Pur):Bool:= !decide (p.mo%M=0)|| !decide (p.ae.size=0)
def gF(P:RW):Nat:=P.pu.countP yc+P.sl.countP (λs=> !s.br)
structure Pot(R S:RS):Prop where
 ae:S.ae=R.ae
 data:S.data=R.data
 depth:S.depth=R.depth
 ac:S.ac<=R.ac
 pu:50*S.w.pu.length+S.ac<=50*R.w.pu.length+R.ac
 sl:100*S.w.sl.length+S.ac<=100*R.w.sl.length+R.ac
 lg:S.w.lg.length+S.ac<=R.w.lg.length+R.ac
 bp:Cd R.w->Cd S.w
 ct:200*gF S.w+S.ac<=200*gF R.w+R.ac
 aI:R.aI.size<=70000->S.aI.size<=70000
 aa:R.aa.size<=70000->S.aa.size<=70000
theorem Pot.refl(R:RS):Pot R R:=⟨W,W,W,DO _,DO _,DO _,DO _,id,DO _,id,id⟩
theorem Pot.trans{S T:RS}(h:Pot R S)(k:Pot S T):Pot R T:=⟨k.ae.trans h.ae,k.data.trans h.data,k.depth.trans h.depth,By k.ac h.ac,By k.pu h.pu,By k.sl h.sl,By k.lg h.lg,λe=>k.bp<|h.bp e,By k.ct h.ct,λe=>k.aI<|h.aI e,λe=>k.aa<|h.aa e⟩
def Sm.bj{S:RS}(h:Sm R S):Pot R S:=by have D:=hdw h.hd;have C:=h.ac;refine⟨ul h.hd,OZ h.hd,by have:=Xl RS.depth h.hd;exact this,C,K9,K9,K9,K9,K9,by rw[hdb h.hd];exact id,by rw[h.aa];exact id⟩
structure Stp(R S:RS):Prop where
 bj:Pot R S
 dn:S.ao=0->S.ac<R.ac
 pc:S.ao=0->S.pc<=R.pc+32\/S.pc<=R.ae.size
theorem Sm.bk{S:RS}(h:Sm (dU n R) S)(hn:1<=n):Stp R S:=⟨((kI n R).trans h).bj,λC=>by have:=h.bT wq;omega,λC=>LZ (by have:=Xl RS.pc<|h.hd.trans<|vb n R;replace this:S.pc=R.pc:=this;omega)⟩
def Sm.cA{S T:RS}(h:Sm (dU n R) S)(hn:100<=n)(U:S.ao=0)(H:P.pu.length<=S.w.pu.length+2)(E:P.sl.length<=S.w.sl.length+1)(O:P.lg.length<=S.w.lg.length+1)(G:Cd S.w->Cd P)(I:200*gF P<=200*gF S.w+n)(X:Sm {S with w:=P} T):Stp R T:=by
 have Y:=h.bT wq;have C:=((kI n R).trans h)
 have Y:=hdw X.hd;replace Y:T.w=P:=Y;have V:T.ac<=S.ac:=X.ac;rw[hdw C.hd]at H E O G I;have Q:T.ae=S.ae:=ul (S:={S with w:=P}) X.hd;have hd:T.data=S.data:=OZ (S:={S with w:=P}) X.hd;have L:T.pc=S.pc:=by have:=Xl RS.pc X.hd;exact this
 have D:S.pc=R.pc:=by have:=Xl RS.pc C.hd;exact this
 refine⟨⟨Q.trans<|ul C.hd,hd.trans<|OZ C.hd,(by have:=Xl RS.depth X.hd;exact this:T.depth=S.depth).trans (by have:=Xl RS.depth C.hd;exact this:S.depth=R.depth),wq,K9,K9,K9,K9,K9,by rw[hdb (S:={S with w:=P}) X.hd,hdb C.hd];exact id,by rw[X.aa,C.aa];exact id⟩,λ_=>wq,λ_=>LZ wq⟩
def Stp.cM{S:RS}(h:Stp R S)(C:S.ao=0->p<=R.pc+32\/p<=R.ae.size):Stp R {S with pc:=p}:=⟨⟨h.bj.ae,h.bj.data,h.bj.depth,h.bj.ac,h.bj.pu,h.bj.sl,h.bj.lg,h.bj.bp,h.bj.ct,h.bj.aI,h.bj.aa⟩,h.dn,C⟩
theorem GX(ae:BA)(n:Nat):∀(f i:Nat),CC ae n f i=true->n<ae.size
 |0,_,h=>by cases h
 |f+1,i,h=>by
  unfold CC at h;split at h
  .rename_i hi;split at h
   .omega
   exact GX _ n f _ h
  grind
theorem Ff{S:RS}(h:Sm (dU n R) S)(hn:1<=n):Stp R (ek a S):=by
 unfold ek;split
 .rename_i C;refine(h.bk hn).cM λ_=>A4 ?_;have:=GX _ _ _ _ C.2;rw[ul<|h.hd.trans<|vb n R]at this;omega
 exact(h.trans<|hM _).bk hn
def qp(h:Cd P):Cd (ag a P).2:=by
 unfold ag;cases G:CE a P.pu with
 |some i=>exact h
 |none=>
  refine⟨λp D=>?_,?_,h.2.2⟩
  .rcases Xr.1 D with D|D
   .exact h.1 p D
   rw[BY.1 D];exact In _
  show((P.pu++[_]).map _).Pairwise _;rw[XP];refine XW.2 ⟨h.2.1,XO _ _,λb E c C=>?_⟩;obtain⟨p,D,rfl⟩:=Xq.1 E;rw[BY.1 C];exact Bool.eq_false_iff.2<|by simpa using Y9.1 G p D
theorem lh(a:Nat)(P:RW):gF (ag a P).2=gF P:=by
 unfold ag;cases CE a P.pu with
 |some i=>rfl
 |none=>show(P.pu++[_]).countP yc+_=_;rw[List.countP_append,List.countP_singleton,(R5:yc _=false)];rfl
theorem kK(a:Nat)(P:RW):(ag a P).2.sl=P.sl/\(ag a P).2.lg=P.lg:=by grind[ag]
theorem Jp(h:Cd P):(mB P i).ae.size<=1000:=by
 by_cases C:i<P.pu.length
 .rw[sd C];exact h.1 _<|Ya C
 unfold mB;rw[If,Ym wq];exact In _
theorem map_set{α β:Type}{f:α->β}{l:List α}{a d:α}(h:f a=f (l.getD i d)):(l.set i a).map f=l.map f:=by refine List.ext_getElem? λj=>?_;grind
def Ux{v:Nat}(h:Cd P):Cd (gX i v P):=by
 refine⟨λp C=>?_,?_,h.2.2⟩
 .rcases List.mem_or_eq_of_mem_set C with C|rfl
  .exact h.1 p C
  grind[Jp]
 have e:(P.pu.set i {mB P i with mo:=v}).map (·.aj)=P.pu.map _:=map_set W;show((P.pu.set i _).map _).Pairwise _;rw[e];exact h.2.1
def JL{v:Nat}(hi:i<P.pu.length):gF (gX i v P)<=gF P+1/\((v%M≠0->(mB P i).mo%M≠0)->gF (gX i v P)<=gF P):=by
 have C:0<P.pu.countP yc\/yc P.pu[i]=false:=K9
 have e:gF (gX i v P)=P.pu.countP yc-(if yc P.pu[i]=true then 1 else 0)+(if yc {mB P i with mo:=v}=true then 1 else 0)+P.sl.countP (λs=> !s.br):=by show(P.pu.set i _).countP yc+_=_;rw[List.countP_set hi];rfl
 rw[e];unfold gF;refine⟨K9,λh=>?_⟩;cases C:yc P.pu[i]with
 |true=>grind
 |false=>simp_all[yc,mB,M]
def Sd(a:Nat)(P:RW):=∃p∈P.pu,gN p.aj a=true
theorem VS(h:Sd a P):(ag a P).2.pu.length=P.pu.length:=by let⟨p,C,e⟩:=h;grind[ag,CE]
theorem qT(a b:Nat)(h:Sd a P\/a=b):Sd a (ag b P).2:=by
 unfold ag;cases D:CE b P.pu with
 |some i=>
  rcases h with h|rfl
  .exact h
  let⟨C,e,_⟩:=YE.1 D;exact⟨_,Ya C,e⟩
 |none=>
  rcases h with⟨p,C,e⟩|rfl
  .exact⟨p,Xw _ C,e⟩
  exact⟨_,Xn _<|YL _,jg W⟩
theorem Tc{v:Nat}(h:Sd a P):Sd a (gX i v P):=by
 let⟨p,E,e⟩:=h;obtain⟨j,D,rfl⟩:=XU E;refine⟨_,Ya (by rw[XE];exact D:j<(P.pu.set i {mB P i with mo:=v}).length),?_⟩;rw[List.getElem_set];split
 .rename_i C;subst C;rwa[sd D]
 exact e
structure Mvd(P Q:RW):Prop where
 sl:Q.sl=P.sl
 lg:Q.lg=P.lg
 bp:Cd P->Cd Q
theorem Mvd.trans{Q S:RW}(h:Mvd P Q)(k:Mvd Q S):Mvd P S:=⟨k.sl.trans h.sl,k.lg.trans h.lg,λe=>k.bp<|h.bp e⟩
theorem mr(a:Nat)(P:RW):Mvd P (ag a P).2:=⟨(kK a P).1,(kK a P).2,qp⟩
def Ie(v:Nat):Mvd P (gX i v P):=⟨W,W,Ux⟩
def wW(f t v:Nat)(P:RW):Mvd P (fP f t v P).2/\(fP f t v P).2.pu.length<=P.pu.length+2/\(Sd t P->(fP f t v P).2.pu.length<=P.pu.length+1)/\gF (fP f t v P).2<=gF P+if v%M=0 then 0 else 1:=by
 let⟨G,L⟩:=iG f P;unfold fP;split
 .grind[mr,ag,gF,lh]
 rename_i C;have C:¬(mB _ _).mo%M<v%M:=λh=>C<|OsQ h;generalize Q:ku ((mB (ag f P).2 (ag f P).1).mo%M) (v%M)=m;have Q:(gX (ag f P).1 m _).pu.length=(ag f P).2.pu.length:=XE;let⟨H,I⟩:=iG t<|gX (ag f P).1 m (ag f P).2;refine⟨(((mr f P).trans<|Ie m).trans<|mr t _).trans<|Ie _,?_,λO=>?_,?_⟩
 .show(List.set _ _ _).length<=_;grind
 .show(List.set _ _ _).length<=_;grind[XE,VS,Tc,qT]
 have c1:gF (gX (ag f P).1 m (ag f P).2)<=gF P:=by
  rw[<-lh f P];refine(JL G).2 λD e=>D ?_;have E:v%M=0:=wq
  grind[ku]
 let⟨c2,c3⟩:=JL (v:=kQ ((mB (ag t<|gX (ag f P).1 m (ag f P).2).2 (ag t<|gX (ag f P).1 m (ag f P).2).1).mo%M)<|v%M) H;rw[lh]at c2 c3;show gF (gX _ _ _)<=_;split
 .rename_i E;refine By (c3 λD e=>D ?_) c1;rw[e,E];rfl
 omega
def Iq(J Z v:Nat)(R:RS):Mvd R.w (ow J Z v R).2/\(ow J Z v R).2.pu.length<=R.w.pu.length+2/\gF (ow J Z v R).2<=gF R.w+if v%M=0 then 0 else 1:=by
 have G:=(iG Z R.w).2;unfold ow;split
 .obtain⟨D,_,E,C⟩:=wW R.ak Z v (ag Z R.w).2;rw[lh]at C;exact⟨(mr Z _).trans D,By (E<|qT Z Z<|A4 W) wq,C⟩
 grind[mr,ag,gF,lh]
def TJ(g:Nat)(R:RS):kB g R<=R.ac:=by grind[kB]
def paid2{A S:RS}{v:Nat}(G:Sm (dU 100 R) A)(C:Sm (vV v A) S)(E:S.ao≠3):S.ac+(if v%M=0 then 100 else 1000)<=R.ac:=by
 have H:=G.bT λe=>E<|((GI v A).trans C).ov e;unfold vV at C;split
 .rename_i D;rw[At D]at C;have:=C.ac;omega
 rename_i D;rw[iF D]at C;have:=((E8 _).trans C).bT E;omega
def Ui{K:Nat->Nat->Nat->Nat×Nat->Nat×Nat->RS->RS}{Cq9:RS->Prop}(h:∀C Z v q o S,Sm (dU 100 R) S->q.1<=70000/\q.2<=70000->(S.ao≠3->S.ac+(if v%M=0 then 100 else 1000)<=R.ac)->Cq9 (K C Z v q o S)):Cq9 (calA J R K):=h _ _ _ _ _ _ (((((((((ee _).trans<|ee _).trans<|Gt J _).trans<|GI _ _).trans<|ee _).trans<|ee _).trans<|ee _).trans<|ee _).trans (gy _ _ _) |>.trans (gy _ _ _)) (uC _ _ _)<|paid2 (((ee _).trans<|ee _).trans<|Gt J _)<|(((((ee _).trans<|ee _).trans<|ee _).trans<|ee _).trans<|gy _ _ _).trans<|gy _ _ _
def Px(x:∀G,Pot G<|run G):Stp R (RR run J R):=by
 refine Ui λC Z v q o S g hq H=>?_;unfold Bu;split;case isFalse=>exact g.bk wq
 rename_i h0;have O:=(kI _ R).trans g;have hp:=g.bT wq;have u:=hdw O.hd;have t:S.pc=R.pc:=by have:=Xl RS.pc O.hd;exact this
 have Bp:S.depth=R.depth:=by have:=Xl RS.depth O.hd;exact this
 have Q:200*gF S.w+S.ac<=200*gF R.w+R.ac:=K9
 have H:=H wq
 -- a frame that has been given nothing aI
 have N:∀T:RS,T.ae=S.ae->T.data=S.data->T.depth=S.depth->T.pc=S.pc->T.ac<=S.ac->50*T.w.pu.length+T.ac<=50*S.w.pu.length+S.ac+100->100*T.w.sl.length+T.ac<=100*S.w.sl.length+S.ac->T.w.lg.length+T.ac<=S.w.lg.length+S.ac->(Cd S.w->Cd _)->200*gF _+T.ac<=200*gF _+R.ac->T.aI.size<=70000->T.aa=S.aa->Stp R T:=λT A s b k4 k5 k6 F k8 j f V d=>by rw[u]at k6 F k8 j;exact⟨⟨A.trans<|ul O.hd,s.trans<|OZ O.hd,b.trans Bp,wq,wq,wq,wq,j,f,λ_=>V,λe=>by rw[d,O.aa];exact e⟩,λ_=>wq,λ_=>LZ wq⟩
 have D:∀(n:Nat)(T:RS),T.ae=S.ae->T.data=S.data->T.depth=S.depth->T.pc=S.pc->T.ac<=S.ac->50*T.w.pu.length+T.ac<=50*S.w.pu.length+S.ac+100->100*T.w.sl.length+T.ac<=100*S.w.sl.length+S.ac->T.w.lg.length+T.ac<=S.w.lg.length+S.ac->(Cd S.w->Cd T.w)->200*gF T.w+T.ac<=200*gF R.w+R.ac->T.aI.size<=70000->T.aa=S.aa->Stp R (eN n T):=λn T=>by grind[eN,fA]
 split
 .exact D 0 _ W W W W (DO _) K2 (DO _) (DO _) id Q (In _) W
 generalize c:({S with aI:=⟨#[]⟩}:RS)=S2;have m:S2.w=S.w:=by rw[<-c]
 have e2:S2.ac=S.ac:=by rw[<-c]
 have e3:S2.depth=R.depth:=by rw[<-c];exact Bp
 have r:=TJ C S;unfold D3;let⟨L,X,E⟩:=Iq J Z v S2;split;case isFalse=>subst c;exact D 0 _ W W W W (DO _) (by show 50*S.w.pu.length+S.ac<=_;omega) (DO _) (DO _) id Q (In _) W
 generalize l:uT J Z v q (kB C S) S2 (mB (ag Z S2.w).2 (ag Z S2.w).1).ae (ow J Z v S2).2=G;have Y:G.ac=kB C S:=by rw[<-l];rfl
 have g2:G.w=(ow J Z v S2).2:=by rw[<-l];rfl
 have z:G.aa.size<=70000:=by rw[<-l];exact In _
 have I:=x G;have k:=I.ac;have p2:=I.pu;have U:=I.sl;have p4:=I.lg;rw[g2,Y]at p2 U p4;rw[Y]at k;rw[L.sl]at U;rw[L.lg]at p4;rw[m]at X E U p4;have K:=I.ct;rw[g2,Y]at K;have p7:200*gF (run G).w+(S.ac-kB C S+(run G).ac)<=200*gF R.w+R.ac:=by
  rw[u]at E;by_cases y:v%M=0
  .rw[At y]at E H;omega
  rw[iF y]at E H;omega
 unfold FR;split
 .subst c;exact D 0 _ W W W W (by show S.ac-_<=_;omega) (by show 50*S.w.pu.length+(S.ac-_)<=_;omega) (by show 100*S.w.sl.length+(S.ac-_)<=_;omega) (by show S.w.lg.length+(S.ac-_)<=_;omega) id (by show 200*gF S.w+(S.ac-_)<=_;omega) (In _) W
 split
 .subst c;exact D _ _ W W W W (by show S.ac-kB C S+(run G).ac<=_;omega) (by show 50*(run G).w.pu.length+(S.ac-kB C S+(run G).ac)<=_;omega) (by show 100*(run G).w.sl.length+(S.ac-kB C S+(run G).ac)<=_;omega) (by show(run G).w.lg.length+(S.ac-kB C S+(run G).ac)<=_;omega) (λh=>I.bp (by rw[g2];exact L.bp (by rw[m];exact h))) p7 (I.aa z) W
 subst c;exact D _ _ W W W W (by show S.ac-kB C S+(run G).ac<=_;omega) (by show 50*S.w.pu.length+(S.ac-kB C S+(run G).ac)<=_;omega) (by show 100*S.w.sl.length+(S.ac-kB C S+(run G).ac)<=_;omega) (by show S.w.lg.length+(S.ac-kB C S+(run G).ac)<=_;omega) id (by show 200*gF S.w+(S.ac-kB C S+(run G).ac)<=_;omega) (I.aa z) W
def VR(h:jj wk J F T=some (T',F')):T'=T\/∃D Z v data G,Fx F G/\G.ac<=F.ac/\data.size<=65536/\jV G T v=true/\(F.ro=true->v%M=0)/\T'=(wk (eu J D Z v data G T) T v G.ak Z).2:=by
 unfold jj at h;let⟨f,h⟩:=eS h;let⟨g,h⟩:=eS h;let⟨r3,h⟩:=eS h;let⟨V,h⟩:=eS h;let⟨Y,h⟩:=eS h;let⟨U,h⟩:=eS h;let⟨X,h⟩:=eS h;have j:P5 F (eb<|eb<|oK J F):=((eQ F).next f).trans<|((eQ _).next g).trans<|((I7 J).next r3).trans<|((eQ _).next V).trans<|((eQ _).next Y).trans<|((eQ _).next U).trans<|(eQ _).next X;generalize eb (eb<|oK J F)=g at*;unfold CP at h;cases f:pd (dV<|eZ J<|eb F) g with
 |none=>rw[f]at h;cases h
 |some y=>
  let⟨u,F8⟩:=y;rw[f]at h;have l:F.ro=true->dV (eZ J<|eb F)%M=0:=λP=>by
   unfold pd at f;split at f
   .assumption
   rw[At<|j.fx.ro.trans P]at f;cases f
  have L:P5 F F8:=by
   refine j.trans ?_;unfold pd at f;split at f
   .exact PF5.ak g () _ _ f
   split at f
   .cases f
   exact AJ g _ _ f
  dsimp only at h;unfold mF at h;split at h
  .cases h
  rename_i a b E R;split at h
  .cases h
  rename_i c d F10 Q;have H:P5 F F10:=L.trans<|(iH _ _ _ _ R).trans<|iH _ _ _ _ Q;have O:(dI<|dM E.mem a b).size<=65536:=By (mQ)<|ux R;have C:=H.fx;unfold um at h;split at h
  .rename_i I;refine A4 ⟨eP F,eV F,dV<|eZ J<|eb F,dI<|dM E.mem a b,{F10 with ret:=⟨#[]⟩},⟨C.ae,C.data,C.depth,C.ak,C.ax,C.value,C.ro⟩,H.bB.1,O,I,l,?_⟩;match ji {({F10 with ret:=⟨#[]⟩}:Fz)with ac:=F10.ac-eA {F10 with ret:=⟨#[]⟩} (eP F)} (wk (eu J (eP F) (eV F) (dV<|eZ J<|eb F) (dI<|dM E.mem a b) {F10 with ret:=⟨#[]⟩} T) T (dV<|eZ J<|eb F) F10.ak<|eV F).1.st (wk (eu J (eP F) (eV F) (dV<|eZ J<|eb F) (dI<|dM E.mem a b) {F10 with ret:=⟨#[]⟩} T) T (dV<|eZ J<|eb F) F10.ak<|eV F).1.ac (wk (eu J (eP F) (eV F) (dV<|eZ J<|eb F) (dI<|dM E.mem a b) {F10 with ret:=⟨#[]⟩} T) T (dV<|eZ J<|eb F) F10.ak<|eV F).1.aa c d,h with
   |none,h=>cases h
   |some y,h=>exact((Xi<|hV h).1).symm
  refine LZ ?_;match dB 0 {F10 with ret:=⟨#[]⟩},h with
  |none,h=>cases h
  |some y,h=>exact((Xi<|hV h).1).symm
def Rd(h:mh wk F T=some (F',T')):T'=T\/(F.ro=false/\((∃l c,(l=1\/l=2)/\(l=1->kv F=85)/\T'=iZ T l F.ak (eP<|eG F c) (eV<|eG F c))\/∃L,T'={T with ay:=T.ay++[L]}/\L.aM.length<=4))\/∃D Z v data G,Fx F G/\G.ac+100<=F.ac/\data.size<=65536/\jV G T v=true/\(F.ro=true->v%M=0)/\T'=(wk (eu (kv F) D Z v data G T) T v G.ak Z).2:=by
 unfold mh at h;cases q:eF (kv F)with
 |none=>rw[q]at h;cases h
 |some c=>
  rw[q]at h;dsimp only at h;split at h
  .cases h
  rename_i V;have V:c<=F.ac:=wq
  unfold vW at h;have H:∀l,(l=1\/l=2)->(l=1->kv F=85)->iP l (eG F c) T=some (F',T')->(F.ro=false/\((∃l c,(l=1\/l=2)/\(l=1->kv F=85)/\T'=iZ T l F.ak (eP<|eG F c) (eV<|eG F c))\/∃L,T'={T with ay:=T.ay++[L]}/\L.aM.length<=4)):=by
   intro l Q R h;unfold iP at h;split at h
   .cases h
   rename_i C;have C:¬F.ro=true:=C;have C:F.ro=false:=by simpa using C
   refine⟨C,LZ ⟨l,c,Q,R,?_⟩⟩;match dX (db<|eG F c) (dX (db<|A1<|db<|eG F c)<|some ((),eb<|eG F c)),h with
   |none,h=>cases h
   |some y,h=>exact((Xi<|hV h).2).symm
  split at h
  .exact LZ (fI h).2
  split at h
  .exact LZ (fI h).2
  split at h
  .exact LZ (fI h).2
  split at h
  .unfold xz at h;split at h
   .rename_i P;exact A4<|LZ<|H 1 (LZ W) (λ_=>P) h
   split at h
   .exact A4 (LZ<|H 2 (A4 W) (λe=>by cases e) h)
   exact LZ (fI h).2
  split at h
  .exact LZ (fI h).2
  split at h
  .exact LZ (fI h).2
  split at h
  .exact LZ (fI h).2
  split at h
  .rename_i U;have h:=tP h;unfold rJ at h;split at h
   .cases h
   rename_i C;have C:¬F.ro=true:=C;have C:F.ro=false:=by simpa using C
   refine A4<|LZ ⟨C,A4 ?_⟩;let⟨u,h⟩:=eS h;let⟨z,h⟩:=eS h;have l:P5 (eG F c) (eb<|eG F c):=((eQ _).next u).trans<|(eQ _).next z;unfold xL at h;split at h
   .cases h
   rename_i m p E;unfold yP at h;split at h
   .cases h
   rename_i a b o I;split at h
   .cases h
   obtain⟨rfl,rfl⟩:=Xi<|hV h;have f:=l.trans<|wH _ _ _ _ E;exact⟨_,W,by show m.length<=4;rw[lj E];omega⟩
  split at h
  .rename_i O;have X:c=100:=by rcases O with e|e|e<;>(rw[e]at q;exact(hV q).symm)
   rcases VR (tP h)with e|⟨D,Z,v,data,G,E,I,g,Y,d,j⟩
   .exact LZ e
   have I:G.ac<=F.ac-c:=I;exact A4<|A4 ⟨D,Z,v,data,G,⟨E.ae,E.data,E.depth,E.ak,E.ax,E.value,E.ro⟩,wq,g,Y,d,j⟩
  exact LZ (fI h).2
def ks(a:Nat)(P:RW):Pur:=((P.pu.find? λp=>gN p.aj a).getD ⟨a,0,⟨#[]⟩⟩)
theorem xP(h:a%M=b%M):gN c a=gN c b:=by grind[gN]
theorem iw:gN a b=true↔a%M=b%M:=by grind[gN]
theorem AU{p:Pur->Bool}:∀(l:List Pur)(d:Pur),(∃i,l.findIdx? p=some i/\i<l.length/\l.find? p=some (l.getD i d))\/(l.findIdx? p=none/\l.find? p=none)
 |[],_=>A4 ⟨W,W⟩
 |q::l,d=>by
  rw[Z1,X0];cases C:p q with
  |true=>simp
  |false=>
   rcases AU (p:=p) l d with⟨i,C,D,E⟩|⟨C,D⟩
   .grind
   grind
structure RelW(T:TS)(P:RW):Prop where
 ai:∀a,(T.aw a).ai=(ks a P).mo
 ae:∀a,(T.aw a).ae=(ks a P).ae
 aK:∀a k,(T.aw a).ar k=fu false a k P
 aP:∀a k,T.aP a k=fu true a k P
 lg:T.ay=P.lg
 lt:∀a,(T.aw a).ai<M
def qG(a b:Nat)(P:RW):(ks b (ag a P).2).mo=(ks b P).mo/\(ks b (ag a P).2).ae=(ks b P).ae:=by grind[ag,CE,gN,ks]
def mi(a:Nat)(P:RW):(mB (ag a P).2 (ag a P).1)=ks a P:=by
 unfold ag CE mB ks;rcases AU (p:=λp=>gN p.aj a) P.pu ⟨0,0,⟨#[]⟩⟩with⟨i,C,D,E⟩|⟨C,D⟩
 .grind
 grind
def RelW.bX(h:RelW T P)(a:Nat):RelW T (ag a P).2:=by
 let⟨C,s2⟩:=kK a P;refine⟨λb=>by rw[(qG a b P).1];exact h.ai b,λb=>by rw[(qG a b P).2];exact h.ae b,λb k=>?_,λb k=>?_,by rw[s2];exact h.lg,h.lt⟩
 .unfold fu;rw[C];exact h.aK b k
 unfold fu;rw[C];exact h.aP b k
theorem Ar{p:Pur->Bool}{m:Nat}(E:∀(q:Pur),p {q with mo:=m}=p q):∀(l:List Pur)(i:Nat)(d:Pur),l.findIdx? p=some i->(l.set i {l.getD i d with mo:=m}).find? p=(l.find? p).map λq=>{q with mo:=m}
 |[],i,_,h=>by cases h
 |q::l,i,d,h=>by
  rw[Z1]at h;cases G:p q with
  |true=>grind
  |false=>
   rw[G]at h;obtain⟨j,C,rfl⟩:∃j,l.findIdx? p=some j/\j+1=i:=Q1
   have D:=Ar E l j d C;grind
theorem yu{p r:Pur->Bool}{m:Nat}(H:∀(q:Pur),r {q with mo:=m}=r q)(E:∀s,p s=true->r s=false):∀(l:List Pur)(i:Nat)(d:Pur),l.findIdx? p=some i->(l.set i {l.getD i d with mo:=m}).find? r=l.find? r
 |[],i,_,h=>by cases h
 |q::l,i,d,h=>by
  rw[Z1]at h;cases G:p q with
  |true=>grind
  |false=>
   rw[G]at h;obtain⟨j,C,rfl⟩:∃j,l.findIdx? p=some j/\j+1=i:=Q1
   have D:=yu H E l j d C;grind
def Ir(a n b:Nat)(P:RW):ks b (gX (ag a P).1 n (ag a P).2)=if a%M=b%M then{ks a P with mo:=n}else ks b (ag a P).2:=by
 have C:CE a (ag a P).2.pu=some (ag a P).1:=by
  unfold ag;cases h:CE a P.pu with
  |some i=>exact h
  |none=>show CE a (P.pu++[_])=_;unfold CE at h⊢;rw[List.findIdx?_append,h];simp[jg,Z1]
 have H:(ag a P).2.pu.find? (λp=>gN p.aj a)=some (ks a P):=by
  rcases AU (p:=λp=>gN p.aj a) (ag a P).2.pu ⟨0,0,⟨#[]⟩⟩with⟨i,D,E,G⟩|⟨D,E⟩
  .rw[G];have:i=(ag a P).1:=by grind[CE]
   rw[this];exact Xl _<|mi a P
  grind[CE]
 show(((ag a P).2.pu.set (ag a P).1 {(ag a P).2.pu.getD (ag a P).1 ⟨0,0,⟨#[]⟩⟩with mo:=n}).find? λp=>gN p.aj b).getD ⟨b,0,⟨#[]⟩⟩=_;by_cases e:a%M=b%M
 .rw[At e,funext λp=>xP e.symm,Ar (λ_=>W) _ _ _ C,H];rfl
 rw[iF e,yu (λ_=>W) (λs D=>?_) _ _ _ C]
 .rfl
 rw[Bool.eq_false_iff];grind[iw]
def RelW.pay(h:RelW T P)(E:fB T)(a n:Nat)(hn:n<M):RelW (iZ T 0 a 0 n) (gX (ag a P).1 n (ag a P).2):=by
 let⟨D,s2⟩:=kK a P;have C:∀m,(iZ T 0 a 0 n).aw m=if m%M=a%M then{T.aw a with ai:=n}else T.aw m:=λm=>W;refine⟨λb=>?_,λb=>?_,λb k=>?_,λb k=>?_,?_,λb=>?_⟩
 .rw[Ir,C];by_cases e:b%M=a%M
  .grind
  rw[iF e,iF<|λh=>e h.symm,(qG a b P).1];exact h.ai b
 .rw[Ir,C];by_cases e:b%M=a%M
  .rw[At e,At e.symm];exact h.ae a
  rw[iF e,iF<|λh=>e h.symm,(qG a b P).2];exact h.ae b
 .rw[C];show _=fu false b k {(ag a P).2 with pu:=_};unfold fu;show _=(match(ag a P).2.sl.find? (ly false b k)with|some s=>s.val|none=>0);rw[D];by_cases e:b%M=a%M
  .rw[At e];show(T.aw a).ar k=_;rw[<-E b a e];exact h.aK b k
  rw[iF e];exact h.aK b k
 .show T.aP b k=_;unfold fu;show _=(match(ag a P).2.sl.find? (ly true b k)with|some s=>s.val|none=>0);rw[D];exact h.aP b k
 .show T.ay=(ag a P).2.lg;rw[s2];exact h.lg
 rw[C];split
 .exact hn
 exact h.lt b
def RelW.move(h:RelW T P)(G:fB T)(fr Z v:Nat):(fP fr Z v P).1=decide (v%M<=(T.aw fr).ai%M)/\((fP fr Z v P).1=true->RelW (fU T v fr Z) (fP fr Z v P).2):=by
 unfold fP;rw[(show(mB (ag fr P).2 (ag fr P).1).mo=(T.aw fr).ai by rw[mi,h.ai])];by_cases E:iX (T.aw fr).ai v=true
 .grind[iX]
 rw[iF E];unfold iX at E;have E:¬((T.aw fr).ai%M<v%M):=λh=>E<|OsQ h;refine⟨(OsQ wq).symm,λ_=>?_⟩;have C:=h.pay G fr (ku ((T.aw fr).ai%M)<|v%M)<|TN;have D:(mB (ag Z<|gX (ag fr P).1 (ku ((T.aw fr).ai%M)<|v%M) (ag fr P).2).2 (ag Z<|gX (ag fr P).1 (ku ((T.aw fr).ai%M)<|v%M) (ag fr P).2).1).mo=((nN T v fr).aw Z).ai:=by rw[mi Z<|gX (ag fr P).1 (ku ((T.aw fr).ai%M)<|v%M) (ag fr P).2];exact(C.ai Z).symm
 rw[D];exact C.pay ((qS G 0 fr 0 _).2) Z _<|Rw
def Dk(C:fB T)(a:Nat)(hn:n=(T.aw a).ai):(iZ T 0 a 0 n).aw=T.aw:=by
 funext m;show(if m%M=a%M then{T.aw a with ai:=n}else T.aw m)=_;by_cases e:m%M=a%M
 .rw[At e,hn,C m a e]
 grind
def RelW.move0(h:RelW T P)(G:fB T)(fr Z v:Nat)(E:v%M=0):RelW (fU T v fr Z) P:=by
 have H:ep 3 ((T.aw fr).ai%M) (v%M) 0=(T.aw fr).ai:=by show ku _ _=_;unfold ku;rw[E,Nat.sub_zero,Nat.add_mod_right,Yu,WZ<|h.lt fr]
 have D:(nN T v fr).aw=T.aw:=Dk G fr H;have H:ep 1 (((nN T v fr).aw Z).ai%M) (v%M) 0=((nN T v fr).aw Z).ai:=by show kQ _ _=_;unfold kQ;rw[E,Ye,Yu,D,WZ<|h.lt Z]
 have C:(fU T v fr Z).aw=T.aw:=(Dk ((qS G 0 fr 0 _).2) Z H).trans D;refine⟨λa=>by rw[C];exact h.ai a,λa=>by rw[C];exact h.ae a,λa k=>by rw[C];exact h.aK a k,h.aP,h.lg,λa=>by rw[C];exact h.lt a⟩
def zq(p:Slt->Bool)(v:Nat)(s0:Slt):List Slt->List Slt
 |[]=>[s0]
 |s::l=>if p s=true then{s with val:=v}::l else s::zq p v s0 l
theorem MG(p:Slt->Bool)(v:Nat)(s0:Slt):∀l:List Slt,(match l.findIdx? p with|some i=>l.set i {l.getD i ⟨0,0,0,false⟩with val:=v}|none=>l++[s0])=zq p v s0 l
 |[]=>rfl
 |s::l=>by
  rw[Z1,zq];cases h:p s with
  |true=>rfl
  |false=>rw[<-MG p v s0 l];grind
theorem Fp{p:Slt->Bool}{v:Nat}{s0:Slt}(C:p s0=true/\s0.val=v)(G:∀(s:Slt),p {s with val:=v}=p s):∀l:List Slt,∃s,(zq p v s0 l).find? p=some s/\s.val=v
 |[]=>⟨s0,by grind[zq],C.2⟩
 |s::l=>by
  rw[zq];by_cases h:p s=true
  .grind
  rw[iF h];let⟨r,E,D⟩:=Fp C G l;grind
theorem zD{p q:Slt->Bool}{v:Nat}{s0:Slt}(C:q s0=false)(E:∀(s:Slt),q {s with val:=v}=q s)(D:∀s,p s=true->q s=false):∀l:List Slt,(zq p v s0 l).find? q=l.find? q
 |[]=>by grind[zq]
 |s::l=>by
  rw[zq];by_cases h:p s=true
  .grind
  rw[iF h,X0,X0,zD C E D l]
def IP(br:Bool)(a k v:Nat)(P:RW):mT br a k v P={P with sl:=zq (ly br a k) v ⟨a,k,v,br⟩ P.sl}:=by grind[mT,MG,ly]
theorem tw(C:a%M=b%M)(D:k%M=j%M):ly br a k=ly br b j:=by grind[ly,xP]
def fl(br c:Bool)(a k v b j:Nat)(P:RW):fu c b j (mT br a k v P)=if c=br/\b%M=a%M/\j%M=k%M then v else fu c b j P:=by
 rw[IP];unfold fu;dsimp only;by_cases h:c=br/\b%M=a%M/\j%M=k%M
 .rw[At h];obtain⟨rfl,D,C⟩:=h;rw[tw D C];let⟨s,E,J⟩:=Fp (p:=ly c a k) (v:=v) (s0:=⟨a,k,v,c⟩) ⟨by simp[ly,jg],W⟩ (λ_=>W) P.sl;grind
 rw[iF h];have L:∀s,ly br a k s=true->ly c b j s=false:=λs L=>by unfold ly at*;simp at L;let⟨D,C,E⟩:=L;rw[Bool.eq_false_iff];intro G;simp at G;let⟨H,I,n3⟩:=G;exact h ⟨H.symm.trans D,(iw.1 I).symm.trans<|iw.1 C,(iw.1 n3).symm.trans<|iw.1 E⟩
 grind[zD,ly,jg]
def qt(a k v b:Nat)(P:RW):ks b (mT br a k v P)=ks b P/\(mT br a k v P).lg=P.lg:=by rw[IP];exact⟨W,W⟩
structure CongX(T:TS):Prop where
 aw:fB T
 aK:∀a k j,k%M=j%M->(T.aw a).ar k=(T.aw a).ar j
 aP:∀a b k j,a%M=b%M->k%M=j%M->T.aP a k=T.aP b j
def RelW.aO(h:RelW T P)(E:fB T):CongX T:=⟨E,λa k j e=>by rw[h.aK,h.aK];grind[fu,tw],λa b k j C D=>by rw[h.aP,h.aP];grind[fu,tw]⟩
theorem RelW.put(h:RelW T P)(E:fB T)(br:Bool)(a k v:Nat):RelW (iZ T (if br=true then 2 else 1) a k v) (mT br a k v P):=by
 cases br with
 |true=>
  show RelW (iZ T 2 a k v) _;refine⟨λb=>by rw[(qt a k v b P).1];exact h.ai b,λb=>by rw[(qt a k v b P).1];exact h.ae b,λb j=>?_,λb j=>?_,by rw[(qt a k v 0 P).2];exact h.lg,h.lt⟩
  .rw[fl,iF<|λh=>by cases h.1];exact h.aK b j
  rw[fl];show(if b%M=a%M/\j%M=k%M then v else T.aP b j)=_;by_cases e:b%M=a%M/\j%M=k%M
  .grind
  rw[iF e,iF<|λh=>e h.2];exact h.aP b j
 |false=>
  have C:∀m,(iZ T 1 a k v).aw m=if m%M=a%M then{T.aw a with ar:=lE (T.aw a).ar k v}else T.aw m:=λm=>W;show RelW (iZ T 1 a k v) _;refine⟨λb=>?_,λb=>?_,λb j=>?_,λb j=>?_,by rw[(qt a k v 0 P).2];exact h.lg,λb=>?_⟩
  .rw[(qt a k v b P).1,C];by_cases e:b%M=a%M
   .rw[At e,<-h.ai b,E b a e]
   rw[iF e];exact h.ai b
  .rw[(qt a k v b P).1,C];by_cases e:b%M=a%M
   .rw[At e,<-h.ae b,E b a e]
   rw[iF e];exact h.ae b
  .rw[fl,C];by_cases e:b%M=a%M
   .rw[At e];show(if j%M=k%M then v else(T.aw a).ar j)=_;by_cases D:j%M=k%M
    .grind
    rw[iF D,iF<|λh=>D h.2.2,<-E b a e];exact h.aK b j
   rw[iF e,iF<|λh=>e h.2.1];exact h.aK b j
  .rw[fl,iF<|λh=>by cases h.1];exact h.aP b j
  rw[C];by_cases e:b%M=a%M
  .rw[At e];exact h.lt a
  rw[iF e];exact h.lt b
def Un(T T':TS):=∃l l',T'.ch=T.ch++l/\T'.ay=T.ay++l'/\(jo l T').aw=T.aw/\(jo l T').aP=T.aP
theorem Un.refl(T:TS):Un T T:=⟨[],[],K2,K2,W,W⟩
def Qa{C V:TS}(E:C.aw=V.aw)(D:C.aP=V.aP)(k a N v:Nat):(jK C k a N v).aw=(jK V k a N v).aw/\(jK C k a N v).aP=(jK V k a N v).aP:=by grind[jK]
theorem uL:∀(l:List Chg){C V:TS},C.aw=V.aw->C.aP=V.aP->(jo l C).aw=(jo l V).aw/\(jo l C).aP=(jo l V).aP
 |[],_,_,h1,h2=>⟨h1,h2⟩
 |c::r,_,_,h1,h2=>Qa (uL r h1 h2).1 (uL r h1 h2).2 c.kind c.aj c.key c.bA
theorem wT:∀(l C:List Chg)(T:TS),jo (l++C) T=jo l (jo C T)
 |[],_,_=>rfl
 |c::r,C,T=>Xl (λD=>jK D c.kind c.aj c.key c.bA)<|wT r C T
theorem Un.trans{C V:TS}(h:Un T C)(k:Un C V):Un T V:=by let⟨l,m,O,J,Q,L⟩:=h;let⟨E,G,H,I,D,k4⟩:=k;have R:=uL l D k4;exact⟨l++E,m++G,K9,K9,by grind[wT],by grind[wT]⟩
theorem Un.set(E:CongX T)(k a N v:Nat):Un T (iZ T k a N v):=by
 refine⟨_,[],(uh k a v).1,by rw[YQ];exact(tq T k a _ v).2,?_,?_⟩
 .funext m;show(jK (iZ T k a N v) k a N<|xX T k a N).aw m=_;unfold iZ jK xX;by_cases k0:k=0
  .simp only[At k0];show fQ (fQ T.aw a _) a _ m=_;by_cases e:m%M=a%M
   .rw[jC e,jC W,E.aw m a e]
   grind[iV]
  simp only[iF k0];by_cases C:k=1
  .simp only[At C];show fQ (fQ T.aw a _) a _ m=_;by_cases e:m%M=a%M
   .rw[jC e,jC W,E.aw m a e];show({T.aw a with ar:=lE (lE (T.aw a).ar N v) N<|(T.aw a).ar N}:Acc)=T.aw a;have:lE (lE (T.aw a).ar N v) N ((T.aw a).ar N)=(T.aw a).ar:=by
     funext q;unfold lE;by_cases D:q%M=N%M
     .rw[At D];exact E.aK a _ q D.symm
     grind
    rw[this]
   grind[iV]
  grind
 funext b q;show(jK (iZ T k a N v) k a N<|xX T k a N).aP b q=_;unfold iZ jK xX;by_cases k0:k=0
 .grind
 simp only[iF k0];by_cases C:k=1
 .grind
 simp only[iF C];by_cases e:b%M=a%M/\q%M=N%M
 .rw[At e];exact E.aP _ _ _ _ e.1.symm e.2.symm
 rw[iF e,iF e]
def Un.aI(h:Un T T'):CY T' T.ch.length T.ay.length=T:=by let⟨l,m,E,C,G,D⟩:=h;simp_all[CY,jo]
def NG:prog.cellsOf 5=1:=N0
def Su:(prog.info? 5).map (·.size)=some 1:=N0
def ty_u8s:prog.underlying 26=some (.slice 5):=N0
def ty_pu8:prog.underlying 253=some (.pointer 5):=N0
def Dx(s:BA)(J:s.size≠0)(V:s.size<=100000)(w:WD):cP 146 #[.string s] w (rT (.string s) w):=by
 have O:=oE s.size wq;have R:(madeCells #[iB 0] s.size).size=s.size:=by simp[size_madeCells]
 generalize madeCells #[iB 0] s.size=V at*;have D:=Lib.run_copy_row_string (P:=prog) (w.alloc<|.cells V 5) 26 9 3 5 w.heap.size 0 s.size s.size s V 5 ty_u8s Su (qae w _) (DO _) wq;have C:(V.toList.take 0++Lib.byteCells s.data.toList++V.toList.drop (0+s.size)).toArray=(Lib.byteCells s.data.toList).toArray:=by rw[Y3,XG,Y0 (by rw[ZI];omega),YQ]
 rw[C]at D;have I:(Lib.byteCells s.data.toList).toArray.size=s.size:=by rw[YU,Lib.byteCells_length,<-Lib.size_eq]
 have E:=qab (w.alloc<|.cells V 5) w.heap.size V (Lib.byteCells s.data.toList).toArray 5 (0,0)<|qae w _;have G:=Lib.run_unsafeString_row (P:=prog) ((w.alloc<|.cells V 5).setRow w.heap.size (Lib.byteCells s.data.toList).toArray) 253 3 9 5 ty_pu8 NG w.heap.size (Lib.byteCells s.data.toList).toArray.size (by unfold World.shape?;rw[E]) s.data.toList (λe=>J (by rw[Lib.size_eq,e];rfl)) (by rw[<-Lib.size_eq];omega) (by rw[<-Lib.size_eq];omega)
  (λj x Q=>Lib.cells_of_row E (Lib.byteCells s.data.toList).toArray.size j _ (by rw[XA K2];simp[Lib.byteCells,Q]))
 rw[<-Lib.size_eq]at G;have H:bW w ((w.alloc<|.cells V 5).setRow w.heap.size (Lib.byteCells s.data.toList).toArray):=(ai (dO _ w) _).trans ⟨W,W,W,K2,λk V=>setRow_other _ _ _ _ wq⟩;have L:=cV<|Lib.below_freeze H (p:=⟨w.heap.size,0,none⟩) (DO _) s.size;have U:((s.size:Int)==0)=false:=by rw[Xb];omega
 clear H E C;generalize(Lib.byteCells s.data.toList).toArray=Yq9 at*;go_enter func146,ntmps146;go_wp2;go_ret;exact⟨W,L⟩
def J2{s:BA}(H:s.size<=100000):cP 82 #[.string s] w (rT (.string s) w):=by
 have D:Hd (cP 146 #[.string s] w<|rT (.string s) w):=by
  by_cases C:s.size=0
  .obtain rfl:s=⟨#[]⟩:=ByteArray.ext<|Array.eq_empty_of_size_eq_zero C;show Calls _ _ _ _ _;go_enter func146,ntmps146;go_wp2;go_ret;exact⟨W,dO _ _⟩
  exact Dx s C H w
 go_enter func82,ntmps82;go_wp2_with fail
 refine D.mono ?_;rintro e G⟨rfl,H⟩;have E:=cV H;clear H D;go_wp2;go_ret;exact⟨W,E⟩
def noA:Nat->Acc:=λ_=>⟨0,⟨#[]⟩,λ_=>0⟩
def A7(m:Nat):(noA m).no:=⟨W,W,λ_=>W⟩
def J1(w:WD):Accs w.heap.size 0 noA (λ_=>.map none) (w.alloc<|.map #[] 0):=⟨⟨_,AM.bS w,λm=>⟨λ_=>W,λh=>absurd (A7 m) h⟩⟩,λm h=>absurd (A7 m) h,λm C b h=>absurd (A7 m) h,λm C e=>⟨W,W⟩⟩
def pe(l:List<|Nat×Nat):Vq:=l.foldl (λs p=>lE s p.1 p.2)<|λ_=>0
def ri(a:AcE):Acc:=⟨a.ai,a.ae,pe a.ar⟩
def jO(l:List AcE):Nat->Acc:=l.foldl (λA a=>fQ A a.aj<|ri a) noA
def FQ{l:List<|Nat×Nat}(h:j<l.length):pe (l.take<|j+1)=lE (pe<|l.take j) l[j].1 l[j].2:=by rw[XR h];unfold pe;rw[List.foldl_append];rfl
def EB{l:List AcE}(h:j<l.length):jO (l.take<|j+1)=fQ (jO<|l.take j) l[j].aj (ri l[j]):=by rw[XR h];unfold jO;rw[List.foldl_append];rfl
def PhK(R:X4)(w:WD):Nat->X4
 |0,x=>bW w x
 |_+1,x=>R x
def wt{R:X4}(h:PhK R w k x)(C:k<=0):bW w x:=by
 cases(wq:k=0)
 exact h
def Sc{R:X4}(C:∀x x',R x->bW x x'->R x')(k:Nat)(x x':WD)(h:PhK R w k x)(D:bW x x'):PhK R w k x':=by
 match k,h with
 |0,h=>exact(h).trans<|D.mono (h).size
 |_+1,h=>exact C x x' h D
def vD(ab n:Nat)(A:Nat->Acc)(w y:WD):=(∃sb,Accs ab n A sb y/\∀k,fZ ab A sb k->ab<=k)/\bW w y
def Oi{D:Nat}{C:WD}(V:ab=w.heap.size)(O:Accs ab n A sb C)(I:∀k,fZ ab A sb k->ab<=k/\k<D)(H:bW w C)(a:AcE)(Q:AM C D n<|gh<|pe a.ar)(X:ab<D)(hn:n<=100)(hz:Zr w)(U:bW C x):cP 81 #[.map<|some ab,wv a.aj,iu a.ai a.ae<|.map<|some D] x λe w'=>e=AG/\vD ab (n+1) (fQ A a.aj<|ri a) w w':=by
 have G:=H.trans<|U.mono H.size;have R:=Kb.h (S:=[]) U;refine(BT (ri a) _ x ((O.kb R K2).x _) (A4 ⟨_,W,wq,Q.kb R K2⟩) (λm b _ P J E=>?_) wq<|hz.below G).mono ?_
 .injection E with E;injection E with E;have:=(I b<|A4 ⟨m,P,J⟩).2;omega
 rintro e y⟨P,J,E⟩;refine⟨P,⟨_,J,λk Y=>?_⟩,?_⟩
 .rcases Y with e|⟨m,q1,q2⟩
  .omega
  unfold fQ at q1 q2;split at q2
  .grind
  rename_i L;rw[iF L]at q1;exact(I k<|A4 ⟨m,q1,q2⟩).1
 exact((Kb.h G).trans E<|λi Y=>A4 K9).bK
def O9(l:List AcE)(w:WD)(h:AcIn w v l)(hz:Zr w)(hl:l.length<=8)(hr:∀a∈l,a.ae.size<=1000/\a.ar.length<=20/\∀p∈a.ar,p.2%M≠0):Calls prog 56 #[v] w λe w'=>e=.returned (.map<|some w.heap.size)/\∃n,n<=40/\vD w.heap.size n (jO l) w w':=by
 obtain⟨ad,cp,rfl,h2⟩:=h;obtain⟨L,HL⟩:=dP l.length;rw[<-HL.aa];have hl8:L<=8:=by rw[HL.aa];exact hl
 have hmm:=@run_makeMap prog;have HS:=cV h2;have HZ:=cV hz;have HR:=cV hr;clear h2 hz hr hl;go_enter func56,ntmps56;go_wp2
 go_loopw[12] (λa8 wr=>∃i:Nat,i<=L/\a8=.int .i64 (i:Int)/\Hd (vD w.heap.size (20+i) (jO<|l.take i) w wr)/\Hd (w.heap.size<wr.heap.size)) (λa8 _=>L-nI a8)
 case atStart=>exact⟨0,In _,W,⟨⟨_,(J1 w).mono wq,λk r=>by
  rcases r with e|⟨m,f,_⟩
  .omega
  .exact absurd (A7 m) f⟩,ai (dO _ w) _⟩,by show _<_;simp⟩
 case round=>
  obtain⟨i,hi,rfl,HK,b9⟩:=hrel;obtain⟨E,rfl⟩:=hJ wr;by_cases a5:i<L
  .have hd2:=dN i L;obtain⟨g,o,rfl,a4,d⟩:=HS.aa.resolve_left (λe=>by rw[HL.aa,e]at a5;exact absurd a5 K2);have N:i<l.length:=by rw[<-HL.aa];exact a5
   obtain⟨a,HA⟩:∃a,Hd (a=l[i]):=⟨_,cV W⟩;obtain⟨sl,hc,d3⟩:=d i l[i]<|iN N;rw[<-HA.aa]at hc d3;obtain⟨I,J,rfl,a3⟩:=d3;have z:=cV<|HR.aa _<|Ya N;rw[<-HA.aa]at z;have d0:=cV<|EB N;rw[<-HA.aa]at d0;obtain⟨a9,C,D,u⟩:=a;obtain⟨n2,Y⟩:=dP u.length;dsimp only at hc a3 z d0;rw[<-Y.aa]at hc;have hn20:n2<=20:=by rw[Y.aa];exact z.aa.2.1
   have cc:∀j,j<10->E.cell? ⟨g,o+i*10+j,none⟩=some ((jL a9 C D<|.slice I n2 J)[j]!):=λj hj=>(HK.aa.2.cell a4).trans<|hc j hj
   have ca:=Ce cc;simp only[A3,A0,jL,Nat.reduceAdd]at ca;have HGL:=cV a4;have HSS:=cV a3;have HIL:=cV N;clear cc hc d a4 a3;go_wp2;have K:Below _ E ((E.alloc<|.cells #[.int .u64<|cX a9 0,.int .u64<|cX a9 1,.int .u64<|cX a9 2,.int .u64<|cX a9 3,.int .u64<|cX C 0,.int .u64<|cX C 1,.int .u64<|cX C 2,.int .u64<|cX C 3,.string D,.slice I n2 J] 34).alloc<|.map #[] 0):=ai (ai (dO _ _) _) _;obtain⟨w4,V⟩:=hJ<|(E.alloc<|.cells #[.int .u64<|cX a9 0,.int .u64<|cX a9 1,.int .u64<|cX a9 2,.int .u64<|cX a9 3,.int .u64<|cX C 0,.int .u64<|cX C 1,.int .u64<|cX C 2,.int .u64<|cX C 3,.string D,.slice I n2 J] 34).alloc<|.map #[] 0
   have a2:AM w4 (E.heap.size+1) 0 (gh<|pe<|u.take 0):=by
    have f:=AM.bS<|E.alloc<|.cells #[.int .u64<|cX a9 0,.int .u64<|cX a9 1,.int .u64<|cX a9 2,.int .u64<|cX a9 3,.int .u64<|cX C 0,.int .u64<|cX C 1,.int .u64<|cX C 2,.int .u64<|cX C 3,.string D,.slice I n2 J] 34;rw[show(E.alloc<|.cells #[.int .u64<|cX a9 0,.int .u64<|cX a9 1,.int .u64<|cX a9 2,.int .u64<|cX a9 3,.int .u64<|cX C 0,.int .u64<|cX C 1,.int .u64<|cX C 2,.int .u64<|cX C 3,.string D,.slice I n2 J] 34).heap.size=E.heap.size+1 by simp]at f;rw[V];exact f.congr<|λm=>W
   have d8:w4.heap.size=E.heap.size+1+1:=Q1
   have e1:∀j,j<10->w4.cell? ⟨E.heap.size,j,_⟩=some ((#[.int .u64<|cX a9 0,.int .u64<|cX a9 1,.int .u64<|cX a9 2,.int .u64<|cX a9 3,.int .u64<|cX C 0,.int .u64<|cX C 1,.int .u64<|cX C 2,.int .u64<|cX C 3,.string D,.slice I n2 J]:Ys)[j]!):=λj hj=>by
    have hB5:Below (E.alloc<|.cells #[.int .u64<|cX a9 0,.int .u64<|cX a9 1,.int .u64<|cX a9 2,.int .u64<|cX a9 3,.int .u64<|cX C 0,.int .u64<|cX C 1,.int .u64<|cX C 2,.int .u64<|cX C 3,.string D,.slice I n2 J] 34).heap.size (E.alloc<|.cells #[.int .u64<|cX a9 0,.int .u64<|cX a9 1,.int .u64<|cX a9 2,.int .u64<|cX a9 3,.int .u64<|cX C 0,.int .u64<|cX C 1,.int .u64<|cX C 2,.int .u64<|cX C 3,.string D,.slice I n2 J] 34) w4:=by rw[V];exact ai (dO _ _) _
    refine(hB5.cell K2).trans ?_;have f:=fJ E #[.int .u64<|cX a9 0,.int .u64<|cX a9 1,.int .u64<|cX a9 2,.int .u64<|cX a9 3,.int .u64<|cX C 0,.int .u64<|cX C 1,.int .u64<|cX C 2,.int .u64<|cX C 3,.string D,.slice I n2 J] 34 j;rw[show(⟨E.heap.size,0,none⟩:Addr).add j=⟨E.heap.size,j,none⟩ by simp[Addr.add,qag]]at f;refine f _ ?_;rcases(show j=0\/j=1\/j=2\/j=3\/j=4\/j=5\/j=6\/j=7\/j=8\/j=9 by omega)with rfl|rfl|rfl|rfl|rfl|rfl|rfl|rfl|rfl|rfl<;>rfl
   rw[<-V]at K;have HB4:=cV K;have d6:=cV a2;have d5:=cV d8;have HC4:=cV e1;have a7:=cV<|HK.aa.2.trans<|K.mono HK.aa.2.size;clear K a2 d8 e1;rw[<-V];clear V ca
   go_loopw[20] (λc9 wr=>∃j:Nat,j<=n2/\c9=.int .i64 (j:Int)/\Hd (AM wr (E.heap.size+1) j<|gh<|pe<|u.take j)/\Hd (Kb [E.heap.size+1] w4 wr)) (λc9 _=>n2-nI c9)
   case atStart=>exact⟨0,In _,W,d6.aa,Kb.h<|dO _ _⟩
   case round=>
    obtain⟨j,hj,rfl,HM,R⟩:=hrel;by_cases c8:j<n2
    .have hd3:=dN j n2;obtain⟨g2,o2,rfl,Z,Q⟩:=HSS.aa.resolve_left (λe=>by rw[Y.aa,e]at c8;exact absurd c8 K2);have d1:j<u.length:=by rw[<-Y.aa];exact c8
     obtain⟨U,d7⟩:∃U:Nat,Hd (U=u[j].1):=⟨u[j].1,cV W⟩;obtain⟨v9,a6⟩:∃v9:Nat,Hd (v9=u[j].2):=⟨u[j].2,cV W⟩;have ul:=Q j u[j]<|iN d1;rw[<-d7.aa,<-a6.aa]at ul;have d9:=Xg Z a7.aa.size;have a0:g2∉[E.heap.size+1]:=λhm=>by have:=BY.1 hm;have:=b9.aa;omega
     have dd:∀q,q<8->wr.cell? ⟨g2,o2+j*8+q,none⟩=some _:=λq hq=>(Xc (w:=w4)<|R.aa.block g2 d9 a0).trans<|(a7.aa.cell Z).trans<|ul q hq
     have da:=Ce dd;simp only[A3,A0,eU,XN,XG,Nat.reduceAdd]at da;have HVZ:Hd (v9%M≠0):=by show v9%M≠0;rw[a6.aa];exact z.aa.2.2 u[j]<|Ya _
     have d4:=cV<|FQ d1;rw[<-d7.aa,<-a6.aa]at d4;have HMA:Hd (AM (wr.alloc<|.cells #[.int .u64<|cX U 0,.int .u64<|cX U 1,.int .u64<|cX U 2,.int .u64<|cX U 3,.int .u64<|cX v9 0,.int .u64<|cX v9 1,.int .u64<|cX v9 2,.int .u64<|cX v9 3] 54) _ j<|gh<|pe<|u.take j):=HM.aa.kb (Kb.h (S:=[])<|ai (dO _ _) _) K2;have HML:Hd (j<maxLen):=by show j<maxLen;unfold maxLen;omega
     have HKA:Hd (Kb _ w4<|wr.alloc<|.cells #[.int .u64<|cX U 0,.int .u64<|cX U 1,.int .u64<|cX U 2,.int .u64<|cX U 3,.int .u64<|cX v9 0,.int .u64<|cX v9 1,.int .u64<|cX v9 2,.int .u64<|cX v9 3] 54):=R.aa.trans (Kb.h (S:=[])<|ai (dO _ _) _) K2;clear dd ul Q Z d9 a0;go_wp2_with(first|(at_mapUpdate;refine gH rfl 93 rfl oq _ j _ rfl HMA.aa HML.aa U (wv v9) rfl rfl ?_;intro w1 hA hT)|go_in)
     have HA1:Hd (AM w1 (E.heap.size+1) (j+1)<|gh<|pe<|u.take<|j+1):=by
      refine hA.congr λm=>?_
      rw[d4.aa];unfold gh lE;by_cases e:m%M=U%M
      .rw[At e,At e,iF HVZ.aa]
      .rw[iF e,iF e]
     have HT1:Hd (Kb [E.heap.size+1] w4 w1):=HKA.aa.trans (jx hT)<|λi hi=>LZ hi;clear hA hT da;go_wp2;exact⟨⟨j+1,wq,K2,HA1.aa,HT1.aa⟩,by simp[nI];omega⟩
    .have hd3:=dG j n2;obtain rfl:j=n2:=wq
     obtain⟨⟨sb,c0,e2⟩,hbw⟩:=HK.aa;have T:∀k,fZ _ _ sb k->k<E.heap.size:=λk r=>c0.lt r
     have G:Hd (E.heap.size<wr.heap.size):=by show E.heap.size<wr.heap.size;have:=R.aa.size;have:=d5.aa;omega
     have b:∀q,q<10->wr.cell? _=_:=λq hq=>(Xc (w:=w4)<|R.aa.block E.heap.size (by have:=d5.aa;omega) K2).trans<|HC4.aa q hq
     have b0:wr.cell? _=some (.int _ _):=b 0 wq;have b1:wr.cell? _=some (.int _ _):=b 1 wq;have b2:wr.cell? _=some (.int _ _):=b 2 wq;have b3:wr.cell? _=some (.int _ _):=b 3 wq;have b4:wr.cell? _=some (.int _ _):=b 4 wq;have b5:wr.cell? _=some (.int _ _):=b 5 wq;have b6:wr.cell? _=some (.int _ _):=b 6 wq;have b7:wr.cell? _=some (.int _ _):=b 7 wq;have b8:wr.cell? _=some (.string _):=b 8 wq;have e0:D.size<=100000:=by have:=z.aa.1;omega
     have a1:Accs w.heap.size (20+i) (jO<|l.take i) sb wr:=(c0.kb (Kb.h (S:=[]) HB4.aa) K2).kb R.aa (λk r hf=>by have:=T k hf;have:=BY.1 r;omega);have s:=((Kb.h (S:=[]) a7.aa).trans R.aa<|λi hi=>A4 (by have:=BY.1 hi;have:=b9.aa;omega)).bK
     have t:AM wr (E.heap.size+1) (20+i) (gh<|pe u):=by
      have f:=HM.aa.mono (show j<=20+i by omega);rwa[Y.aa,ZK]at f
     have X:∀x,Below _ wr x->_:=λx O=>Oi (w:=w) W a1 (λk r=>⟨e2 k r,by have:=T k r;omega⟩) s ⟨a9,C,D,u⟩ t (by have:=b9.aa;omega) wq HZ.aa O
     have c:∀x x',vD w.heap.size (20+i+1) (fQ (jO<|l.take i) a9<|ri ⟨a9,C,D,u⟩) w x->Below x.heap.size x x'->vD w.heap.size (20+i+1) (fQ (jO<|l.take i) a9<|ri ⟨a9,C,D,u⟩) w x':=by
      rintro x x'⟨⟨sb,q1,q2⟩,q3⟩hb;exact⟨⟨sb,q1.kb (Kb.h (S:=[]) hb) K2,q2⟩,q3.trans<|hb.mono q3.size⟩
     clear b;go_wp2
     refine dy (PhK (λy=>vD _ _ (fQ (jO<|l.take i) a9<|ri ⟨a9,C,D,u⟩) w y) wr) (λ_ _ _=>True) [(3,(.map _)),(5,(pt E.heap.size)),(6,(.map _))] (nV 30 [.map<|some w.heap.size,pt E.heap.size,wv a9,pq E.heap.size 4,wv _,pq E.heap.size 8,.string _,.string _,.map<|some<|E.heap.size+1,.agg #[.int .u64<|cX C 0,.int .u64<|cX C 1,.int .u64<|cX C 2,.int .u64<|cX C 3,.string D,.map<|some<|E.heap.size+1],.tuple _]) [10] [2,4,6,7] ((dO _ _).drew) (Sc c)
       ⟨(λH hv F=>by
        have O:Below _ wr _:=H;refine o6 @hv (X _ O) (λv y h=>?_) (λl y h=>absurd h.1 K2)<|λy h=>absurd h.1 K2;obtain⟨e,hR⟩:=h;injection e with e
        subst e;exact F _ y hR AF nn1 W),AF⟩
       ⟨(λP H hv F=>by
        have O:=wt H<|P 0 10;exact dD (n:=a9) (hv W) ((O.cell G.aa).trans b0) ((O.cell G.aa).trans b1) ((O.cell G.aa).trans b2) ((O.cell G.aa).trans b3)<|kx F),(λP H hv F=>by
        have O:=wt H<|P 0 10;exact dD (n:=C) (hv W) ((O.cell G.aa).trans b4) ((O.cell G.aa).trans b5) ((O.cell G.aa).trans b6) ((O.cell G.aa).trans b7)<|kx F),(λP H hv F=>by
        have O:=wt H<|P 0 10;exact dm (hv W) ((O.cell G.aa).trans b8)<|kx F),(λP H hv F=>by
        have O:=wt H<|P 0 10;refine o6 @hv (J2 e0) (λv y h=>?_) (λl y h=>absurd h.1 K2)<|λy h=>absurd h.1 K2;obtain⟨e,hb⟩:=h;injection e with e
        subst e;exact F _ y hb nn1 W),AF⟩
       (nl W) (nl W) ?_
     intro gg x H _;have HR:Hd (vD w.heap.size _ (fQ (jO<|l.take i) a9<|ri ⟨a9,C,D,u⟩) w x):=H
     have HSX:Hd (w.heap.size<x.heap.size):=by
      obtain⟨⟨sb,q1,q2⟩,q3⟩:=HR.aa;exact q1.lt<|LZ W
     clear H X c b0 b1 b2 b3 b4 b5 b6 b7 b8 T e2 c0 a1 hbw s t;simp only[n8,sx9];go_wp2;refine⟨⟨i+1,wq,K2,?_,HSX.aa⟩,by simp[nI];omega⟩;rw[d0.aa,show 20+(i+1)=20+i+1 by omega];exact HR.aa
  .have hd2:=dG i L
   have HK2:Hd (vD w.heap.size (20+i) (jO l) w E):=by
    have f:=HK.aa;rwa[show i=l.length by rw[<-HL.aa];omega,ZK,show l.length=i by rw[<-HL.aa];omega]at f
   clear HK;go_wp2;go_ret;exact⟨W,20+i,wq,HK2.aa⟩
def pY{l:List AcE}(h:jt l=true):l.length<=8/\∀a∈l,a.ae.size<=1000/\a.ar.length<=20/\∀p∈a.ar,p.2%M≠0:=by unfold jt at h;let⟨L,I⟩:=(Xo _ _).mp h;refine⟨Xd L,λa R=>?_⟩;obtain⟨i,U,rfl⟩:=XU R;have D:=Xp.1 I i<|XS.2 U;unfold rA at D;rw[gE l MU U]at D;let⟨_,J⟩:=(Xo _ _).mp D;let⟨P,G⟩:=(Xo _ _).mp J;unfold kA at G;let⟨O,Q⟩:=(Xo _ _).mp G;refine⟨Xd P,Xd O,λp U e=>?_⟩;obtain⟨j,H,rfl⟩:=XU U;have E:=Xp.1 Q j<|XS.2 H;unfold rS at E;rw[gE l[i].ar (0,0) H]at E;let⟨_,C⟩:=(Xo _ _).mp E;rw[OsQ e]at C;cases C
def RM(A:Nat->Acc)(w:WD)(gb:Nat)(w':WD):=∃ab n sb,n<=40/\HostAt gb ab n A sb w'/\bW w w'/\w.heap.size<=gb/\∀k,fZ ab A sb k->w.heap.size<=k
def Rh(l:List AcE)(w:WD)(h:AcIn w v l)(hz:Zr w)(b:jt l=true):cP 29 #[v] w λe w'=>∃c,e=.returned (.tuple #[pt c,iI 0])/\RM (jO l) w c w':=by
 have P:=cV<|Fh l w h hz;rw[b]at P;let⟨H,I⟩:=pY b;have V:=cV h;have Z:=cV hz;have g:=cV H;have U:=cV I;obtain⟨m,o,rfl,_⟩:=h;let⟨L,Q⟩:=dP l.length;rw[<-Q.aa]at V P⊢;clear hz H I b;go_enter func29,ntmps29;go_wp2_with fail
 refine P.mono ?_;rintro e E⟨rfl,b⟩;have X:=cV<|O9 l E (V.below b) (Z.below b) g U;have D:=cV b;clear b P;go_wp2_with fail
 refine X.mono ?_;rintro e w2⟨rfl,n,Y,⟨c,G,O⟩,J⟩;have C:bW w w2:=D.aa.trans<|J.mono D.size;have j:Hd (HostAt w2.heap.size E.heap.size n (jO l) c<|w2.alloc<|.cells #[.int .i32 0,.int .u32 0,.map<|some E.heap.size] 91):=by refine⟨World.rowIs_alloc w2 _ _ _<|λi b=>?_,G.kb (Kb.h (S:=[])<|ai (dO _ w2) _) K2,(Z.below C).below<|ai (dO _ w2) _⟩;have b:i<3:=b;rcases ltq3 b with rfl|rfl|rfl<;>rfl
 have d:Hd (w.heap.size<=w2.heap.size/\∀k,fZ E.heap.size (jO l) c k->w.heap.size<=k):=⟨C.size,λk b=>By D.size<|O k b⟩
 clear O;have f:=cV Y;have R:=cV<|ai C<|.cells #[.int .i32 0,.int .u32 0,.map<|some E.heap.size] 91;clear Y G J C X D;go_wp2;refine Kg W W ⟨_,W,_,n,c,f,j,R,d⟩
def rD:List AcE->Tn->Tn
 |a::r,sl::t=>jL a.aj a.ai a.ae sl++rD r t
 |_,_=>[]
theorem E6:∀(l:List AcE)(C:Tn),C.length=l.length->∀a D,rD (l++[a]) (C++[D])=rD l C++jL a.aj a.ai a.ae D
 |[],[],_,a,D=>R5
 |[],_::_,h,_,_=>by cases h
 |_::_,[],h,_,_=>by cases h
 |b::r,s::t,h,a,D=>by show jL b.aj b.ai b.ae s++rD (r++[a]) (t++[D])=jL b.aj b.ai b.ae s++rD r t++_;rw[E6 r t K9 a D,XL]
theorem Bg:∀(l:List AcE)(C:Tn),C.length=l.length->∀(i:Nat) a sl,l[i]?=some a->C[i]?=some sl->∀j,j<10->(rD l C)[i*10+j]?=some ((jL a.aj a.ai a.ae sl)[j]!)
 |[],_,_,i,a,sl,h,_,_,_=>by simp at h
 |_::_,[],h,_,_,_,_,_,_,_=>by cases h
 |b::r,s::t,h,0,a,sl,h1,h2,j,hj=>by cases hV h1;cases hV h2;show(jL b.aj b.ai b.ae s++rD r t)[0*10+j]?=_;rw[YB,XF,Xv hj,Zj _ j hj,iN hj]
 |b::r,s::t,h,i+1,a,sl,h1,h2,j,hj=>by show(jL b.aj b.ai b.ae s++rD r t)[(i+1)*10+j]?=_;rw[Xx (by show 10<=_;omega),show(i+1)*10+j-(jL _ _ _ s).length=i*10+j by show _-10=_;omega];exact Bg r t (by simpa using h) i a sl h1 h2 j hj
def io(l:List<|Nat×Nat):Tn:=l.flatMap λp=>eU p.1++eU p.2
theorem qi:∀(l:List<|Nat×Nat)(i:Nat) p,l[i]?=some p->∀j,j<8->(io l)[i*8+j]?=some ((eU p.1++eU p.2)[j]!)
 |[],i,p,h,_,_=>by simp at h
 |b::r,0,p,h1,j,hj=>by grind[eU,io]
 |b::r,i+1,p,h1,j,hj=>by show(eU b.1++eU b.2++io r)[(i+1)*8+j]?=_;rw[Xx (by show 8<=_;omega),show(i+1)*8+j-(eU _++eU _).length=i*8+j by show _-8=_;omega];exact qi r i p h1 j hj
def SD{x:WD}{l:List<|Nat×Nat}(C:x.ownsRow O 54 8 v l.length<|io l):SlIn x v l:=by
 rcases C.2 with⟨e,I⟩|⟨g,E,H,e,H,H,_⟩
 .exact⟨none,0,K9,LZ<|YM.1 I⟩
 refine⟨_,_,e,A4 ⟨g,0,W,(WY.1 H).1,λi a D j G=>?_⟩⟩;have H:=(Do.1 D).1;subst e;rw[XF,XX C _ wq];grind[qi]
structure AcOwn(O:Nat)(v:VL)(l:List AcE)(x:WD):Prop where
 ex:∃sls:Tn,sls.length=l.length/\x.ownsRow O 34 10 v l.length (rD l sls)/\∀(i:Nat) a sl,l[i]?=some a->sls[i]?=some sl->x.ownsRow O 54 8 sl a.ar.length (io a.ar)
def AcOwn.is{l:List AcE}{x:WD}(h:AcOwn O v l x):AcIn x v l:=by
 let⟨C,J,G,H⟩:=h.ex;rcases G.2 with⟨e,P⟩|⟨g,E,L,e,L,L,_⟩
 .exact⟨none,0,K9,LZ<|YM.1 P⟩
 refine⟨_,_,e,A4 ⟨g,0,W,(WY.1 L).1,λi a D=>?_⟩⟩;have L:=(Do.1 D).1;have L:C[i]?=some _:=iN wq;refine⟨_,λj I=>?_,SD<|H i a _ D L⟩;subst e;rw[XF,XX G _ wq];grind[Bg]
structure IsList(A:Nat->Acc)(l:List AcE):Prop where
 ex:∃ts,qn A ts/\l.length=ts.length/\∀(i:Nat) k a,ts[i]?=some k->l[i]?=some a->a.aj=k/\a.ai=(A k).ai%M/\a.ae=(A k).ae/\∃us,SortedKeys (gh (A k).ar) us/\a.ar=us.map λm=>(m,(A k).ar m%M)
structure EqA(A B:Nat->Acc):Prop where
 ai:∀a,(B a).ai%M=(A a).ai%M
 ae:∀a,(B a).ae=(A a).ae
 aK:∀a k,(B a).ar k%M=(A a).ar k%M
def EqA.no{B:Nat->Acc}(h:EqA A B)(m:Nat):(B m).no↔(A m).no:=by
 unfold Acc.no;rw[h.ai,h.ae];constructor
 .rintro⟨C,D,E⟩;exact⟨C,D,λk=>(h.aK m k).symm.trans<|E k⟩
 rintro⟨C,D,E⟩;exact⟨C,D,λk=>(h.aK m k).trans<|E k⟩
def IsList.bU{B:Nat->Acc}{l l':List AcE}(h:IsList A l)(I:IsList B l')(he:EqA A B):l=l':=by
 let⟨ts,G,j,U⟩:=h.ex;let⟨ts',D,o,J⟩:=I.ex;cases(ry G.1 D.1 λm=>by rw[G.2,D.2,he.no m]:ts=ts')
 refine List.ext_getElem wq λi c C=>?_;have E:ts[i]?=some ts[i]:=iN wq;let⟨Y,P,Z,X,g,H⟩:=U i ts[i] l[i] E<|iN c;let⟨L,V,d,us',f,Q⟩:=J i ts[i] l'[i] E<|iN C;have R:X=us':=g.bU f λm _=>by
  unfold gh;rw[he.aK];by_cases e:(A ts[i]).ar m%M=0
  .rw[At e,At e]
  rw[iF e,iF e];rfl
 have u:l[i].ar=l'[i].ar:=by rw[H,Q,R];refine Zh λm _=>?_;rw[he.aK]
 have q:l[i].ai=l'[i].ai:=by rw[P,V,he.ai]
 have y:l[i].ae=l'[i].ae:=by rw[Z,d,he.ae]
 have p:l[i].aj=l'[i].aj:=by rw[Y,L]
 generalize l[i]=a at*;generalize l'[i]=b at*;cases a;cases b;simp_all
theorem oJ(n i:Nat)(h:i<4:=by omega):cX (n%M) i=cX n i:=by have e:=iL (m:=n%M) (n:=n)<|Yu n M;unfold wv at e;injection e with e;have e:=Xl Array.toList e;simp only[List.cons.injEq]at e;rcases(wq:i=0\/i=1\/i=2\/i=3)with rfl|rfl|rfl|rfl<;>simp_all
def zbQ(n:Nat):eU (n%M)=eU n:=by unfold eU;rw[oJ n 0,oJ n 1,oJ n 2,oJ n 3]
theorem IU(s:Vq):∀C:Tl,io (C.map λm=>(m,s m%M))=CH s C
 |[]=>rfl
 |m::r=>by show eU m++eU (s m%M)++io (r.map λm=>(m,s m%M))=eU m++eU (s m)++CH s r;rw[zbQ,IU s r]
def Told.list(h:Told O A ts v sls w)(Y:qn A ts):∃l,IsList A l/\AcOwn O v l w:=by
 have Q:∀i,∃D:Tl,∀(X:i<ts.length),SortedKeys (gh (A ts[i]).ar) D/\w.ownsRow O 54 8 (sls[i]'(by rw[h.len];exact X)) D.length (CH (A ts[i]).ar D):=λi=>by
  by_cases X:i<ts.length
  .obtain⟨D,_,H,P⟩:=h.sl i ts[i] (sls[i]'(by rw[h.len];exact X)) (iN X) (iN (by rw[h.len];exact X));exact⟨D,λ_=>⟨H,P⟩⟩
  exact⟨[],λh=>absurd h X⟩
 let⟨f,b⟩:=Classical.axiomOfChoice Q;let mk:Nat->AcE:=λi=>⟨ts.getD i 0,(A<|ts.getD i 0).ai%M,(A<|ts.getD i 0).ae,(f i).map λm=>(m,(A<|ts.getD i 0).ar m%M)⟩
 have Z:((List.range ts.length).map mk).length=ts.length:=K2
 have J:∀(i:Nat) a,((List.range ts.length).map mk)[i]?=some a->i<ts.length/\a=mk i:=λi a E=>by
  have X:i<ts.length:=by rw[<-Z];exact(Do.1 E).1
  refine⟨X,?_⟩;rw[Xu,ZG X]at E;exact(hV E).symm
 refine⟨(List.range ts.length).map mk,⟨ts,Y,Z,λi k a C E=>?_⟩,⟨sls,by rw[Z];exact h.len,?_,λi a sl E c=>?_⟩⟩
 .obtain⟨X,rfl⟩:=J i a E;have e:ts.getD i 0=k:=by rw[If,C];rfl
  have L:ts[i]=k:=by rw[iN X]at C;exact hV C
  have G:=(b i X).1;rw[L]at G;refine⟨e,?_,?_,f i,G,?_⟩<;>(show _=_;dsimp only[mk];rw[e])
 .rw[Z];have e:rD ((List.range ts.length).map mk) sls=Jl A ts sls:=by
   have N:∀(D:Tl)(Y:List AcE)(ss:Tn),Y.length=D.length->(∀(i:Nat) k a,D[i]?=some k->Y[i]?=some a->a.aj=k/\a.ai=(A k).ai%M/\a.ae=(A k).ae)->rD Y ss=Jl A D ss:=by
    intro D;induction D with
    |nil=>intro Y ss I _;cases YM.1 I;cases ss<;>rfl
    |cons k r V=>
     intro Y ss I H;cases Y with
     |nil=>cases I
     |cons a Y=>
      cases ss with
      |nil=>rfl
      |cons s ss=>let⟨d,g,U⟩:=H 0 k a W W;show jL a.aj a.ai a.ae s++rD Y ss=jL k (A k).ai (A k).ae s++Jl A r ss;rw[V Y ss (by simpa using I)<|λi k a P R=>H (i+1) k a P R,d,g,U];unfold jL;rw[oJ _ 0,oJ _ 1,oJ _ 2,oJ _ 3]
   refine N ts _ sls Z λi k a C E=>?_;obtain⟨X,rfl⟩:=J i a E;have e:ts.getD i 0=k:=by rw[If,C];rfl
   refine⟨e,?_,?_⟩<;>(show _=_;dsimp only[mk];rw[e])
  rw[e];exact h.aD
 obtain⟨X,rfl⟩:=J i a E;have G:=(b i X).2;have e:ts.getD i 0=ts[i]:=by rw[If,iN X];rfl
 have L:sls[i]'(by rw[h.len];exact X)=sl:=by have:=c;rw[iN (by rw[h.len];exact X)]at this;exact hV this
 rw[L]at G;show w.ownsRow O 54 8 sl ((f i).map λm=>(m,(A<|ts.getD i 0).ar m%M)).length (io<|(f i).map λm=>(m,(A<|ts.getD i 0).ar m%M));rwa[IU,XH,e]
def nA{α:Type}(lt:α->Bool)(x:α):List α->List α
 |[]=>[x]
 |a::l=>if lt a=true then a::nA lt x l else x::a::l
section
variable {α β:Type} {lt:α->Bool} {x y:α}
theorem wQ:∀{l:List α},y∈nA lt x l↔y=x\/y∈l
 |[]=>by simp[nA]
 |a::l=>by
  unfold nA;split
  .simp only[IF,wQ (l:=l)];constructor
   .rintro(h|h|h)<;>simp[h]
   rintro(h|h|h)<;>simp[h]
  simp
theorem Gl:∀{l:List α}{n:Nat},(∀(j:Nat) a,j<n->l[j]?=some a->lt a=true)->(∀a,l[n]?=some a->lt a=false)->n<=l.length->nA lt x l=l.take n++x::l.drop n
 |[],n,_,_,h=>by
  cases(by simpa using h:n=0)
  rfl
 |a::l,0,_,h2,_=>by unfold nA;rw[iF (by rw[h2 a W];decide)];rfl
 |a::l,n+1,h1,h2,h3=>by unfold nA;rw[At<|h1 0 a wq W,Gl (l:=l) (n:=n) (λj b C D=>h1 (j+1) b wq D) (λb D=>h2 b D)<|by simpa using h3];rfl
theorem Ih{N:α->Nat}(C:∀a,lt a=decide (N a<N x)):∀{l:List α},l.Pairwise (λa b=>N a<N b)->(∀a∈l,N a≠N x)->(nA lt x l).Pairwise (λa b=>N a<N b)
 |[],_,_=>XO _ _
 |a::l,h,hn=>by
  let⟨D,E⟩:=XT.1 h;unfold nA;rw[C a];by_cases e:N a<N x
  .rw[At<|OsQ e];refine XT.2 ⟨λb H=>?_,Ih C E λb H=>hn b<|IN _ H⟩;rcases wQ.1 H with rfl|H
   .exact e
   exact D b H
  rw[iF (by rw[W8 e];decide)];have G:N x<N a:=by have:=hn a Xz;omega
  refine XT.2 ⟨λb H=>?_,h⟩;rcases IF.1 H with rfl|H
  .exact G
  have:=D b H;omega
theorem tK{N:β->Nat}{skip:α->Prop}[DecidablePred skip]{f:α->β}{lt:α->β->Bool}(D:∀x a,lt x a=decide (N a<N (f x))):∀(l:List α)(I:List β),I.Pairwise (λa b=>N a<N b)->l.Pairwise (λx y=>¬skip x->¬skip y->N (f x)≠N (f y))->(∀x∈l,¬skip x->∀a∈I,N a≠N (f x))->(l.foldl (λI x=>if skip x then I else nA (lt x) (f x) I) I).Pairwise (λa b=>N a<N b)/\∀y,y∈l.foldl (λI x=>if skip x then I else nA (lt x) (f x) I) I↔y∈I\/∃x∈l,¬skip x/\y=f x
 |[],I,h,_,_=>⟨h,λy=>K2⟩
 |x::l,I,h,hp,hn=>by
  let⟨H,p2⟩:=XT.1 hp;rw[Xa];by_cases O:skip x
  .rw[At O];let⟨Q,U⟩:=tK D l I h p2 λy E=>hn y<|IN _ E;refine⟨Q,λy=>(U y).trans<|or_congr Iff.rfl ?_⟩;constructor
   .rintro⟨z,J,C,L⟩;exact⟨z,IN _ J,C,L⟩
   rintro⟨z,J,C,L⟩;rcases IF.1 J with rfl|J
   .exact absurd O C
   exact⟨z,J,C,L⟩
  rw[iF O];let⟨Q,U⟩:=tK D l (nA (lt x) (f x) I) (Ih (D x) h<|hn x Xz O) p2 λy E C a G=>by
   rcases wQ.1 G with rfl|G
   .exact H y E O C
   exact hn y (IN _ E) C a G
  refine⟨Q,λy=>(U y).trans ?_⟩;rw[wQ];constructor
  .rintro((rfl|C)|⟨z,J,C,L⟩)
   .exact A4 ⟨x,Xz,O,W⟩
   .exact LZ C
   exact A4 ⟨z,IN _ J,C,L⟩
  rintro(C|⟨z,J,C,L⟩)
  .exact LZ (A4 C)
  rcases IF.1 J with rfl|J
  .exact LZ (LZ L)
  exact A4 ⟨z,J,C,L⟩
theorem uF{p:α->Bool}:∀{l:List α},l.Pairwise (λs t=>p s=true->p t=true->False)->x∈l->p x=true->l.find? p=some x
 |a::l,h,C,hp=>by
  let⟨E,D⟩:=XT.1 h;rw[X0];cases G:p a with
  |true=>
   rcases IF.1 C with rfl|C
   .rfl
   exact(E x C G hp).elim
  |false=>
   rcases IF.1 C with rfl|C
   .rw[G]at hp;cases hp
   exact uF D C hp
end
abbrev xJ(a:Nat)(s:Slt):=s.br=true\/s.val%M=0\/s.aj%M≠a%M
def Hn(a:Nat)(aw:List<|Nat×Nat)(s:Slt):List (Nat×Nat):=if xJ a s then aw else nA (λq=>iX q.1 s.key) (s.key,s.val) aw
def EP(l:List Slt)(a:Nat):List (Nat×Nat):=l.foldl (Hn a) []
def Sz(P:RW)(p:Pur):AcE:=⟨p.aj,p.mo,p.ae,EP P.sl p.aj⟩
abbrev Dd(P:RW)(p:Pur):=p.mo%M=0/\p.ae.size=0/\EP P.sl p.aj=[]
def CD(P:RW)(aa:List AcE)(p:Pur):List AcE:=if Dd P p then aa else nA (λq=>iX q.aj p.aj) (Sz P p) aa
def nW(P:RW)(l:List Slt):RW:=l.foldl (λQ s=>(ag s.aj Q).2) P
def uJ(P:RW):List AcE:=(nW P P.sl).pu.foldl (CD<|nW P P.sl) []
def Er(a:AcE):AcE:=⟨a.aj%M,a.ai%M,a.ae,a.ar.map λq=>(q.1%M,q.2%M)⟩
def uA(h:Cd P)(a:Nat):(EP P.sl a).Pairwise (λq r=>q.1%M<r.1%M)/\∀q,q∈EP P.sl a↔∃s∈P.sl,¬xJ a s/\q=(s.key,s.val):=by
 let⟨D,C⟩:=tK (N:=λq:Nat×Nat=>q.1%M) (skip:=xJ a) (f:=λs:Slt=>(s.key,s.val)) (lt:=λs q=>iX q.1 s.key) (λs q=>W) P.sl [] List.Pairwise.nil ((YJ.1 h.2.2).imp λ{s t} D C E e=>by
  unfold xJ at C E;have I:s.aj%M=t.aj%M:=wq
  have G:s.br=false:=by simpa using λe=>C (LZ e)
  have b2:t.br=false:=by simpa using λe=>E (LZ e)
  have:ly t.br t.aj t.key ⟨s.aj,s.key,0,s.br⟩=true:=by unfold ly;rw[G,b2,mg I,mg e];rfl
  rw[show ly t.br t.aj t.key ⟨s.aj,s.key,0,s.br⟩=false from D]at this;cases this)<|λ_ _ _ _ H=>by cases H
 exact⟨D,λq=>(C q).trans K2⟩
def UK(h:Cd P){s:Slt}(H:s∈P.sl)(E:ly br a k s=true):fu br a k P=s.val:=by
 unfold fu;rw[uF ((YJ.1 h.2.2).imp λ{s t} G C D=>?_) H E];unfold ly at C D;simp only[Xo,X1]at C D;have:ly t.br t.aj t.key ⟨s.aj,s.key,0,s.br⟩=true:=by unfold ly;rw[show s.br=t.br from C.1.trans D.1.symm,mg<|(iw.1 C.2.1).trans (iw.1 D.2.1).symm,mg<|(iw.1 C.2.2).trans (iw.1 D.2.2).symm];simp
 rw[show ly t.br t.aj t.key ⟨s.aj,s.key,0,s.br⟩=false from G]at this;cases this
def My(h:fu br a k P≠0):∃s∈P.sl,ly br a k s=true/\fu br a k P=s.val:=by
 unfold fu at h⊢;cases C:P.sl.find? (ly br a k)with
 |none=>rw[C]at h;exact absurd W h
 |some s=>exact⟨s,Zt C,List.find?_some C,W⟩
def Jz(h:Cd P){p:Pur}(H:p∈P.pu)(C:p.aj%M=a%M):ks a P=p:=by
 unfold ks;rw[uF ((YJ.1 h.2.1).imp λ{s t} E D G=>?_) H<|mg C]
 .rfl
 have:=mg<|(iw.1 D).trans (iw.1 G).symm;rw[(E:gN s.aj t.aj=false)]at this;cases this
theorem M3{T:TS}:∀(l:List Slt)(P:RW),Cd P->RelW T P->Cd (nW P l)/\RelW T (nW P l)/\(nW P l).sl=P.sl/\(nW P l).pu.length<=P.pu.length+l.length/\(∀a,Sd a P->Sd a (nW P l))/\∀s∈l,Sd s.aj<|nW P l
 |[],P,h,hr=>⟨h,hr,W,DO _,λ_ h=>h,λ_ h=>by cases h⟩
 |s::l,P,h,hr=>by
  let⟨I,G,J,L,D,E⟩:=M3 l (ag s.aj P).2 (qp h)<|hr.bX s.aj;have O:=(iG s.aj P).2;refine⟨I,G,J.trans (kK s.aj P).1,by show(nW (ag s.aj P).2 l).pu.length<=_;rw[X2];omega,λa H=>D a<|qT a s.aj<|LZ H,λt C=>?_⟩;rcases IF.1 C with rfl|C
  .exact D _ (qT _ _<|A4 W)
  exact E t C
def FI(l:Cd P)(u:RelW (T0 A) P):IsList A ((uJ P).map Er):=by
 obtain⟨U,I,T,r,r,F⟩:=M3 P.sl P l u;unfold uJ;generalize nW P P.sl=Q at*;have E:∀a k:Nat,fu false a k Q%M≠0->∃s∈Q.sl,¬xJ a s/\s.key%M=k%M/\s.val=fu false a k Q:=λa k h=>by
  obtain⟨s,l,J,z⟩:=My (λe=>h (by rw[e];exact ZS _));unfold ly at J;simp only[Xo,X1]at J;refine⟨s,l,λC=>?_,iw.1 J.2.2,z.symm⟩;rcases C with C|C|C
  .rw[J.1]at C;cases C
  .exact h (z▸C)
  exact C<|iw.1 J.2.1
 have D:∀{a:Nat}{s:Slt},s∈Q.sl->¬xJ a s->∀{b k:Nat},b%M=a%M->k%M=s.key%M->fu false b k Q=s.val:=λ{a s} l r {b k} hb h=>UK U l (by
  have H:s.br=false:=by simpa using λe=>r (LZ e)
  have G:s.aj%M=b%M:=by apply YA;intro e;exact r (A4<|A4 (by rw[<-hb];exact e))
  unfold ly;rw[H,mg G,mg h.symm];rfl)
 have X:∀p∈Q.pu,Dd Q p↔(A<|p.aj%M).no:=λp u=>by
  have R:=I.ai<|p.aj%M;have O:=I.ae<|p.aj%M;rw[Jz U u (Yu _ _).symm]at R O;unfold Dd Acc.no;rw[show(A<|p.aj%M).ai=p.mo from R,show(A<|p.aj%M).ae=p.ae from O];refine and_congr Iff.rfl<|and_congr ⟨λh=>?_,λh=>by rw[h];rfl⟩ ⟨λh k=>?_,λh=>?_⟩
  .generalize p.ae=v at h;obtain⟨c⟩:=v;exact Xl _<|Array.eq_empty_of_size_eq_zero h
  .apply YA;intro e;rw[show(A<|p.aj%M).ar k=_ from I.aK (p.aj%M) k]at e;obtain⟨s,l,H,G,g⟩:=E _ _ e;have:(s.key,s.val)∈EP Q.sl p.aj:=((uA U p.aj).2 _).2 ⟨s,l,λC=>H (by unfold xJ at C⊢;rw[Yu];exact C),W⟩;rw[h]at this;cases this
  refine List.eq_nil_iff_forall_not_mem.2 λq w=>?_;obtain⟨s,l,H,rfl⟩:=((uA U p.aj).2 _).1 w;have G:=h s.key;rw[show(A<|p.aj%M).ar s.key=_ from I.aK (p.aj%M) s.key,D l H (Yu _ _) W]at G;exact H<|A4<|LZ G
 obtain⟨Z,Y⟩:=tK (N:=λa:AcE=>a.aj%M) (skip:=Dd Q) (f:=Sz Q) (lt:=λp a=>iX a.aj p.aj) (λp a=>W) Q.pu [] List.Pairwise.nil ((YJ.1 U.2.1).imp λ{s t} H _ _ e=>by have:=mg (m:=s.aj) (n:=t.aj) e;rw[(H:gN s.aj t.aj=false)]at this;cases this) (λ_ _ _ _ V=>by cases V);replace Y:∀y,y∈Q.pu.foldl (CD Q) []↔∃p∈Q.pu,¬Dd Q p/\y=Sz Q p:=λy=>(Y y).trans K2;replace Z:(Q.pu.foldl (CD Q) []).Pairwise (λa b=>a.aj%M<b.aj%M):=Z;generalize Q.pu.foldl (CD Q) []=L at*;refine⟨L.map (·.aj%M),⟨YJ.2 Z,λm=>?_⟩,K2,λi k a r V=>?_⟩
 .constructor
  .intro h;obtain⟨a,V,rfl⟩:=Xq.1 h;obtain⟨p,u,H,rfl⟩:=(Y a).1 V;exact⟨Xs _ jm,λC=>H<|(X p u).2 C⟩
  rintro⟨J,v⟩;obtain⟨p,u,e⟩:∃p∈Q.pu,p.aj%M=m%M:=by
   apply YA;intro o;have hf:Q.pu.find? (λp=>gN p.aj m)=none:=Zn.2 λp u C=>o ⟨p,u,iw.1 C⟩;have d:ks m Q=⟨m,0,⟨#[]⟩⟩:=by unfold ks;rw[hf];rfl
   have R:=I.ai m;have O:=I.ae m;rw[d]at R O;refine v ⟨by rw[show(A m).ai=0 from R];exact ZS _,O,λk=>?_⟩;apply YA;intro e;rw[show(A m).ar k=_ from I.aK m k]at e;obtain⟨s,l,H,G,g⟩:=E _ _ e;obtain⟨p,u,S⟩:=F s<|T▸l;refine o ⟨p,u,(iw.1 S).trans ?_⟩;apply YA;intro e;exact H<|A4<|A4 e
  have j:p.aj%M=m:=by rw[e];exact WZ J
  exact Xq.2 ⟨Sz Q p,(Y _).2 ⟨p,u,λC=>v<|j▸(X p u).1 C,W⟩,j⟩
 rw[Xu]at r V;obtain⟨b,hb,rfl⟩:=Y1.1 r;rw[hb]at V;cases(hV V:Er b=a);obtain⟨p,u,H,rfl⟩:=(Y b).1<|Xe hb;have R:=I.ai<|p.aj%M;have O:=I.ae<|p.aj%M;rw[Jz U u (Yu _ _).symm]at R O;obtain⟨K,s2⟩:=uA U p.aj;refine⟨W,by show p.mo%M=(A<|p.aj%M).ai%M;rw[show(A<|p.aj%M).ai=p.mo from R],O.symm,(EP Q.sl p.aj).map (·.1%M),⟨YJ.2 K,λm=>?_⟩,?_⟩
 .show _↔m<M/\(gh (A<|p.aj%M).ar m).isSome=true;unfold gh;rw[show(A<|p.aj%M).ar m=_ from I.aK (p.aj%M) m];constructor
  .intro h;obtain⟨q,w,rfl⟩:=Xq.1 h;obtain⟨s,l,G,rfl⟩:=(s2 q).1 w;refine⟨Xs _ jm,?_⟩;rw[D l G (Yu _ _)<|Yu _ _,iF λe=>G<|A4<|LZ e];rfl
  rintro⟨J,C⟩;by_cases e:fu false (p.aj%M) m Q%M=0
  .rw[At e]at C;cases C
  obtain⟨s,l,G,g,u⟩:=E _ _ e;refine Xq.2 ⟨(s.key,s.val),(s2 _).2 ⟨s,l,λC=>G (by unfold xJ at C⊢;rw[Yu];exact C),W⟩,?_⟩;exact g.trans<|WZ J
 show(EP Q.sl p.aj).map _=_;rw[Zd];refine Zh λq w=>?_;obtain⟨s,l,G,rfl⟩:=(s2 q).1 w;show(s.key%M,s.val%M)=(s.key%M,(A<|p.aj%M).ar (s.key%M)%M);rw[show(A<|p.aj%M).ar (s.key%M)=_ from I.aK (p.aj%M)<|s.key%M,D l G (Yu _ _)<|Yu _ _]
variable {e:Nat}
theorem BO{t e sz by' n:Nat}{a:Gj}{x:WD}(D:CF t e sz by')(h:n<=c):(Builtin.append_ #[t,t] t #[.slice a n c,dL]).run prog x=.ok (.slice a n c) x:=by obtain⟨G,H,i,z,I,J,J,E,C⟩:=D;cases a<;>simp[Builtin.append_,Zm G,sizeOf,typeInfo,I,Builtin.lenOf,h,dL,Builtin.firstCells,storeCells]
def zbB(v:VL)(k:Nat):VL:=match v with
 |.slice a _ c=>.slice a k c
 |v=>v
def nS(v:VL)(k sz:Nat):VL:=match v with
 |.slice a n c=>.slice (if c=k then a else a.map (·.add (k*sz))) (n-k)<|c-k
 |v=>v
def Sep.cz(h:Sep O (fp e sz v n xs::rs) x)(I:CF t e sz by')(L:∀u∈xs,u.oneCell'=true)(P:k<=n)(hn:n<=1000000000)(G:by'<=1000):∃D y,(Builtin.append_ #[t,t] t #[dL,zbB v k]).run prog x=.ok D y/\Sep O (fp e sz D k (xs.take<|k*sz)::fp e sz v n xs::rs) y/\Below O x y:=by
 have J:Sep _ (fp e sz dL 0 []::fp e sz v n xs::rs) x:=h.new (Xy _ _ _ _) (dO _ _) λk P=>(by cases P)
 rcases h.hd.2 with⟨rfl,rfl⟩|⟨g,E,Q,rfl,Q,Q,Q,Q,Q,Q⟩
 .obtain rfl:k=0:=wq
  have:=Yo (by rw[h.hd.1,YB]);subst this;exact⟨_,x,BO I<|DO _,K9,dO _ _⟩
 have Q:(xs.take<|k*sz).length=k*sz:=by grind[XB,Zg,Yf]
 let⟨D,y,V,U,r3,_⟩:=J.cC I ⟨g,0,none⟩ k E Q (λj u C=>by rw[show(⟨g,0,_⟩:Addr).add j=⟨g,j,none⟩ by simp[Addr.add,qag]];have H:=(Do.1 C).1;rw[Q]at H;rw[ZT,At H]at C;rw[XX h.hd j<|Xg H<|Yf _ P,C]) (λu C=>L u<|YY C) wq<|By (Yx (DO _) G) wq;rw[XF,XG]at U;exact⟨D,y,V,U,r3⟩
def Sep.cn(h:Sep O (fp e sz v2 m ys::fp e sz v n xs::rs) x)(J:CF t e sz by')(P:∀u∈xs,u.oneCell'=true)(b:k<=n)(hn:n<=1000000000)(V:m<=1000000000)(G:by'<=1000):∃C y,(Builtin.append_ #[t,t] t #[v2,nS v k sz]).run prog x=.ok C y/\Sep O (fp e sz C (m+(n-k)) (ys++xs.drop (k*sz))::rs) y/\Below O x y:=by
 have Q:∀{y:WD}{C}{R}{L},Sep _ (fp e sz C R L::fp e sz v n xs::rs) y->Sep O _ y:=λh=>h.sw.tl;rcases h.tl.hd.2 with⟨rfl,rfl⟩|⟨g,E,Y,rfl,Z,Z,Z,Z,Z,Z⟩
 .obtain rfl:k=0:=wq
  have:=Yo (by rw[h.tl.hd.1,YB]);subst this;let⟨a,c,X⟩:=dt h.hd;refine⟨v2,x,?_,K9,dO _ _⟩;have:nS (.slice _ 0 0) 0 sz=dL:=rfl;rw[this];rcases h.hd.2 with⟨Z,_⟩|⟨g,E,Y,Z,_,_,Y,_⟩
  .rw[Z];exact BO J<|DO _
  grind[BO]
 have Y:(xs.drop<|k*sz).length=(n-k)*sz:=by rw[X8,h.tl.hd.1,Nat.sub_mul]
 have N:∀(a:Addr)(c:Nat),(n-k=0\/a=⟨g,k*sz,none⟩)->∃C y,(Builtin.append_ _ t _).run _ x=.ok C y/\Sep _ _ y/\Below _ x y:=λa c I=>by
  let⟨C,y,Z,d,r3,_⟩:=h.cC J a _ c Y (λj u D=>by
   have H:=(Do.1 D).1;rw[Y]at H;rcases I with I|rfl
   .rw[I,YB]at H;omega
   rw[List.getElem?_drop]at D;rw[show(⟨g,_,_⟩:Addr).add j=⟨g,k*sz+j,none⟩ by simp[Addr.add]];rw[XX h.tl.hd _ (by have:k*sz<=n*sz:=Yf _ b;rw[Nat.sub_mul]at H;omega),D]) (λu D=>P u<|List.mem_of_mem_drop D) (by unfold maxLen;omega)<|By (Yx (DO _) G) wq
  exact⟨C,y,Z,Q d,r3⟩
 unfold nS;dsimp only;by_cases U:E=k
 .rw[At U];exact N _ _<|LZ wq
 simp_all[Addr.add]
variable {u:Nat}
structure RdI(Y:Nat)(P:RW)(V:DV)(x:WD):Prop where
 row:rowL x Y 146 [V.pv,V.lv,V.gv]
 pu:x.ownsRow 0 150 9 V.pv P.pu.length (P.pu.flatMap qX)
 sl:x.ownsRow 0 152 13 V.lv P.sl.length (P.sl.flatMap oj)
def rRd(Y:Nat)(P:RW)(V:DV):Rs:=⟨λk=>k=Y\/V.pv.ownBlock=some k\/V.lv.ownBlock=some k,RdI Y P V,λ{x k} h hk=>by
 rcases hk with rfl|hk|hk
 .exact h.row.lt
 .exact(h.pu.lt _ hk).2
 .exact(h.sl.lt _ hk).2,λ{x y} h hs he=>by
 have ho:∀{e size n:Nat}{v:VL}{xs:Tn},(∀k,v.ownBlock=some k->k=Y\/V.pv.ownBlock=some k\/V.lv.ownBlock=some k)->x.ownsRow 0 e size v n xs->y.ownsRow 0 e size v n xs:=λhd ho=>⟨ho.1,ho.2.imp id λ⟨g,E,cur,h1,h2,h3,h4⟩=>⟨g,E,cur,h1,h2,(he g<|hd g (by rw[h1];rfl)).trans h3,h4⟩⟩
 exact⟨World.rowIs.of_block h.row<|he Y<|LZ rfl,ho (λg hg=>A4<|LZ hg) h.pu,ho (λg hg=>A4<|A4 hg) h.sl⟩⟩
structure SlsI(l:List AcE)(sls:Tn)(x:WD):Prop where
 len:sls.length=l.length
 sl:∀(i:Nat) a s,l[i]?=some a->sls[i]?=some s->x.ownsRow 0 54 8 s a.ar.length (io a.ar)
def LK(l:List AcE)(sls:Tn):Rs:=⟨λk=>∃s∈sls,s.ownBlock=some k,SlsI l sls,λ{x k} h hk=>by
 obtain⟨s,hs,hk⟩:=hk;obtain⟨i,hi,rfl⟩:=XU hs;exact((h.sl i _ _ (iN (by rw[<-h.len];exact hi))<|iN hi).lt _ hk).2,λ{x y} h hs he=>⟨h.len,λi a s ha hs=>by
 have ho:=h.sl i a s ha hs;exact⟨ho.1,ho.2.imp id λ⟨g,E,cur,h1,h2,h3,h4⟩=>⟨g,E,cur,h1,h2,(he g ⟨s,Xe hs,by rw[h1];rfl⟩).trans h3,h4⟩⟩⟩⟩
theorem AO{α:Type}{f:α->Tn}{c:Nat}(E:∀a,(f a).length=c):∀(l:List α)(k:Nat),(l.flatMap f).take (k*c)=(l.take k).flatMap f/\(l.flatMap f).drop (k*c)=(l.drop k).flatMap f
 |[],k=>K2
 |a::l,0=>K2
 |a::l,k+1=>by let⟨D,C⟩:=AO E l k;rw[Z3,show(k+1)*c=(f a).length+k*c by grind,List.take_length_add_append,List.drop_length_add_append,D,C];simp
theorem yx:∀(l:List AcE)(sls:Tn),rD l sls=(l.zip sls).flatMap λp=>jL p.1.aj p.1.ai p.1.ae p.2
 |[],sls=>R5
 |a::l,[]=>rfl
 |a::l,s::r=>by show jL a.aj a.ai a.ae s++rD l r=_;rw[yx l r];rfl
def Rm(l:List AcE)(E:sls.length=l.length)(k:Nat){a:AcE}{s:VL}:(rD l sls).take (k*10)++jL a.aj a.ai a.ae s++(rD l sls).drop (k*10)=rD (l.take k++a::l.drop k) (sls.take k++s::sls.drop k):=by rw[yx,yx];let⟨D,C⟩:=AO (f:=λp:AcE×VL=>jL p.1.aj p.1.ai p.1.ae p.2) (c:=10) (λ_=>W) (l.zip sls) k;rw[D,C,List.zip_append K9,Zi,List.zip_cons_cons,Z3,XL];rw[show(l.zip _).take k=(l.take k).zip _ from List.take_zipWith,show(l.zip _).drop k=(l.drop k).zip _ from List.drop_zipWith]
def SE(l:List<|Nat×Nat)(k:Nat){p:Nat×Nat}:(io l).take (k*8)++(eU p.1++eU p.2)++(io l).drop (k*8)=io (l.take k++p::l.drop k):=by unfold io;let⟨D,C⟩:=AO (f:=λp:Nat×Nat=>eU p.1++eU p.2) (c:=8) (λ_=>W) l k;grind
def WQ.rd{Y:Nat}{P:RW}{x:WD}(h:WQ O Y P [] x):∃V,Sep O [fp 34 10 dL 0 [],LK [] [],rRd Y P V] x:=by
 obtain⟨V,hdw, -, -,hb⟩:=h;refine⟨V,⟨λr E=>?_,?_,hb⟩⟩
 .simp only[IF,Xk,XI]at E;rcases E with rfl|rfl|rfl
  .exact⟨Xy _ _ _ _,λk D=>by cases D⟩
  .exact⟨⟨W,λi a s C=>by cases C⟩,λk D=>by let⟨s,G,_⟩:=D;cases G⟩
  refine⟨⟨hdw.row,fO hdw.pu<|In _,fO hdw.sl<|In _⟩,λk D=>?_⟩;rcases D with rfl|D|D
  .exact hdw.hb
  .exact(hdw.pu.lt k D).1
  exact(hdw.sl.lt k D).1
 refine XT.2 ⟨λr E k D=>(by cases D),XT.2 ⟨λr E k D=>?_,XO _ _⟩⟩;let⟨s,G,_⟩:=D;cases G
def OutI(x:WD)(Y:Nat)(P:RW)(V:DV)(l:List AcE)(ov:VL)(wr:WD):=∃sls,Sep x.heap.size [fp 34 10 ov l.length<|rD l sls,LK l sls,rRd Y P V] wr/\bW x wr
def SlI(x:WD)(Y:Nat)(P:RW)(V:DV)(L:List AcE)(ov:VL)(pb ab:Nat)(p:Pur)(ss:List<|Nat×Nat)(slv:VL)(wr:WD):=∃sls,Sep x.heap.size [gj ab 34<|jL p.aj p.mo p.ae slv,fp 54 8 slv ss.length<|io ss,gj pb 150<|qX p,fp 34 10 ov L.length<|rD L sls,LK L sls,rRd Y P V] wr/\bW x wr
def OutI.aw{x:WD}{Y:Nat}{P:RW}{V:DV}{L:List AcE}{ov:VL}{wr:WD}(h:OutI x Y P V L ov wr)(p:Pur):SlI x Y P V L ov wr.heap.size (wr.heap.size+1) p [] dL ((wr.alloc<|.cells (qX p).toArray 150).alloc<|.cells (jL p.aj p.mo p.ae dL).toArray 34):=by let⟨sls,E,C⟩:=h;have G:=E.row (qX p) 150;have D:=G.row (jL p.aj p.mo p.ae dL) 34;rw[show(wr.alloc _).heap.size=wr.heap.size+1 by simp]at D;refine⟨_,(D.new (Xy _ _ _ _) (dO _ _) λk H=>by cases H).sw,?_⟩;have hb:=ai (ai (dO _ wr)<|.cells (qX p).toArray 150)<|.cells (jL p.aj p.mo p.ae dL).toArray 34;exact C.trans<|hb.mono C.size
def SlI.bel{x:WD}{Y:Nat}{P:RW}{V:DV}{L:List AcE}{ov:VL}{pb ab:Nat}{p:Pur}{ss:List<|Nat×Nat}{slv:VL}{wr y:WD}(h:SlI x Y P V L ov pb ab p ss slv wr)(hb:bW wr y):SlI x Y P V L ov pb ab p ss slv y:=by let⟨sls,D,C⟩:=h;exact⟨_,D.below hb,C.trans<|hb.mono C.size⟩
def SsI(x:WD)(Y:Nat)(P:RW)(V:DV)(L:List AcE)(ov:VL)(pb ab sb:Nat)(p:Pur)(s:Slt)(ss:List<|Nat×Nat)(slv:VL)(wr:WD):=∃sls,Sep x.heap.size [gj sb 152<|oj s,gj ab 34<|jL p.aj p.mo p.ae slv,fp 54 8 slv ss.length<|io ss,gj pb 150<|qX p,fp 34 10 ov L.length<|rD L sls,LK L sls,rRd Y P V] wr/\bW x wr
section
variable {V:DV}{L:List AcE}{sb:Nat}{p:Pur}{s:Slt}{ss:List (Nat×Nat)}
def SlI.aK(h:SlI x Y P V L ov pb ab p ss slv wr)(s:Slt):SsI x Y P V L ov pb ab wr.heap.size p s ss slv (wr.alloc<|.cells (oj s).toArray 152):=by let⟨sls,D,C⟩:=h;exact⟨_,D.row _ _,C.trans<|(ai (dO _ wr) _).mono C.size⟩
def SsI.bel(h:SsI x Y P V L ov pb ab sb p s ss slv wr)(hb:bW wr y):SsI x Y P V L ov pb ab sb p s ss slv y:=by let⟨sls,D,C⟩:=h;exact⟨_,D.below hb,C.trans<|hb.mono C.size⟩
def SsI.sl(h:SsI x Y P V L ov pb ab sb p s ss slv wr):SlI x Y P V L ov pb ab p ss slv wr:=by let⟨sls,C,D⟩:=h;exact⟨_,C.tl,D⟩
def SsI.r(h:SsI x Y P V L ov pb ab sb p s ss slv wr):rowL wr sb 152 (oj s)/\rowL wr ab 34 (jL p.aj p.mo p.ae slv)/\rowL wr pb 150 (qX p)/\wr.ownsRow 0 54 8 slv ss.length (io ss):=by let⟨sls,C,D⟩:=h;exact⟨C.hd,C.tl.hd,C.tl.tl.tl.hd,C.tl.tl.hd⟩
end
def SsI.ins{x:WD}{Y:Nat}{P:RW}{V:DV}{L:List AcE}{ov:VL}{pb ab sb:Nat}{p:Pur}{s:Slt}{ss:List<|Nat×Nat}{slv:VL}{wr:WD}(h:SsI x Y P V L ov pb ab sb p s ss slv wr)(q:Nat)(k:q<=ss.length)(l:ss.length<=900000000):∃E C G H v3 D,(Builtin.append_ #[32,32] 32 #[dL,zbB slv q]).run prog wr=.ok E C/\(Builtin.append_ #[32,32] 32 #[E,sL C.heap.size 1 1]).run prog (C.alloc<|.cells (eU s.key++eU s.val).toArray 54)=.ok G H/\(Builtin.append_ #[32,32] 32 #[G,nS slv q 8]).run prog H=.ok v3 D/\(∃a n c,v3=.slice a n c)/\(∃a c,E=.slice a q c)/\(∃a c,G=.slice a (q+1) c)/\rowL C sb 152 (oj s)/\rowL H ab 34 (jL p.aj p.mo p.ae slv)/\rowL D ab 34 (jL p.aj p.mo p.ae slv)/\SlI x Y P V L ov pb ab p (ss.take q++(s.key,s.val)::ss.drop q) v3 (D.setCell ⟨ab,9,none⟩ v3):=by
 let⟨sls,o,j⟩:=h;have U:CF 32 54 8 64:=Nw N0 wg W;have Z:∀u∈io ss,u.oneCell'=true:=λu I=>by let⟨p,_,l⟩:=YF.1 I;simp[eU]at l;rcases l with rfl|rfl|rfl|rfl|rfl|rfl|rfl|rfl<;>rfl
 let⟨E,C,l,R,g⟩:=o.bG.cz U Z k wq K3;let⟨G,H,r,s2,b2⟩:=R.ca U (eU s.key++eU s.val) W (λu I=>by simp[eU]at I;rcases I with rfl|rfl|rfl|rfl|rfl|rfl|rfl|rfl<;>rfl) (by grind[maxLen]) wq;let⟨F,c1,S⟩:=dt R.hd;let⟨N,c2,z⟩:=dt s2.hd;let⟨v3,D,r3,X,b3⟩:=s2.cn U Z k wq wq K3;let⟨a3,c3,T⟩:=dt X.hd;let⟨f,A⟩:=X.bG.set 9 v3;have J:=g.trans<|b2.trans b3;refine⟨E,C,G,H,v3,D,l,r,r3,⟨_,_,_,T⟩,⟨_,_,S⟩,⟨_,_,z⟩,R.tl.tl.hd,s2.tl.tl.tl.hd,X.tl.tl.hd,sls,?_,j.trans<|J.trans A⟩;have m:(ss.take q++(s.key,s.val)::ss.drop q).length=q+1+(ss.length-q):=K9
 rw[m,<-SE ss q];exact f.bG.tl
theorem SlI.put{x:WD}{Y:Nat}{P:RW}{V:DV}{L:List AcE}{ov:VL}{pb ab:Nat}{p:Pur}{ss:List<|Nat×Nat}{slv:VL}{wr:WD}(h:SlI x Y P V L ov pb ab p ss slv wr)(q:Nat)(hq:q<=L.length)(hl:L.length<=900000000):∃H E I J v3 y3,(Builtin.append_ #[35,35] 35 #[dL,zbB ov q]).run prog wr=.ok H E/\(Builtin.append_ #[35,35] 35 #[H,sL E.heap.size 1 1]).run prog (E.alloc<|.cells (jL p.aj p.mo p.ae slv).toArray 34)=.ok I J/\(Builtin.append_ #[35,35] 35 #[I,nS ov q 10]).run prog J=.ok v3 y3/\(∃a n c,v3=.slice a n c)/\(∃a c,H=.slice a q c)/\(∃a c,I=.slice a (q+1) c)/\rowL E ab 34 (jL p.aj p.mo p.ae slv)/\OutI x Y P V (L.take q++⟨p.aj,p.mo,p.ae,ss⟩::L.drop q) v3 y3:=by
 obtain⟨sls,j,h2⟩:=h;have X:CF 35 34 10 104:=Nw (z:=.agg #[iU 0,iU 0,iU 0,iU 0,iU 0,iU 0,iU 0,iU 0,.string ⟨#[]⟩,dL]) N0 N0 N0;have F:=j.tl.tl.tl.tl.hd;obtain⟨aq,cq,eq⟩:=dt j.tl.hd;have S:∀(a:Nat)(b:Nat)(c:BA)(s:VL),s.oneCell'=true->∀u∈jL a b c s,u.oneCell'=true:=λa b c s v u D=>by simp[jL]at D;rcases D with rfl|rfl|rfl|rfl|rfl|rfl|rfl|rfl|rfl|rfl<;>first|rfl|exact v
 have T:∀u∈rD L _,u.oneCell'=true:=λu D=>by rw[yx]at D;obtain⟨⟨a,s⟩,hp,D⟩:=YF.1 D;refine S _ _ _ _ ?_ u D;obtain⟨i,hi,e⟩:=XU hp;rw[List.getElem_zip]at e;injection e with U Z;rw[List.length_zip]at hi;obtain⟨a3,c3,o⟩:=dt (F.sl i a s (by rw[<-U];exact iN wq) (by rw[<-Z];exact iN wq));rw[o];rfl
 obtain⟨H,E,r1,f,b1⟩:=j.up4.cz X T hq wq K3;obtain⟨I,J,r2,s2,b2⟩:=f.ca X (jL p.aj p.mo p.ae slv) W (S _ _ _ _ (by rw[eq];rfl)) (by unfold maxLen;omega) wq;obtain⟨a1,c1,U⟩:=dt f.hd;obtain⟨a2,c2,Z⟩:=dt s2.hd;obtain⟨v3,y3,r3,g,b3⟩:=s2.cn X T hq wq wq K3;obtain⟨a3,c3,o⟩:=dt g.hd;have R:=b1.trans<|b2.trans b3;refine⟨H,E,I,J,v3,y3,r1,r2,r3,⟨_,_,_,o⟩,⟨_,_,U⟩,⟨_,_,Z⟩,f.tl.tl.hd,sls.take q++slv::sls.drop q,?_,h2.trans R⟩;have A:(L.take q++(⟨p.aj,p.mo,p.ae,ss⟩)::L.drop q).length=q+1+(L.length-q):=by rw[Xm,X2,XB,X8];omega
 rw[A,<-Rm L F.len q];have s4:=g.sw.tl.cD.bh<|List.Perm.refl _;have G:Sep _ ([fp 54 8 _ _ _,LK L _]++[fp 34 10 v3 _ _,rRd Y P V]) y3:=g.sw.tl.bG.tl.sw.bG.sw;have l:=G.step (q':=[LK _<|sls.take q++slv::sls.drop q]) (λr hr=>by
  cases BY.1 hr;refine⟨by rw[A,Xm,X2,XB,X8,G.tl.hd.len];omega,λi a s C v=>?_⟩;have hl:=G.tl.hd.len;by_cases hi:i<q
  .rw[Xv (by rw[XB];omega),ZT,At hi]at C v;exact G.tl.hd.sl i a s C v
  .rw[Xx (by rw[XB];omega),XB,Zg wq]at C v;by_cases N:i=q
   .rw[N,Nat.sub_self]at C v;injection C with C;injection v with v;subst C v;exact G.hd
   obtain⟨m,hm⟩:∃m,i-q=m+1:=⟨i-q-1,wq⟩
   rw[hm,List.getElem?_cons_succ,List.getElem?_drop]at C v;exact G.tl.hd.sl _ a s C v) (XO _ _) (DO _) (λ_ _ _=>W) (λr hr k w=>by
  cases BY.1 hr;obtain⟨s,v,w⟩:=w;rcases Xr.1 v with v|v
  .exact LZ ⟨_,IN _ Xz,s,YY v,w⟩
  rcases IF.1 v with rfl|v
  .exact LZ ⟨_,Xz,w⟩
  exact LZ ⟨_,IN _ Xz,s,List.mem_of_mem_drop v,w⟩)
 exact l.sw
section
variable {s:Act}
def PU{G:Vr}(E:tG s t<|iI (a:Int))(D:tG s u<|iI (b:Int))(h:a<b)(C:K (Wb s d<|.bool true) x):Oper.wp prog ⟨some d,.binOp .lss 3 (.tmp t) (.tmp u) 3,G,pos,af,gd⟩ s x K Q:=by go_simp;exact C
end
theorem Cc{α:Type}{lt:α->Bool}{x:α}:∀(l:List α),(nA lt x l).length=l.length+1
 |[]=>rfl
 |a::l=>by
  unfold nA;split
  .rw[X2,Cc l];rfl
  rfl
theorem Hv(a:Nat):∀(l:List Slt)(D:List<|Nat×Nat),(l.foldl (Hn a) D).length<=D.length+l.length
 |[],D=>DO _
 |s::l,D=>by
  have h:=Hv a l<|Hn a D s;have C:(Hn a D s).length<=D.length+1:=by
   unfold Hn;split
   .omega
   rw[Cc];omega
  grind
theorem IY(P:RW):∀(l:List Pur)(D:List AcE),(l.foldl (CD P) D).length<=D.length+l.length
 |[],D=>DO _
 |s::l,D=>by
  have h:=IY P l<|CD P D s;have C:(CD P D s).length<=D.length+1:=by
   unfold CD;split
   .omega
   rw[Cc];omega
  grind
theorem GK:∀(l:List Slt)(P:RW),(nW P l).sl=P.sl
 |[],P=>rfl
 |s::l,P=>(GK l _).trans (kK s.aj P).1
theorem G7:∀(l:List Slt)(P:RW),(nW P l).pu.length<=P.pu.length+l.length
 |[],P=>DO _
 |s::l,P=>by have C:=G7 l (ag s.aj P).2;grind[nW,ag]
def PZ{l:List Slt}{s:Slt}{P:RW}:nW P (l++[s])=(ag s.aj<|nW P l).2:=by grind[nW]
theorem wV(c:BA):∀(n i:Nat)(r:Vf),c.size-i=n->r.length<=(ByteArray.toList.loop c i r).length
 |0,i,r,h=>by grind[ByteArray.toList.loop]
 |n+1,i,r,h=>by unfold ByteArray.toList.loop;rw[AV];exact By (ZN _)<|wV c n _ (c.get! i::r) wq
def zJ{c:BA}:c.toList=[]↔c.size=0:=by
 unfold ByteArray.toList;constructor
 .intro h;apply YA;intro C;unfold ByteArray.toList.loop at h;rw[AV]at h;have:=wV c _ 1 (c.get! 0::[]) W;rw[h]at this;exact absurd this K2
 grind[ByteArray.toList.loop]
def Ci{sl:List Slt}{x:WD}(h:Sep O (iK hb pu sl pv lv::rs) x)(m2:pu.length<=400000000)(c0:sl.length<=400000000):cP 44 #[pt hb] x λe y=>∃v,e=.returned v/\AcIn y v (uJ ⟨pu,sl,[]⟩)/\bW x y:=by
 obtain⟨P,HP⟩:∃P:RW,Hd (P=⟨pu,sl,[]⟩):=⟨_,W⟩
 rw[<-HP.aa];let⟨W9,i7⟩:=dP<|uJ P;rw[<-i7.aa];have hP1:P.pu.length<=400000000:=by rw[HP.aa];exact m2
 have n4:P.sl.length<=400000000:=by rw[HP.aa];exact c0
 have l6:Hd (DP 0 P ⟨pv,lv,dL,[]⟩ x):=by rw[HP.aa];exact⟨h.hd.pu,h.hd.sl,Xy _ _ _ _,W,λi l t hl=>by cases hl⟩
 have l7:=cV (yN l6 wq wq (by rw[HP.aa];exact In _));have r0:=rowL.cell (i:=0) h.hd.row W;have r1:=rowL.cell (i:=1) h.hd.row W;have r2:=rowL.cell (i:=2) h.hd.row W;have m6:Hd (∀(V':DV)(y2:WD),PW x.heap.size P V' y2->bW x y2->(∃a1 n1 c1 a2 n2 c2 a3 n3 c3,V'.pv=.slice a1 n1 c1/\V'.lv=.slice a2 n2 c2/\V'.gv=.slice a3 n3 c3)/\WQ x.heap.size y2.heap.size P [] (y2.alloc<|.cells _ 146)):=λV' y2 hp e4=>by have m0:bW y2 (y2.alloc<|.cells #[V'.pv,V'.lv,V'.gv] 146):=ai (dO _ y2) _;have hw:=hp y2.heap.size _ (rowL.al y2 _ _) m0 e4.size;let⟨a1,c1,e1⟩:=dt hw.pu;let⟨a2,c2,e2⟩:=dt hw.sl;let⟨a3,c3,e3⟩:=dt hw.lg;exact⟨⟨_,_,_,_,_,_,_,_,_,e1,e2,e3⟩,V',hw,λp hp=>(by cases hp),qac,By e4.size m0.size⟩
 clear h l6 m2 c0;go_enter func44,ntmps44;go_upto_region 2 with(first|(go_at_call 68;refine l7.mono ?_;rintro e y2⟨⟨v1,v2,v3,tv⟩,rfl, -,m3,e4⟩;obtain⟨⟨a1,n1,c1,a2,n2,c2,a3,n3,c3,rfl,rfl,rfl⟩,HW⟩:=m6.aa _ _ m3 e4)|fail);let⟨y3,i5⟩:=hJ<|y2.alloc<|.cells #[.slice a1 n1 c1,.slice a2 n2 c2,.slice a3 n3 c3] 146;let⟨Y,j3⟩:=hJ y2.heap.size;have m4:Hd (bW x y3):=by rw[i5];exact ai e4 _
 have m5:Hd (WQ x.heap.size Y P [] y3):=by rw[i5,j3];exact HW
 rw[<-i5,<-j3];clear i5 j3 m3 e4 HW m6 l7 r0 r1 r2 HP;let⟨N,HN⟩:=dP P.sl.length;go_wp2;go_loopw[4] (λt4 wr=>∃i:Nat,i<=N/\t4=iI (i:Int)/\Hd (WQ x.heap.size Y (nW P<|P.sl.take i) [] wr/\bW x wr)) (λt4 _=>N-nI t4);case atStart=>exact⟨0,In _,W,m5,m4⟩
 clear m5 m4;obtain⟨i,hi,rfl,HI⟩:=hrel;let⟨f1,i1⟩:=HI.aa;have m7:=f1;obtain⟨V,hdw, -, -, -⟩:=m7;have c0:=hdw.sl;rw[GK]at c0;let⟨a5,p5,e5⟩:=dt c0;rw[<-HN.aa]at e5;have r1:=rowL.cell (i:=1) hdw.row W;rw[e5]at r1 c0;by_cases j2:i<N;case pos=>
  have d5:i<P.sl.length:=by rw[<-HN.aa];exact j2
  obtain⟨hne,g5,rfl,hg5,I, -⟩:=fH (fO c0<|In _) i d5;obtain⟨n,f0⟩:∃n:Nat,Hd (n=P.sl[i].aj):=⟨P.sl[i].aj,cV W⟩
  have b6:∀j u,j<13->(oj P.sl[i])[j]?=some u->wr.cell? _=some u:=λj u F hu=>I j u F<|(oW (f:=oj) (λ_=>W) P.sl i d5 j F).trans hu;have s0:cL wr g5 (i*13) (iU<|cX n 0):=b6 0 _ wq (by rw[f0.aa];rfl);have s1:wr.cell? _=some (iU<|cX n 1):=b6 1 _ wq (by rw[f0.aa];rfl);have s2:wr.cell? _=some (iU<|cX n 2):=b6 2 _ wq (by rw[f0.aa];rfl);have s3:wr.cell? _=some (iU<|cX n 3):=b6 3 _ wq (by rw[f0.aa];rfl);have l4:=G7 (P.sl.take i) P;have htk:(P.sl.take i).length<=P.sl.length:=Q1
  have l5:=cV<|qE n f1;have d9:Hd ((ag n<|nW P<|P.sl.take i).2=nW P (P.sl.take<|i+1)):=by show _=_;rw[Yy,iN d5,f0.aa];exact(PZ).symm
  have HBW:=cV i1;rw[d9.aa]at l5;clear b6 I c0 hdw f1 hne hg5 HI l4 i1 f0 d9;go_wp2_with(go_at_call 70;refine l5.mono ?_;rintro e y⟨rfl,k1,k2⟩);exact⟨⟨i+1,wq,N1,k1,HBW.trans k2⟩,by simp[nI];omega⟩
 rw[XA (by rw[<-HN.aa];omega)]at f1;let⟨V,f2⟩:=f1.rd;let⟨D,h4⟩:=dP<|nW P P.sl;rw[<-h4.aa]at f2;have HWR:Hd (W9=D.pu.foldl (CD D) []):=by rw[h4.aa];exact i7
 have l0:Hd (D.sl.length=N):=by rw[h4.aa,HN.aa];exact Xl _<|GK P.sl P
 have hnp:D.pu.length<=800000000:=by rw[h4.aa];have:=G7 P.sl P;omega
 have hN:N<=400000000:=by rw[HN.aa];exact n4
 let⟨NP,f8⟩:=dP D.pu.length;rw[<-f8.aa]at hnp;let⟨a6,p6,e6⟩:=dt f2.tl.tl.hd.pu;let⟨a7,p7,e7⟩:=dt f2.tl.tl.hd.sl;rw[<-f8.aa]at e6;rw[l0.aa]at e7;have HO:Hd (OutI x Y D V [] dL wr):=⟨[],f2,i1⟩
 clear c0 hdw f1 HI i1 f2 h4 HN hP1 n4 i7;go_wp2;go_loopw[5,6] (λt5 t6 wr=>∃i:Nat,i<=NP/\t6=iI (i:Int)/\Hd (OutI x Y D V ((D.pu.take i).foldl (CD D) []) t5 wr)) (λ_ t6 _=>NP-nI t6);case atStart=>exact⟨0,In _,W,HO⟩
 clear HO;obtain⟨i,hi,rfl,HO⟩:=hrel;let⟨sls,C,R⟩:=HO.aa;have r0:=rowL.cell (i:=0) C.tl.tl.hd.row W;rw[e6]at r0;by_cases j2:i<NP;case neg=>
  rw[XA (by rw[<-f8.aa];omega)]at HO;have HE:Hd (AcIn wr u5 W9/\bW x wr):=by rw[HWR.aa];let⟨sls,h1,h2⟩:=HO.aa;exact⟨AcOwn.is (O:=0) ⟨sls,h1.tl.hd.len,h1.hd,h1.tl.hd.sl⟩,h2⟩
  clear HO C R;go_wp2;go_ret;exact⟨_,W,HE⟩
 have d5:i<D.pu.length:=by rw[<-f8.aa];exact j2
 obtain⟨p,k7⟩:∃p,Hd (p=D.pu[i]):=⟨D.pu[i],cV W⟩
 have f3:Hd (∀z,CD D _ p=z->(D.pu.take<|i+1).foldl (CD D) []=z):=λz hz=>by rw[Yy,iN d5,List.foldl_append,<-k7.aa];exact hz
 have d8:=C.tl.tl.hd.pu;rw[e6]at d8;obtain⟨-,g6,rfl,hg6,I, -⟩:=fH d8 i d5;have b6:∀j u,j<9->(qX p)[j]?=some u->wr.cell? _=some u:=λj u F hu=>I j u F ((oW (f:=qX) (λ_=>W) D.pu i d5 j F).trans (by rw[<-k7.aa];exact hu));let⟨pa,H,pc⟩:=p;have h7:=AE b6;simp only[A3,A0,oj,qX,wl,XN,XG,Nat.reduceAdd]at h7;let⟨L,HL⟩:=dP<|(D.pu.take i).foldl (CD D) [];rw[<-HL.aa]at HO f3;clear b6 I d8 hg6 k7 d5 C R;have J:=cV<|HO.aw ⟨pa,H,pc⟩;let⟨y4,i8⟩:=hJ<|(wr.alloc<|.cells #[iU<|cX pa 0,iU<|cX pa 1,iU<|cX pa 2,iU<|cX pa 3,iU<|cX H 0,iU<|cX H 1,iU<|cX H 2,iU<|cX H 3,.string pc] 150).alloc<|.cells #[iU<|cX pa 0,iU<|cX pa 1,iU<|cX pa 2,iU<|cX pa 3,iU<|cX H 0,iU<|cX H 1,iU<|cX H 2,iU<|cX H 3,.string pc,.slice none 0 0] 34;replace J:Hd (SlI x Y D V L u5 wr.heap.size (wr.heap.size+1) ⟨pa,H,pc⟩ [] dL y4):=by rwa[i8]
 let⟨pb,i6⟩:=hJ wr.heap.size;let⟨ab,k9⟩:=hJ<|wr.heap.size+1;rw[<-k9,<-i6]at J;go_upto_region 12 with fail
 rw[<-i8,<-k9,<-i6];clear i8 k9 i6 HO h7 r0;go_wp2;go_loopw[9] (λt9 wr=>∃k:Nat,k<=N/\t9=iI (k:Int)/\∃slv,Hd<|SlI x Y D V L u5 pb ab ⟨pa,H,pc⟩ ((D.sl.take k).foldl (Hn pa) []) slv wr) (λt9 _=>N-nI t9);case atStart=>exact⟨0,In _,W,dL,J⟩
 clear J;obtain⟨k,hk,rfl,slv,J⟩:=hrel;let⟨sls,C,R⟩:=J.aa;have i3:=C.tl.tl.tl.tl.tl.hd;have r1:=rowL.cell (i:=1) i3.row W;rw[e7]at r1;by_cases hkt:k<N;case neg=>
  rw[XA (by rw[l0.aa];omega)]at J;clear i3 C R;go_upto_region 25 with fail
  clear r1;let⟨ss,d0⟩:=dP<|EP D.sl pa;rw[show D.sl.foldl (Hn pa) []=ss from d0.aa.symm]at J;let⟨z9,j9⟩:=dP<|decide (H%M=0);have g4:Hd (∀x,cP 67 #[wv H] x λe y=>e=.returned (.bool z9)/\bW x y):=by rw[j9.aa];exact je H
  let⟨sls,C,R⟩:=J.aa;have v0:=rowL.cell (i:=4) C.hd W;have v1:=rowL.cell (i:=5) C.hd W;have v2:=rowL.cell (i:=6) C.hd W;have v3:=rowL.cell (i:=7) C.hd W;clear C R;go_upto_region 26 with(first|(go_at_call 67;refine(g4.aa _).mono ?_;rintro e y6⟨rfl,g3⟩)|fail);have o:=cV<|J.bel g3;clear g3 v0 v1 v2 v3 g4 J;let⟨sls,C,R⟩:=o.aa;let⟨a8,c8,e8⟩:=dt C.tl.hd;let⟨m8,S⟩:=dP ss.length;rw[<-S.aa]at e8;have r8:=rowL.cell (i:=8) C.hd W;have r9:=rowL.cell (i:=9) C.hd W;rw[e8]at r9;let⟨b9,d7⟩:=dP<|decide (pc.size=0);have e0:if b9=true then pc.toList=[]else¬pc.toList=[]:=by
   rw[d7.aa];by_cases h0:pc.size=0
   .rw[OsQ h0,At W];exact zJ.2 h0
   rw[W8 h0];exact λh=>h0<|zJ.1 h
  have n5:decide (((m8:Nat):Int)=0)=decide (m8=0):=Yp.2 wq;have i0:Hd (CD D L ⟨pa,H,pc⟩=if (z9&&b9&&decide (m8=0))=true then L else nA (λq=>iX q.aj pa) ⟨pa,H,pc,ss⟩ L):=by
   show CD _ _ _=_;have g1:Dd D ⟨pa,H,pc⟩↔(z9&&b9&&decide (m8=0))=true:=by rw[j9.aa,d7.aa,S.aa];unfold Dd;rw[d0.aa.symm];simp[and_assoc]
   unfold CD;by_cases hq:Dd D ⟨pa,H,pc⟩
   .rw[At hq,At<|g1.1 hq]
   rw[iF hq,iF λh=>hq<|g1.2 h,d0.aa];rfl
  clear C R j9 d7 d0;have dn:(z9=true/\b9=true/\m8=0)\/(z9&&b9&&decide (m8=0))=false:=by
   cases z9<;>cases b9<;>simp
   by_cases h0:m8=0
   .exact LZ h0
   exact A4 h0
  rcases dn with⟨rfl,rfl,rfl⟩|dn
  .have HE:Hd (OutI x Y D V ((D.pu.take<|i+1).foldl (CD D) []) u5 y6):=by rw[f3.aa L (by rw[i0.aa];rfl)];let⟨sls,C,R⟩:=o.aa;exact⟨sls,C.tl.tl.tl,R⟩
   clear o i0 f3;simp only[qad]at e0;go_wp2;go_roundw;case rel=>exact⟨i+1,wq,N1,HE⟩
   simp[nI];omega
  have d1:Hd (∀y v,OutI x Y D V _ v y->OutI x Y D V ((D.pu.take<|i+1).foldl (CD D) []) v y):=λy v h=>by rw[f3.aa _<|i0.trans<|iF (by rw[dn];exact YX)];exact h
  clear i0 f3;go_cut[135] (λn0 wx=>n0=.bool false/\Hd (SlI x Y D V L u5 pb ab ⟨pa,H,pc⟩ ss slv wx));case first=>
   have j6:z9=false\/(z9=true/\b9=false)\/(z9=true/\b9=true/\decide (((m8:Nat):Int)=0)=false):=by rw[n5];revert dn;cases z9<;>cases b9<;>simp
   clear dn d1;rcases j6 with rfl|⟨rfl,rfl⟩|⟨rfl,rfl,hm0⟩
   .go_wp2;go_meet;case rel=>exact⟨W,o⟩
   .simp only[Bool.false_eq_true,Zw]at e0;go_wp2;go_meet;case rel=>exact⟨W,o⟩
   simp only[qad]at e0;have hm1:((m8:Int)==0)=false:=by simpa using hm0
   go_wp2;go_meet;case rel=>exact⟨W,o⟩
  obtain⟨rfl,HY⟩:=hcut;clear o e0 n5 dn r8 r9 S;let⟨sls,C,R⟩:=HY.aa;let⟨a9,c9,e9⟩:=dt C.tl.tl.tl.hd;let⟨m9,d4⟩:=dP L.length;rw[<-d4.aa]at e9;have hm9:m9<=800000000:=by rw[d4.aa,HL.aa];have T:=IY D (D.pu.take i) [];rw[XB,Y5,<-f8.aa]at T;omega
  subst e9;clear C R HL;go_wp2;go_loopw[15] (λj7 wr=>∃q:Nat,q<=m9/\j7=iI (q:Int)/\Hd (SlI x Y D V L (.slice a9 m9 c9) pb ab ⟨pa,H,pc⟩ ss slv wr/\∀(j:Nat) p,j<q->L[j]?=some p->iX p.aj pa=true)) (λj7 _=>m9-nI j7);case atStart=>exact⟨0,In _,W,HY,λj p F=>absurd F wq⟩
  clear HY;obtain⟨q,hq,rfl,HQ⟩:=hrel;let⟨k8,a0⟩:=dP<|(L.getD q ⟨0,0,⟨#[]⟩,[]⟩).aj;let⟨b,Z⟩:=dP<|(decide (q<m9)&&iX k8 pa);go_upto_region 28 with fail
  go_cut[149] (λl8 wx=>l8=.bool b/\Hd (SlI x Y D V L (.slice a9 m9 c9) pb ab ⟨pa,H,pc⟩ ss slv wx));case first=>
   by_cases a4:q<m9;case neg=>
    have e:b=false:=by rw[Z.aa,W8 a4];rfl
    go_quiet (fail);go_wp2;go_meet;case rel=>exact⟨by rw[e],HQ.1.bel<|A2 (dO _ _) _⟩
   have e:b=iX k8 pa:=by rw[Z.aa,OsQ a4];simp
   have c:q<L.length:=by rw[<-d4.aa];exact a4
   have f4:Hd (∃g9,a9=some ⟨g9,0,none⟩/\∀y,SlI x Y D V L (.slice a9 m9 c9) pb ab ⟨pa,H,pc⟩ ss slv y->Wd y g9 (q*10) k8/\Wd y ab 0 pa):=by
    obtain⟨sls,C, -⟩:=HQ.aa.1;obtain⟨-,g9,rfl, -, -, -⟩:=fH C.tl.tl.tl.hd q c;refine⟨g9,W,λy hy=>?_⟩;obtain⟨sls,C, -⟩:=hy;obtain⟨-,g10,k3, -,I, -⟩:=fH C.tl.tl.tl.hd q c;obtain rfl:g9=g10:=by injection k3 with k3;injection k3
    have hls:=C.tl.tl.tl.tl.hd.len;have hzl:q<(L.zip sls).length:=by rw[List.length_zip];omega
    have hg:∀j,j<4->(rD L sls)[q*10+j]?=some (iU<|cX k8 j):=λj F=>by
     rw[yx];refine(oW (f:=λp:AcE×VL=>jL p.1.aj p.1.ai p.1.ae p.2) (λ_=>W) (L.zip sls) q hzl j wq).trans ?_;rw[List.getElem_zip,a0.aa,gE L _ c];match j,F with
     |0,_=>rfl
     |1,_=>rfl
     |2,_=>rfl
     |3,_=>rfl
    have t1:=C.hd;exact⟨⟨I 0 _ wq<|hg 0 wq,I 1 _ wq<|hg 1 wq,I 2 _ wq<|hg 2 wq,I 3 _ wq<|hg 3 wq⟩,rowL.cell (i:=0) t1 W,rowL.cell (i:=1) t1 W,rowL.cell (i:=2) t1 W,rowL.cell (i:=3) t1 W⟩
   obtain⟨g9,rfl,F⟩:=f4.aa;have HJ:Hd (SlI x Y D V L _ pb ab ⟨pa,H,pc⟩ ss slv wr):=HQ.aa.1;have l3:Hd (Bc λy=>SlI x Y D V L (sL g9 m9 c9) pb ab ⟨pa,H,pc⟩ ss slv y):=λy z h hb=>h.bel hb;have d6:=cV F;clear HQ f4 F a0 Z d1;refine Gs [(5,(.slice _ m9 c9)),(8,(pt ab)),(15,(iI (q:Int)))] (nV 136 [_,sL g9 m9 c9,_,.bool true,.bool true,sL g9 m9 c9,_,_,_,wv k8,pt ab,wv pa,.bool<|iX k8 pa,.bool<|iX k8 pa]) [3,7,9,11,12] W l3 HJ ⟨(js λs x hs K hK=>PU (hs 136 _ W) (hs 138 _ W) a4 hK),(js λs x hs K hK=>mA 10 (hs 141 _ W) (hs 142 _ W) a4 hK),(jw W λx hx=>(d6 x hx).1),(jw W λx hx=>(d6 x hx).2),(jl W λx _=>jz k8 pa x),AF⟩ λx hx=>?_;simp only[n8,sx9];have HY:=cV hx;go_wp2;go_meet;case rel=>exact⟨by rw[e],HY⟩
  obtain⟨rfl,HY⟩:=hcut;cases hb:b with
  |true=>
   have h3:Hd (q<m9/\∀(j:Nat) p,j<q+1->L[j]?=some p->iX p.aj pa=true):=by
    have T:=Z.aa;rw[hb]at T;let⟨h5,h6⟩:=(Xo _ _).mp T.symm;refine⟨Xd h5,λj p F hp=>?_⟩;by_cases ej:j=q
    .subst ej;rw[a0.aa,If,hp]at h6;exact h6
    exact HQ.2 j p wq hp
   have j1:=h3.aa.1;clear HQ Z hb d1;go_wp2;go_roundw;case rel=>exact⟨q+1,wq,N1,HY,h3.2⟩
   simp[nI];omega
  |false=>
   have l9:Hd (nA (λp=>iX p.aj pa) ⟨pa,H,pc,ss⟩ L=L.take q++⟨pa,H,pc,ss⟩::L.drop q):=by refine Gl (λj p F hp=>HQ.2 j p F hp) (λp hp=>?_) (by rw[<-d4.aa];exact hq);have T:=Z.aa;rw[hb]at T;have c:=(Do.1 hp).1;rw[OsQ (show q<m9 by rw[d4.aa];exact c),YG,a0.aa,If,hp]at T;exact T.symm
   clear HQ Z hb a0;obtain⟨v1,y1,v2,y2,v3,y3,A,m,G,⟨a12,n12,c12,rfl⟩,⟨f5,f6,rfl⟩,⟨j4,l1,rfl⟩,b7,HE⟩:=HY.aa.put q (by rw[<-d4.aa];exact hq) (by rw[<-d4.aa];omega);rw[l9.aa.symm]at HE;replace HE:=cV<|d1 _ _ HE;let⟨sls,C,R⟩:=HY.aa;have b8:=C.tl.tl.tl.hd;let⟨a8,c8,e8⟩:=dt C.tl.hd;let⟨m8,S⟩:=dP ss.length;rw[<-S.aa]at e8;rw[e8]at b7 m;replace b7:=cV b7;replace m:=cV m;clear HY d1 l9 C R S;have dn:(a9=none/\m9=0/\c9=0)\/∃g9,a9=some ⟨g9,0,none⟩/\m9<=c9:=by
    rcases b8.2 with⟨e1,_⟩|⟨g,E,cur,e1,_,_,T,_⟩
    .injection e1 with e1 e2 e3;exact LZ ⟨e1,e2,e3⟩
    injection e1 with e1 e2 e3;exact A4 ⟨g,e1,by rw[d4.aa,e3];exact T⟩
   clear b8;replace m:Hd ((Builtin.append_ #[35,35] 35 _).run prog (y1.alloc<|.cells #[iU<|cX pa 0,iU<|cX pa 1,iU<|cX pa 2,iU<|cX pa 3,iU<|cX H 0,iU<|cX H 1,iU<|cX H 2,iU<|cX H 3,.string pc,.slice a8 m8 c8] 34)=.ok _ y2):=m;rcases dn with⟨rfl,rfl,rfl⟩|⟨g9,rfl,hmc⟩;case' inl=>
    obtain rfl:q=0:=wq
    replace A:Hd ((Builtin.append_ #[35,35] 35 #[.slice none 0 0,.slice none 0 0]).run prog wc=.ok (.slice f5 0 f6) y1):=A;replace G:Hd ((Builtin.append_ #[35,35] 35 #[.slice j4 (0+1) l1,.slice none 0 0]).run prog y2=.ok _ y3):=G;simp only[XF,show((0:Nat):Int)=0 from W]at*
   case' inr=>
    replace A:Hd ((Builtin.append_ #[35,35] 35 #[.slice none 0 0,.slice _ q c9]).run prog wc=.ok (.slice f5 q f6) y1):=A;have hqc:(q:Int)<=(c9:Int):=wq
    have j1:(q:Int)<=(m9:Int):=wq
    have hq0:(0:Int)<=(q:Int):=wq
    by_cases g0:c9=q;case' pos=>
     obtain rfl:q=c9:=g0.symm;obtain rfl:q=m9:=wq
     have e9:nS (sL g9 q q) q 10=sL g9 0 0:=by unfold nS;simp
     rw[e9]at G;replace G:=cV G
    case' neg=>
     have e9:nS (sL g9 m9 c9) q 10=.slice (some ⟨g9,q*10,none⟩) (m9-q) (c9-q):=by unfold nS;dsimp only;rw[iF g0];simp[Addr.add,qag]
     rw[e9]at G;replace G:=cV G
   all_goals
    go_upto_region 32 with(first|(at_builtin;refine Lib.wpList_append_run _ rfl _ _ _ _ rfl _ _ rfl rfl _ _ A ?_)|fail);have bb:=b7.aa.cs;simp only[oI,jL,Nat.reduceAdd]at bb;go_upto_region 33 with(first|(at_builtin;refine Lib.wpList_append_run _ rfl _ _ _ _ rfl _ _ rfl rfl _ _ m ?_)|fail);clear bb A m b7;go_wp2_with(first|(at_builtin;refine Lib.wpList_append_run _ rfl _ _ _ _ rfl _ _ rfl rfl _ _ G ?_)|fail);go_roundw;case rel=>exact⟨i+1,wq,N1,HE⟩
    simp[nI];omega
 have i4:k<D.sl.length:=by rw[l0.aa];exact hkt
 obtain⟨s,l2⟩:∃s,Hd (s=D.sl[k]):=⟨D.sl[k],cV W⟩
 let⟨ss,d0⟩:=dP<|(D.sl.take k).foldl (Hn pa) [];have d9:Hd ((D.sl.take<|k+1).foldl (Hn pa) []=Hn pa ss s):=by show _=_;rw[Yy,iN i4,List.foldl_append,d0.aa,l2.aa];rfl
 have hss:ss.length<=400000000:=by rw[d0.aa];have T:=Hv pa (D.sl.take k) [];rw[XB,Y5]at T;omega
 rw[<-d0.aa]at J C;have d8:=i3.sl;rw[e7]at d8;obtain⟨-,g7,rfl,hg7,I, -⟩:=fH d8 k i4;have b6:∀j u,j<13->(oj s)[j]?=some u->wr.cell? _=some u:=λj u F hu=>I j u F ((oW (f:=oj) (λ_=>W) D.sl k i4 j F).trans (by rw[<-l2.aa];exact hu));let⟨n,sk,X,U⟩:=s;have h7:=AE b6;simp only[A3,A0,oj,qX,wl,XN,XG,Nat.reduceAdd]at h7;have m1:=J.aa.aK ⟨n,sk,X,U⟩;clear b6 I d8 hg7 i4 i3 C R l2 d0;let⟨y5,j0⟩:=hJ<|wr.alloc<|.cells #[iU<|cX n 0,iU<|cX n 1,iU<|cX n 2,iU<|cX n 3,iU<|cX sk 0,iU<|cX sk 1,iU<|cX sk 2,iU<|cX sk 3,iU<|cX X 0,iU<|cX X 1,iU<|cX X 2,iU<|cX X 3,.bool U] 152;let⟨sb,j8⟩:=hJ wr.heap.size;have j5:Hd (SsI x Y D V L u5 pb ab sb ⟨pa,H,pc⟩ ⟨n,sk,X,U⟩ ss slv y5):=by rw[j0,j8];exact m1
 go_upto_region 16 with fail
 rw[<-j0,<-j8];clear j0 j8 m1 h7 r1 J;let⟨z8,i9⟩:=dP<|decide (X%M=0);have g4:Hd (∀x,cP 67 #[wv X] x λe y=>e=.returned (.bool z8)/\bW x y):=by rw[i9.aa];exact je X
 have f9:=j5.aa.r.1;have v0:=f9.cell (i:=8) W;have v1:=f9.cell (i:=9) W;have v2:=f9.cell (i:=10) W;have v3:=f9.cell (i:=11) W;go_upto_region 17 with(first|(go_at_call 67;refine(g4.aa _).mono ?_;rintro e y6⟨rfl,g3⟩)|fail);have o:=cV<|j5.bel g3;clear g3 f9 v0 v1 v2 v3 g4 j5;obtain⟨q1, -,q3, -⟩:=o.aa.r;have b12:=q1.cell (i:=12) W;have b0:=q1.cell (i:=0) W;have b1:=q1.cell (i:=1) W;have b2:=q1.cell (i:=2) W;have b3:=q1.cell (i:=3) W;have p0:=q3.cell (i:=0) W;have p1:=q3.cell (i:=1) W;have p2:=q3.cell (i:=2) W;have p3:=q3.cell (i:=3) W;let⟨b9,d7⟩:=dP<|gN n pa;have e0:∀w,(Op.equalIn 10000 24 (wv n)<|wv pa).run prog w=.ok b9 w:=λw=>by rw[ig,d7.aa]
 have i2:Hd (Hn pa ss ⟨n,sk,X,U⟩=if (U||(z8|| !b9))=true then ss else nA (λq=>iX q.1 sk) (sk,X) ss):=by
  show Hn _ _ _=_;have g1:xJ pa ⟨n,sk,X,U⟩↔(U||(z8|| !b9))=true:=by rw[i9.aa,d7.aa];unfold xJ gN;simp
  unfold Hn;by_cases hq:xJ pa ⟨n,sk,X,U⟩
  .rw[At hq,At<|g1.1 hq]
  rw[iF hq,iF λh=>hq<|g1.2 h]
 clear q1 q3 i9 d7;have dn:(U||(z8|| !b9))=true\/(U=false/\z8=false/\b9=true):=by cases U<;>cases z8<;>cases b9<;>simp
 rcases dn with dn|⟨rfl,rfl,rfl⟩
 .have HX:Hd (∃slv,SlI x Y D V L u5 pb ab ⟨pa,H,pc⟩ ((D.sl.take<|k+1).foldl (Hn pa) []) slv y6):=by rw[d9.aa,i2.aa,At dn];exact⟨slv,o.sl⟩
  clear o i2 d9;have j6:U=true\/(U=false/\z8=true)\/(U=false/\z8=false/\b9=false):=by revert dn;cases U<;>cases z8<;>cases b9<;>simp
  clear dn;rcases j6 with rfl|⟨rfl,rfl⟩|⟨rfl,rfl,rfl⟩;all_goals
   go_wp2;let⟨d3,hx⟩:=HX.aa;exact⟨⟨k+1,wq,N1,d3,hx⟩,by simp[nI];omega⟩
 have HX:Hd (∀d3 y,SlI x Y D V L u5 pb ab ⟨pa,H,pc⟩ (nA _ (sk,X) ss) d3 y->SlI x Y D V L u5 pb ab ⟨pa,H,pc⟩ ((D.sl.take<|k+1).foldl (Hn pa) []) d3 y):=λd3 y h=>by rwa[d9.aa,i2.aa]
 clear i2 d9;go_upto_region 18 with fail
 clear b12 b0 b1 b2 b3 p0 p1 p2 p3 e0;let⟨a8,c8,e8⟩:=dt o.r.2.2.2;let⟨m8,S⟩:=dP ss.length;rw[<-S.aa]at e8 hss;go_wp2;go_loopw[12] (λk5 wr=>∃q:Nat,q<=m8/\k5=iI (q:Int)/\Hd (SsI x Y D V L u5 pb ab sb ⟨pa,H,pc⟩ ⟨n,sk,X,false⟩ ss slv wr/\∀(j:Nat) p,j<q->ss[j]?=some p->iX p.1 sk=true)) (λk5 _=>m8-nI k5);case atStart=>exact⟨0,In _,W,o,λj p F=>absurd F wq⟩
 clear o;obtain⟨q,hq,rfl,HQ⟩:=hrel;let⟨k8,a0⟩:=dP<|(ss.getD q (0,0)).1;let⟨b,Z⟩:=dP<|(decide (q<m8)&&iX k8 sk);have r9:=HQ.aa.1.r.2.1.cell (i:=9) W;rw[e8]at r9;go_upto_region 19 with fail
 go_cut[97] (λt97 wx=>t97=.bool b/\Hd (SsI x Y D V L u5 pb ab sb ⟨pa,H,pc⟩ ⟨n,sk,X,false⟩ ss slv wx));case first=>
  by_cases a4:q<m8;case neg=>
   have e:b=false:=by rw[Z.aa,W8 a4];rfl
   go_quiet (fail);go_wp2;go_meet;case rel=>exact⟨by rw[e],HQ.1.bel<|A2 (dO _ _) _⟩
  have e:b=iX k8 sk:=by rw[Z.aa,OsQ a4];simp
  have c:q<ss.length:=by rw[<-S.aa];exact a4
  have f4:Hd (∃g8,a8=some ⟨g8,0,none⟩/\∀y,SsI x Y D V L u5 pb ab sb ⟨pa,H,pc⟩ ⟨n,sk,X,false⟩ ss slv y->cL y ab 9 slv/\Wd y g8 (q*8) k8/\Wd y sb 4 sk):=by
   obtain⟨-, -, -,ho⟩:=HQ.aa.1.r;rw[e8]at ho;obtain⟨-,g8,rfl, -, -, -⟩:=fH ho q c;refine⟨g8,W,λy hy=>?_⟩;obtain⟨t1,t2, -,t4⟩:=hy.r;rw[e8]at t4;obtain⟨-,g9,e9, -,I, -⟩:=fH t4 q c;obtain rfl:g8=g9:=by injection e9 with e9;injection e9
   have hk:(io ss)[q*8+0]?=some (iU<|cX k8 0)/\(io ss)[q*8+1]?=some (iU<|cX k8 1)/\(io ss)[q*8+2]?=some (iU<|cX k8 2)/\(io ss)[q*8+3]?=some (iU<|cX k8 3):=by have T:=qi ss q ss[q]<|iN c;rw[show ss[q].1=k8 by rw[a0.aa,gE ss (0,0) c]]at T;exact⟨T 0 wq,T 1 wq,T 2 wq,T 3 wq⟩
   exact⟨t2.cell (i:=9) W,⟨I 0 _ wq hk.1,I 1 _ wq hk.2.1,I 2 _ wq hk.2.2.1,I 3 _ wq hk.2.2.2⟩,t1.cell (i:=4) W,t1.cell (i:=5) W,t1.cell (i:=6) W,t1.cell (i:=7) W⟩
  obtain⟨g8,rfl,F⟩:=f4.aa;have HJ:Hd (SsI x Y D V L u5 pb ab sb ⟨pa,H,pc⟩ _ ss slv wr):=HQ.aa.1;have l3:Hd (Bc λy=>SsI x Y D V L u5 pb ab sb ⟨pa,H,pc⟩ ⟨n,sk,X,false⟩ ss slv y):=λy z h hb=>h.bel hb;have d6:=cV F;subst e8;clear HQ r9 f4 F a0 Z HX;refine Gs [(8,(pt ab)),(10,(pt sb)),(12,(iI (q:Int)))] (nV 82 [_,_,_,_,.bool true,.bool true,_,_,_,_,_,wv k8,_,wv sk,.bool<|iX k8 sk,.bool<|iX k8 sk]) [2,4,7,9,11,13,14] W l3 HJ ⟨(jc W λx hx=>(d6 x hx).1),(js λs x hs K hK=>PU (hs 82 _ W) (hs 85 _ W) a4 hK),(jc W λx hx=>(d6 x hx).1),(js λs x hs K hK=>mA 8 (hs 89 _ W) (hs 90 _ W) a4 hK),(jw W λx hx=>(d6 x hx).2.1),(jw W λx hx=>(d6 x hx).2.2),(jl W λx _=>jz k8 sk x),AF⟩ λx hx=>?_;simp only[n8,sx9];have HY:=cV hx;go_wp2;go_meet;case rel=>exact⟨by rw[e],HY⟩
 obtain⟨rfl,HY⟩:=hcut;clear r9;cases hb:b with
 |true=>
  have h3:Hd (q<m8/\∀(j:Nat) p,j<q+1->ss[j]?=some p->iX p.1 sk=true):=by
   have T:=Z.aa;rw[hb]at T;let⟨h5,h6⟩:=(Xo _ _).mp T.symm;refine⟨Xd h5,λj p F hp=>?_⟩;by_cases ej:j=q
   .subst ej;rw[a0.aa,If,hp]at h6;exact h6
   exact HQ.2 j p wq hp
  have j1:=h3.aa.1;clear HQ Z hb HX;go_wp2;go_roundw;case rel=>exact⟨q+1,wq,N1,HY,h3.2⟩
  simp[nI];omega
 |false=>
  have d1:Hd (nA (λp=>iX p.1 sk) (sk,X) ss=ss.take q++(sk,X)::ss.drop q):=by refine Gl (λj p F hp=>HQ.2 j p F hp) (λp hp=>?_) (by rw[<-S.aa];exact hq);have T:=Z.aa;rw[hb]at T;have c:=(Do.1 hp).1;rw[OsQ (show q<m8 by rw[S.aa];exact c),YG,a0.aa,If,hp]at T;exact T.symm
  clear HQ Z hb a0;obtain⟨v1,y1,v2,y2,v3,y3,A,m,G,⟨j4,n11,l1,rfl⟩,⟨a9,c9,rfl⟩,⟨f5,f6,rfl⟩,b7,h8,f7,HE⟩:=HY.aa.ins q (by rw[<-S.aa];exact hq) (by rw[<-S.aa];omega);rw[show(ss.take q++(sk,X)::ss.drop q)=_ from d1.aa.symm]at HE;replace HE:=cV<|HX _ _ HE;have r9:=HY.aa.r.2.1.cell (i:=9) W;have b8:=HY.aa.r.2.2.2;rw[e8]at r9 b8 A G h8 f7;replace b7:=cV b7;replace h8:=cV h8;replace f7:=cV f7;replace m:=cV m;clear HY HX d1;have dn:(a8=none/\m8=0/\c8=0)\/∃g8,a8=some ⟨g8,0,none⟩/\m8<=c8:=by
   rcases b8.2 with⟨e1,_⟩|⟨g,E,cur,e1,_,_,T,_⟩
   .injection e1 with e1 e2 e3;exact LZ ⟨e1,e2,e3⟩
   injection e1 with e1 e2 e3;exact A4 ⟨g,e1,by rw[S.aa,e3];exact T⟩
  clear b8;replace m:Hd ((Builtin.append_ #[32,32] 32 #[.slice a9 q c9,sL y1.heap.size 1 1]).run prog (y1.alloc<|.cells #[iU<|cX sk 0,iU<|cX sk 1,iU<|cX sk 2,iU<|cX sk 3,iU<|cX X 0,iU<|cX X 1,iU<|cX X 2,iU<|cX X 3] 54)=.ok (.slice f5 (q+1) f6) y2):=m;rcases dn with⟨rfl,rfl,rfl⟩|⟨g8,rfl,hmc⟩;case' inl=>
   obtain rfl:q=0:=wq
   replace A:Hd ((Builtin.append_ #[32,32] 32 #[.slice none 0 0,.slice none 0 0]).run prog wc=.ok (.slice a9 0 c9) y1):=A;replace G:Hd ((Builtin.append_ #[32,32] 32 #[.slice f5 (0+1) f6,.slice none 0 0]).run prog y2=.ok (.slice j4 n11 l1) y3):=G;simp only[XF,show((0:Nat):Int)=0 from W]at*
  case' inr=>
   replace A:Hd ((Builtin.append_ #[32,32] 32 #[.slice none 0 0,sL g8 q c8]).run prog wc=.ok (.slice a9 q c9) y1):=A;have hqc:(q:Int)<=(c8:Int):=wq
   have j1:(q:Int)<=(m8:Int):=wq
   have hq0:(0:Int)<=(q:Int):=wq
   by_cases g0:c8=q;case' pos=>
    obtain rfl:q=c8:=g0.symm;obtain rfl:q=m8:=wq
    have e9:nS (sL g8 q q) q 8=sL g8 0 0:=by unfold nS;simp
    rw[e9]at G;replace G:=cV G
   case' neg=>
    have e9:nS (sL g8 m8 c8) q 8=.slice (some ⟨g8,q*8,none⟩) (m8-q) (c8-q):=by unfold nS;dsimp only;rw[iF g0];simp[Addr.add,qag]
    rw[e9]at G;replace G:=cV G
  all_goals
   go_upto_region 23 with(first|(at_builtin;refine Lib.wpList_append_run _ rfl _ _ _ _ rfl _ _ rfl rfl _ _ A ?_)|fail);have bb:=b7.aa.cs;simp only[oI,oj,wl,XN,XG,Nat.reduceAdd]at bb;go_upto_region 24 with(first|(at_builtin;refine Lib.wpList_append_run _ rfl _ _ _ _ rfl _ _ rfl rfl _ _ m ?_)|fail);clear bb r9 A m b7;have r9:=h8.aa.cell (i:=9) W;have t9:=f7.aa.cell (i:=9) W;have tf:=World.rowIs.frozen f7.aa 9;go_wp2_with(first|(at_builtin;refine Lib.wpList_append_run _ rfl _ _ _ _ rfl _ _ rfl rfl _ _ G ?_)|fail);go_roundw;case rel=>exact⟨k+1,wq,N1,_,HE⟩
   simp[nI];omega
def eT:Vq
 |0=>24
 |1=>112
 |2=>54
 |_=>34
def iT:Vq
 |0=>110
 |1=>36
 |2=>32
 |_=>35
def oT:Vq
 |0=>47
 |1=>48
 |2=>49
 |_=>50
def cZ:Vq
 |0=>4
 |1=>6
 |2=>8
 |_=>10
def bZ:Vq
 |0=>32
 |1=>72
 |2=>64
 |_=>104
def z4:Tn:=[.int .u64 0,.int .u64 0,.int .u64 0,.int .u64 0]
def mW(k:Nat):Tn:=[.int .u64 7,.int .u64 7,.int .u64 7,.int .u64 (k:Int)]
def mC(c k:Nat):Tn:=match c with
 |0=>mW k
 |1=>mW k++[dL,.string ⟨#[]⟩]
 |2=>mW k++z4
 |_=>mW k++(z4++[.string ⟨#[]⟩,dL])
def Mg{c:Nat}(h:c<4):c=0\/c=1\/c=2\/c=3:=wq
def BP{c:Nat}(h:c<4)(k:Nat):(mC c k).length=cZ c:=by rcases Mg h with rfl|rfl|rfl|rfl<;>rfl
def GS{c:Nat}(h:c<4)(k:Nat):∀u∈mC c k,u.oneCell'=true:=λu C=>by
 rcases Mg h with rfl|rfl|rfl|rfl<;>simp[mC,mW,z4]at C
 .rcases C with rfl|rfl<;>rfl
 .rcases C with rfl|rfl|rfl|rfl<;>rfl
 .rcases C with rfl|rfl|rfl<;>rfl
 rcases C with rfl|rfl|rfl|rfl|rfl<;>rfl
def PF{c:Nat}(h:c<4):0<cZ c:=by rcases Mg h with rfl|rfl|rfl|rfl<;>decide
def Oa{c:Nat}(h:c<4):CF (iT c) (eT c) (cZ c) (bZ c):=by
 rcases Mg h with rfl|rfl|rfl|rfl
 .exact Nw (z:=.agg z4.toArray) N0 N0 N0
 .exact Nw (z:=.agg (z4++[dL,.string ⟨#[]⟩]).toArray) N0 N0 N0
 .exact Nw (z:=.agg (z4++z4).toArray) N0 N0 N0
 exact Nw (z:=.agg (z4++(z4++[.string ⟨#[]⟩,dL])).toArray) N0 N0 N0
def ti_out{c:Nat}(h:c<4):CF (oT c) (iT c) 1 24:=by rcases Mg h with rfl|rfl|rfl|rfl<;>exact Nw (z:=dL) N0 N0 N0
def pU{c:Nat}(C:c<4)(D:d<4):(c≠d->eT c≠eT d)/\(c≠d->iT c≠iT d)/\eT c≠iT d/\eT c≠52/\iT c≠52:=by rcases Mg C with rfl|rfl|rfl|rfl<;>rcases Mg D with rfl|rfl|rfl|rfl<;>decide
def tg(n:Nat)(m:Tn):Tn:=(List.replicate n m).flatten
def E0(n:Nat)(m:Tn):tg (n+1) m=tg n m++m:=by grind[tg,List.replicate_succ',List.flatten_append]
theorem Fd:∀(n k:Nat)(m:Tn),k<=n->(tg n m).take (k*m.length)=tg k m
 |n,0,m,_=>by simp[tg]
 |0,k+1,m,h=>wq
 |n+1,k+1,m,h=>by show(m++tg n m).take ((k+1)*m.length)=m++tg k m;rw[List.take_append,XA K9,show(k+1)*m.length-m.length=k*m.length by grind,Fd n k m wq]
def slen:VL->Nat
 |.slice _ n _=>n
 |_=>0
def Mkd(x:WD)(c k:Nat)(v:VL):=∃ad n cp,v=.slice ad n cp/\((ad=none/\n=0)\/∃g cur,ad=some ⟨g,0,none⟩/\x.heap[g]?=some (.cells cur (eT c) (0,0))/\cur.toList.take (n*cZ c)=tg n (mC c k)/\n<=maxLen)
def Sep.app2{n:Nat}{x:WD}{news:Tn}(h:x.ownsRow 0 e sz v n xs)(A:CF t e sz by')(a:Addr)(m c:Nat)(r:news.length=m*sz)(V:∀j u,news[j]?=some u->x.cell? (a.add j)=some u)(f:∀u∈news,u.oneCell'=true)(I:n+m<=maxLen)(hb:(n+m)*by'<=140737488355328):∃H y,(Builtin.append_ #[t,t] t #[v,.slice (some a) m c]).run prog x=.ok H y/\y.ownsRow 0 e sz H (n+m) (xs++news)/\((H.ownBlock=v.ownBlock/\x.grownBy y v.ownBlock)\/(x.grownBy y none/\∀k,H.ownBlock=some k->x.heap.size<=k)):=by
 let⟨P,Y,i,z,N,hz,s,J,L⟩:=A;let⟨H,y,w,r2,r3,Z⟩:=fh x 0 t t e i z sz _ P N hz s J L Y v n xs h a m c _ r V f I hb<|In _;refine⟨H,y,w,r2,?_⟩;rcases h.2 with⟨rfl,rfl⟩|⟨g,E,q,rfl,hb2,b,hnc,hcm,F,htk⟩
 .rcases Z with D|D
  .grind
  exact A4 ⟨r3,D⟩
 by_cases hr:n+m<=E
 .rcases Z with D|D
  .grind
  exfalso;subst s;have p:∀j,j<news.length->n*i.size+j<q.size:=λj o=>by rw[F];have:(n+m)*i.size<=E*i.size:=Yf _ hr;grind
  have X:=run_append_room_cells x t t e i P N g 0 n _ a m c _ r V f hr (λj o=>by rw[XF,cell_of_row _ g _ _ e _ b];grind) (λj o=>by simp[World.frozen?,b]);rw[w]at X;injection X with R T;subst R;have:=D g W;grind
 let⟨S,K,C,U,Q⟩:=run_append_arg_grows x t t e i z sz _ P N hz s J L Y ⟨g,0,none⟩ n E xs h.1 (h.cells W) a m c _ r V wq I hb;rw[w]at C;injection C with D R;subst D R;exact A4 ⟨Q,λk hk=>(U.lt k hk).1⟩
structure BLI(bb:Nat)(G:Nat->VL×Tn)(c:Nat)(l:VL)(n st:Nat)(x:WD):Prop where
 row:rowL x bb 52 [(G 0).1,(G 1).1,(G 2).1,(G 3).1]
 aa:∀k,k<4->x.ownsRow 0 (iT k) 1 (G k).1 (G k).2.length (G k).2
 md:∀k,k<4->∀(i:Nat) v,(G k).2[i]?=some v->Mkd x k (i/4*4) v
 aD:x.ownsRow 0 (eT c) (cZ c) l n (tg n (mC c st))
 rel:∀(i:Nat) v k,(G c).2[i]?=some v->v.ownBlock=some k->l.ownBlock=some k->i/4*4=st/\slen v<=n
def BLF(bb:Nat)(G:Nat->VL×Tn)(l:VL)(k:Nat):=k=bb\/(∃c,c<4/\((G c).1.ownBlock=some k\/∃v∈(G c).2,v.ownBlock=some k))\/l.ownBlock=some k
def Mkd.ty{x:WD}{c:Nat}(h:Mkd x c k v)(C:v.ownBlock=some g):Ty x g (eT c):=by
 obtain⟨J,n,I,rfl,h|⟨H,D,rfl,E,_⟩⟩:=h
 .rw[h.1]at C;cases C
 cases(hV C:H=g);exact⟨_,_,E⟩
def Mkd.fr{x y:WD}{c:Nat}(h:Mkd x c k v)(he:∀g,v.ownBlock=some g->y.heap[g]?=x.heap[g]?):Mkd y c k v:=by
 obtain⟨I,n,C,rfl,h|⟨g,D,rfl,H,E⟩⟩:=h
 .exact⟨I,n,C,W,LZ h⟩
 exact⟨_,n,C,W,A4 ⟨g,_,W,(he g W).trans H,E⟩⟩
def WP(bb:Nat)(G:Nat->VL×Tn)(c:Nat)(l:VL)(n st:Nat):Rs:=⟨BLF bb G l,BLI bb G c l n st,λ{x k} h hk=>by
 rcases hk with rfl|⟨d,hd,hk|⟨v,hv,hk⟩⟩|hk
 .exact h.row.lt
 .exact((h.aa d hd).lt _ hk).2
 .obtain⟨i,hi,rfl⟩:=XU hv;exact((h.md d hd i _<|iN hi).ty hk).lt
 .exact(h.aD.lt _ hk).2,λ{x y} h hs he=>by
 have ho:∀{e size n:Nat}{v:VL}{xs:Tn},(∀k,v.ownBlock=some k->BLF bb G l k)->x.ownsRow 0 e size v n xs->y.ownsRow 0 e size v n xs:=λhd ho=>⟨ho.1,ho.2.imp id λ⟨g,E,cur,h1,h2,h3,h4⟩=>⟨g,E,cur,h1,h2,(he g<|hd g (by rw[h1];rfl)).trans h3,h4⟩⟩
 exact⟨World.rowIs.of_block h.row<|he bb<|LZ rfl,λk hk=>ho (λg hg=>A4<|LZ ⟨k,hk,LZ hg⟩)<|h.aa k hk,λk hk i v hv=>(h.md k hk i v hv).fr λg hg=>he g<|A4<|LZ ⟨k,hk,A4 ⟨v,Xe hv,hg⟩⟩,ho (λg hg=>A4<|A4 hg) h.aD,h.rel⟩⟩
abbrev eH(bb:Nat)(G:Nat->VL×Tn):Rs:=WP bb G 0 dL 0 0
section
variable {G:Nat->VL×Tn}{l:VL}
theorem Sep.take(h:Sep O (eH bb G::fp (eT c) (cZ c) l n (tg n<|mC c (G c).2.length)::rs) x)(H:c<4):Sep O (WP bb G c l n (G c).2.length::rs) x:=by
 have J:=h.hd;refine Sep.step (q:=[eH bb G,fp _ _ l n _]) h (λr L=>?_) (XO _ _) (DO _) (λ_ _ _=>W) λr L k I=>?_
 .rw[BY.1 L];exact⟨J.row,J.aa,J.md,h.tl.hd,λi v k C E D=>absurd D<|((XT.1 h.p).1 _ Xz) k<|A4<|LZ ⟨c,H,A4 ⟨v,Xe C,E⟩⟩⟩
 rw[BY.1 L]at I;rcases I with I|I|I
 .exact LZ ⟨_,Xz,LZ I⟩
 .exact LZ ⟨_,Xz,A4<|LZ I⟩
 exact LZ ⟨_,IN _ Xz,I⟩
def Sep.let(h:Sep O (WP bb G c l n st::rs) x):Sep O (eH bb G::rs) x:=by
 have C:=h.hd;refine h.aF ⟨C.row,C.aa,C.md,Xy _ _ _ _,λ_ _ _ _ _ h=>by cases h⟩ (DO _) (λ_ _ _=>W) λk C=>LZ ?_;rcases C with C|C|C
 .exact LZ C
 .exact A4 (LZ C)
 cases C
def Sep.mark(h:Sep O (WP bb G c l n st::rs) x)(L:c<4)(hn:n+1<=1000000001000):∃f y,(Builtin.append_ #[iT c,iT c] (iT c) #[l,sL x.heap.size 1 1]).run prog (x.alloc<|.cells (mC c st).toArray<|eT c)=.ok f y/\Sep O (WP bb G c f (n+1) st::rs) y/\Below O x y:=by
 have Y:Below _ x (x.alloc<|.cells (mC c st).toArray<|eT c):=ai (dO _ x) _;have J:=h.below Y;have I:=J.hd;let⟨f,y,r1,r,r3⟩:=Sep.app2 I.aD (Oa L) ⟨x.heap.size,0,none⟩ 1 1 (by rw[BP L,Nat.one_mul]) (λj u b=>by rw[show(⟨_,0,_⟩:Addr).add j=⟨x.heap.size,j,none⟩ by grind[Addr.add]];simp_all) (GS L st) (by grind[maxLen]) (By (Yx (DO _) (show bZ c<=104 by rcases Mg L with rfl|rfl|rfl|rfl<;>decide)) wq);rw[<-E0]at r;generalize x.alloc (.cells (mC c st).toArray<|eT c)=q at*
 -- what has changed:the list's block alone
 have o:∀k,k<q.heap.size->l.ownBlock≠some k->y.heap[k]?=q.heap[k]? :=λk b D=>by
  rcases r3 with⟨_,C⟩|⟨C,_⟩
  .exact C.block k b λe=>D e.symm
  exact C.block k b λe=>by cases e
 have V:q.heap.size<=y.heap.size:=by rcases r3 with⟨_,C⟩|⟨C,_⟩<;>exact C.size
 have X:∀{k T},Ty q k T->T≠eT c->y.heap[k]?=q.heap[k]? :=λ{k T} b D=>o k b.lt λe=>D<|b.aF<|Ty.az I.aD e;have U:BLI bb G c f (n+1) st y:=by
  refine⟨World.rowIs.of_block I.row<|X (Ty.aB I.row) (pU L L).2.2.2.1.symm,λk b=>(λD K=>⟨K.1,K.2.imp id λ⟨g,E,P,H,J,Q,N⟩=>⟨g,E,P,H,J,(X ⟨P,_,Q⟩ D).trans Q,N⟩⟩) (pU L b).2.2.1.symm<|I.aa k b,λk b i v Z=>?_,r,λi v k Z H J=>?_⟩
  .have R:=I.md k b i v Z;by_cases hl:∃g,v.ownBlock=some g/\l.ownBlock=some g
   .obtain⟨g,H,Q⟩:=hl;obtain rfl:k=c:=YA λe=>(pU b L).1 e<|(R.ty H).aF<|Ty.az I.aD Q;let⟨A,S⟩:=I.rel i v g Z H Q;rcases r3 with⟨q,_⟩|⟨C,_⟩
    .obtain⟨ad,m,W,rfl,F|⟨g',P,rfl,F,_,z⟩⟩:=R
     .rw[F.1]at H;cases H
     obtain rfl:g'=g:=hV H;rcases r.2 with⟨a,_⟩|⟨w,E,r,a,_,r,_,_,_,h6⟩
     .omega
     rw[a]at q;have:some w=some g':=q.trans Q;obtain rfl:=hV this;refine⟨_,m,W,rfl,A4 ⟨w,_,rfl,r,?_,z⟩⟩;have r:m<=n:=S;rw[A,<-(show(tg (n+1)<|mC k st).take (m*cZ k)=tg m (mC k st) by rw[<-BP b st];exact Fd _ _ _ wq),<-h6,List.take_take,Zg<|Yf _ wq]
    exact R.fr λg p=>C.block g (R.ty p).lt λe=>by cases e
   exact R.fr λg C=>o g (R.ty C).lt λe=>hl ⟨g,C,e⟩
  rcases r3 with⟨q,_⟩|⟨_,r⟩
  .obtain⟨A,S⟩:=I.rel i v k Z H<|q▸J;exact⟨A,wq⟩
  have:=r k J;have:=((I.md c L i v Z).ty H).lt;omega
 refine⟨f,y,r1,J.aF U V (λk b D=>o k b λe=>D<|A4<|A4 e) λk b=>?_,(Y.mono h.s).trans ⟨?_,?_,?_,V,λk b=>o k (Xg b J.s) λe=>?_⟩⟩
 .rcases b with b|b|b
  .exact LZ (LZ b)
  .exact LZ (A4<|LZ b)
  rcases r3 with⟨q,_⟩|⟨_,r⟩
  .exact LZ (A4<|A4<|q.symm.trans b)
  exact A4<|r k b
 .rcases r3 with⟨_,C⟩|⟨C,_⟩<;>exact C.os
 .rcases r3 with⟨_,C⟩|⟨C,_⟩<;>exact C.tape
 .rcases r3 with⟨_,C⟩|⟨C,_⟩<;>exact C.output
 have:=J.ge<|A4<|A4 e;omega
def Sep.bQ(h:Sep O (WP bb G c l n st::rs) x)(H:c<4)(Y:(G c).2.length/4*4=st)(hn:(G c).2.length+1<=5000000000000):∃J y,(Builtin.append_ #[oT c,oT c] (oT c) #[(G c).1,sL x.heap.size 1 1]).run prog (x.alloc<|.cells #[l]<|iT c)=.ok J y/\(∃ad m cp,J=.slice ad m cp)/\y.cell? ⟨bb,c,none⟩=some (G c).1/\y.frozen? ⟨bb,c,none⟩=false/\Sep O (WP bb (λk=>if k=c then(J,(G c).2++[l])else G k) c l n st::rs) (y.setCell ⟨bb,c,none⟩ J)/\Below O x (y.setCell ⟨bb,c,none⟩ J):=by
 have A:Below _ x (x.alloc<|.cells #[l]<|iT c):=ai (dO _ x) _;have R:=h.below A;have P:=R.hd;let⟨ad0,cp0,X⟩:=dt P.aD;let⟨J,y,r1,r2,r3⟩:=Sep.app2 (P.aa c H) (ti_out H) ⟨x.heap.size,0,none⟩ 1 1 (news:=[l]) W (λj u hu=>by rw[show(⟨_,0,_⟩:Addr).add j=⟨x.heap.size,j,none⟩ by grind[Addr.add]];simp_all) (λu hu=>by rw[BY.1 hu,X];rfl) (by unfold maxLen;omega) wq;generalize x.alloc (.cells #[l]<|iT c)=r at*;have hS:∀k,k<r.heap.size->(G c).1.ownBlock≠some k->y.heap[k]?=r.heap[k]? :=λk q D=>by
  rcases r3 with⟨_,L⟩|⟨L,_⟩
  .exact L.block k q λe=>D e.symm
  exact L.block k q λe=>by cases e
 have f:r.heap.size<=y.heap.size:=by rcases r3 with⟨_,L⟩|⟨L,_⟩<;>exact L.size
 have z:∀{k T},Ty r k T->T≠iT c->y.heap[k]?=r.heap[k]? :=λ{k T} q D=>hS k q.lt λe=>D<|q.aF<|Ty.az (P.aa c H) e;have I:rowL y bb 52 _:=World.rowIs.of_block P.row<|z (Ty.aB P.row) (pU H H).2.2.2.2.symm;have U:∀{k T},Ty r k T->T≠iT c->T≠52->(y.setCell _ J).heap[k]?=r.heap[k]? :=λ{k T} q D S=>(ZP _ ⟨bb,c,none⟩ _ k λe=>S<|q.aF<|(e)▸(Ty.aB P.row)).trans<|z q D;have Q:∀{e size n:Nat}{v:VL}{xs:List _},e≠iT c->e≠52->r.ownsRow 0 e _ v n xs->(y.setCell _ J).ownsRow 0 e size v n xs:=λD S ho=>⟨ho.1,ho.2.imp id λ⟨g,_,_,w,R,K,b⟩=>⟨g,_,_,w,R,(U ⟨_,_,K⟩ D S).trans K,b⟩⟩
 have hlm:Mkd r c st l:=by
  rcases P.aD.2 with⟨a,e2⟩|⟨g,E,cur,a,_,K,h5,h6,_,b⟩
  .exact⟨_,0,0,a,LZ ⟨W,W⟩⟩
  exact⟨_,n,_,a,A4 ⟨g,_,W,K,b,By h5 h6⟩⟩
 have Z:BLI bb (λk=>if k=c then(J,(G c).2++[l])else G k) c l n st (y.setCell ⟨bb,c,none⟩ J):=by
  refine⟨?_,λk q=>?_,λk q i v C=>?_,Q (pU H H).2.2.1 (pU H H).2.2.2.1 P.aD,λi v k C w R=>?_⟩
  .have:=rowL.set (o:=c) I J;rcases Mg H with rfl|rfl|rfl|rfl<;>exact this
  .by_cases e:k=c
   .subst e;rw[At W,Xm];exact fC r2 (dS I r2 (pU q q).2.2.2.2.symm) _ _
   rw[iF e];exact Q ((pU q H).2.1 e) (pU q H).2.2.2.2<|P.aa k q
  .have N:∀{k j v},k<4->Mkd r k j v->Mkd _ k j v:=λq hm=>hm.fr λg L=>U (hm.ty L) (pU q H).2.2.1 (pU q H).2.2.2.1;by_cases e:k=c
   .subst e;rw[At W]at C;by_cases hi:i<(G k).2.length
    .rw[Xv hi]at C;exact N q<|P.md k q i v C
    rw[Xx wq]at C;obtain⟨S,rfl⟩:i-(G k).2.length=0/\l=v:=by
     cases hd:i-(G k).2.length with
     |zero=>rw[hd]at C;exact⟨W,hV C⟩
     |succ j=>rw[hd]at C;cases C
    cases(wq:i=(G k).2.length)
    rw[Y];exact N q hlm
   rw[iF e]at C;exact N q<|P.md k q i v C
  rw[At W]at C;by_cases hi:i<(G c).2.length
  .rw[Xv hi]at C;exact P.rel i v k C w R
  rw[Xx wq]at C;obtain⟨S,rfl⟩:i-(G c).2.length=0/\l=v:=by
   cases hd:i-(G c).2.length with
   |zero=>rw[hd]at C;exact⟨W,hV C⟩
   |succ j=>rw[hd]at C;cases C
  cases(wq:i=(G c).2.length)
  exact⟨Y,(by rw[X];exact DO _:slen l<=n)⟩
 have p:∀k,k<r.heap.size->¬BLF bb G l k->(y.setCell ⟨bb,c,none⟩ J).heap[k]?=r.heap[k]? :=λk q D=>(ZP _ _ _ _ λe=>D<|LZ e).trans<|hS k q λe=>D<|A4<|LZ ⟨c,H,LZ e⟩;have V:y.os=r.os/\y.tape=r.tape/\y.output=r.output:=by rcases r3 with⟨_,L⟩|⟨L,_⟩<;>exact⟨L.os,L.tape,L.output⟩
 let⟨ad1,cp1,F⟩:=dt r2;refine⟨J,y,r1,⟨_,_,_,F⟩,rowL.cell I (show[(G 0).1,(G 1).1,(G 2).1,(G 3).1][c]?=some (G c).1 by rcases Mg H with rfl|rfl|rfl|rfl<;>rfl),World.rowIs.frozen I c,R.aF Z (by simpa[World.setCell]using f) p λk q=>?_,(A.mono h.s).trans ⟨V.1,V.2.1,V.2.2,by simpa[World.setCell]using f,λk q=>p k (Xg q R.s) λe=>by have:=R.ge e;omega⟩⟩;rcases q with q|⟨d,hd,q⟩|q
 .exact LZ (LZ q)
 .by_cases e:d=c
  .subst e;dsimp only at q;rw[At W]at q;rcases q with q|⟨v,C,q⟩
   .rcases r3 with⟨e3,_⟩|⟨_,hf⟩
    .exact LZ (A4<|LZ ⟨d,hd,LZ<|e3.symm.trans q⟩)
    exact A4<|hf k q
   rcases Xr.1 C with C|C
   .exact LZ (A4<|LZ ⟨d,hd,A4 ⟨v,C,q⟩⟩)
   rw[BY.1 C]at q;exact LZ<|A4<|A4 q
  dsimp only at q;rw[iF e]at q;exact LZ<|A4<|LZ ⟨d,hd,q⟩
 exact LZ<|A4<|A4 q
end
def Vy(x:WD)(g o:Nat):Tn->WD
 |[]=>x
 |v::r=>Vy (x.setCell ⟨g,o,none⟩ v) g (o+1) r
def NQ(xs:Tn)(p:Nat):Tn->Tn
 |[]=>xs
 |v::r=>NQ (xs.set p v) (p+1) r
theorem Ae:∀(C xs:Tn)(p:Nat),p+C.length<=xs.length->(NQ xs p C).take (p+C.length)=xs.take p++C
 |[],xs,p,h=>by simp[NQ]
 |v::r,xs,p,h=>by rw[X2]at h⊢;show(NQ (xs.set p v) (p+1) r).take _=_;rw[(wq:p+(r.length+1)=p+1+r.length),Ae r (xs.set p v) (p+1) (by rw[XE];omega),Yy,List.take_set_of_le<|DO _,List.getElem?_set_self wq];simp
def DC(h:x.ownsRow 0 e sz (sL g n cp) n xs)(G:p<n*sz):(x.setCell ⟨g,p,none⟩ v).ownsRow 0 e sz (sL g n cp) n (xs.set p v):=by
 refine⟨by rw[XE];exact h.1,?_⟩;rcases h.2 with⟨C,_⟩|⟨g',E,G,C,H,I,J,L,P,Q⟩
 .cases C
 injection C with C _ D;obtain rfl:g=g':=by injection C with C;injection C
 subst D;refine A4 ⟨g,cp,G.setIfInBounds p v,W,H,?_,J,L,by rw[Array.size_setIfInBounds];exact P,?_⟩
 .simp only[World.setCell,Zq,At,I];simp[XF]
 rw[Array.toList_setIfInBounds,List.take_set,Q]
theorem Sep.puts:∀(G xs:Tn)(p:Nat)(x:WD),Sep O (fp e sz (sL g n cp) n xs::rs) x->p+G.length<=n*sz->Sep O (fp e sz (sL g n cp) n (NQ xs p G)::rs) (Vy x g p G)/\Below O x (Vy x g p G)
 |[],xs,p,x,h,_=>⟨h,dO _ _⟩
 |v::r,xs,p,x,h,hp=>by rw[X2]at hp;have D:Sep O (fp e sz (sL g n cp) n (xs.set p v)::rs) (x.setCell ⟨g,p,none⟩ v):=h.kb (S:=[g]) (DC h.hd wq) ((Kb.refl _ _).setCell AI v) (λk G=>by rw[BY.1 G];rfl) λk G=>LZ G;let⟨C,E⟩:=Sep.puts r _ (p+1) _ D wq;exact⟨C,((dO _ x).setCell (h.ge (k:=g) W) v).trans E⟩
theorem kk(k:Nat)(C:k<9223372036854775808)(w:WD):cP 47 #[iI (k:Int)] w (rT (.agg #[iU 7,iU 7,iU 7,iU (k:Int)]) w):=by go_enter func47,ntmps47;go_wp2;refine sp (v:=.agg #[iU 7,iU 7,iU 7,iU (k:Int)]) (by simp[results,results47,go_sem]) W ⟨W,?_⟩;exact ai (dO _ w) _
variable {x0:WD}
def CsU(x:WD)(b o:Nat)(Uq9:Vp):Nat->Prop
 |0=>True
 |n+1=>CsU x b o Uq9 n/\x.cell? ⟨b,o+n,none⟩=some (Uq9 n)
theorem cs_u{x:WD}{b o:Nat}:∀{m:Nat},(∀j,j<m->∃u,cL x b (o+j) u)->CsU x b o (λj=>(x.cell? ⟨b,o+j,none⟩).getD undef) m
 |0,_=>trivial
 |m+1,h=>⟨cs_u λj D=>h j wq,by let⟨u,C⟩:=h m wq;simp[C]⟩
structure BkG(G G':Nat->VL×Tn)(c m:Nat):Prop where
 len:(G' c).2.length=(G c).2.length+m
 bH:∀k,k≠c->G' k=G k
section
variable {G:Nat->VL×Tn}{l:VL}
def FillI(O bb:Nat)(G:Nat->VL×Tn)(c:Nat)(l:VL)(n mb N:Nat)(rs:List Rs)(x0:WD)(i:Nat)(wr:WD):=∃xs,Sep O (fp (eT c) (cZ c) l n xs::eH bb G::gj mb (eT c) (mC c N)::rs) wr/\Below O x0 wr/\xs.take (i*cZ c)=tg i (mC c N)
def FillI.next(h:FillI O bb G c (sL g n cp) n mb N rs x0 i wr)(E:c<4)(hi:i<n):FillI O bb G c (sL g n cp) n mb N rs x0 (i+1) (Vy wr g (i*cZ c)<|mC c N):=by
 let⟨xs,D,L,P⟩:=h;have Q:i*cZ c+(mC c N).length<=n*cZ c:=by rw[BP E];have:=Yf (cZ c)<|show i+1<=n from hi;rw[YO]at this;omega
 let⟨H,I⟩:=Sep.puts (mC c N) xs (i*cZ c) wr D Q;refine⟨_,H,L.trans I,?_⟩;have J:xs.length=n*cZ c:=D.hd.1;have C:=Ae (mC c N) xs (i*cZ c) (by rw[J];exact Q);rw[BP E]at C;rw[YO,Nat.one_mul,C,P,E0]
def FillI.at{E:Gj}(h:FillI O bb G c (.slice E n cp) n mb N rs x0 i wr)(I:c<4)(hi:i<n):∃g D,E=some ⟨g,0,none⟩/\CsU wr g (i*cZ c) D (cZ c)/\(∀o,wr.frozen? ⟨g,o,none⟩=false)/\rowL wr mb (eT c) (mC c N):=by let⟨xs,C,L,P⟩:=h;have J:xs.length=n*cZ c:=C.hd.1;obtain⟨_,g,rfl,_,Q,U⟩:=fH C.hd i hi (hz:=PF I);refine⟨g,_,W,cs_u λj H=>?_,U,C.tl.tl.hd⟩;have:=Yf (cZ c)<|show i+1<=n from hi;rw[YO]at this;exact⟨_,Q j _ H<|iN wq⟩
def HandI(O bb:Nat)(G:Nat->VL×Tn)(c mb N:Nat)(rs:List Rs)(x0:WD)(i m:Nat)(l:VL)(wr:WD):=∃G',Sep O (WP bb G' c l m N::gj mb (eT c) (mC c N)::rs) wr/\Below O x0 wr/\BkG G G' c i
def FillI.done(h:FillI O bb G c l n mb N rs x0 n wr)(H:c<4)(I:N=(G c).2.length):HandI O bb G c mb N rs x0 0 n l wr:=by let⟨xs,C,E,D⟩:=h;have J:xs.length=n*cZ c:=C.hd.1;rw[XA wq]at D;subst D I;exact⟨G,C.sw.take H,E,W,λ_ _=>W⟩
def HandI.bQ(h:HandI O bb G c mb N rs x0 i m l wr)(E:c<4)(X:N=(G c).2.length)(R:N%4=0)(hi:i<4)(U:N<=4000000000000):∃Y C y,cL wr bb c Y/\(∃a n p,Y=.slice a n p)/\(∃a n p,C=.slice a n p)/\(Builtin.append_ #[oT c,oT c] (oT c) #[Y,sL wr.heap.size 1 1]).run prog (wr.alloc<|.cells #[l]<|iT c)=.ok C y/\cL y bb c Y/\y.frozen? ⟨bb,c,none⟩=false/\HandI O bb G c mb N rs x0 (i+1) m l (y.setCell ⟨bb,c,none⟩ C):=by
 let⟨G',D,J,H⟩:=h;have Z:=H.len;let⟨C,y,b,d,r3,P,Q,L⟩:=D.bQ E (by rw[Z];omega) wq;have Y:[(G' 0).1,(G' 1).1,(G' 2).1,(G' 3).1][c]?=some (G' c).1:=by rcases Mg E with rfl|rfl|rfl|rfl<;>rfl
 let⟨f,V,I⟩:=dt<|D.hd.aa c E;refine⟨(G' c).1,C,y,rowL.cell D.hd.row Y,⟨_,_,_,I⟩,d,b,r3,P,_,Q,J.trans L,?_,λk Y=>?_⟩
 .rw[At W,Xm,Z];rfl
 rw[iF Y];exact H.bH k Y
def HandI.mark(h:HandI O bb G c mb N rs x0 i m l wr)(J:c<4)(E:m+1<=1000000001000):rowL wr mb (eT c) (mC c N)/\∃C y,(Builtin.append_ #[iT c,iT c] (iT c) #[l,sL wr.heap.size 1 1]).run prog (wr.alloc<|.cells (mC c N).toArray<|eT c)=.ok C y/\(∃a p,C=.slice a (m+1) p)/\HandI O bb G c mb N rs x0 i (m+1) C y:=by let⟨G',D,H,I⟩:=h;let⟨C,y,P,L,r3⟩:=D.mark J E;exact⟨D.tl.hd,C,y,P,dt L.hd.aD,G',L,H.trans r3,I⟩
def HandI.aa(h:HandI O bb G c mb N rs x0 i m l wr):∃G',Sep O (eH bb G'::rs) wr/\Below O x0 wr/\BkG G G' c i:=by let⟨G',D,C,E⟩:=h;exact⟨G',D.let.sw.tl,C,E⟩
def HandI.sl(h:HandI O bb G c mb N rs x0 i m l wr):∃a p,l=.slice a m p:=by let⟨G',C,D,E⟩:=h;exact dt C.hd.aD
end
def SP{c f:Nat}(hf:(c=0/\f=72)\/(c=2/\f=65)){O bb n:Nat}{G:Nat->VL×Tn}{l:VL}{rs:List Rs}(h:Sep O (eH bb G::fp (eT c) (cZ c) l n xs::rs) x)(r:(G c).2.length%4=0)(S:(G c).2.length<=4000000000000)(hn:n<=1000000000000):Calls prog f #[pt bb,l] x λe y=>e=AG/\∃G',Sep O (eH bb G'::rs) y/\Below O x y/\BkG G G' c 4:=by
 have P:Hd (c<4):=cV wq;let⟨N,U⟩:=dP<|(G c).2.length;have w:N<=4000000000000:=by rwa[U.aa]
 have a:Hd (N%4=0):=by rwa[U.aa]
 obtain⟨u,cp,rfl⟩:=dt h.tl.hd;obtain⟨b,b,A⟩:=dt<|h.hd.aa c P.aa;have b:x.cell? ⟨bb,c,none⟩=some (G c).1:=rowL.cell h.hd.row (by rcases Mg P.aa with rfl|rfl|rfl|rfl<;>rfl);rw[A,<-U.aa]at b;have p:=cV h;clear h A r S;rcases hf with⟨e,rfl⟩|⟨e,rfl⟩
 all_goals
  have HE:=cV e;rw[e]at b;clear e
  first|go_enter func72,ntmps72|go_enter func65,ntmps65
  go_wp2_with(first|(go_at_call 47;refine(kk N wq _).mono ?_;rintro e z⟨rfl,Q⟩)|fail)
  have H:Hd (FillI O bb G c (.slice u n cp) n z.heap.size N rs x 0<|z.alloc<|.cells (mC c N).toArray<|eT c):=⟨xs,((p.aa.below Q).row (mC c N) _).bG.cD,(ai Q _).mono p.aa.s,by rw[YB];rfl⟩;rw[HE.aa]at H;clear p Q b
  go_loopw[5] (λt wr=>∃i:Nat,i<=n/\t=.int .i64 (i:Int)/\Hd (FillI O bb G c (.slice u n cp) n z.heap.size N rs x i wr)) (λt _=>n-nI t)
  case atStart=>exact⟨0,In _,W,by rw[HE.aa];exact H.aa⟩
  case round=>
   clear H;obtain⟨i,b,rfl,H⟩:=hrel;by_cases R:i<n
   .have hd:=dN i n;obtain⟨g,b,rfl,b,u,C⟩:=H.aa.at P.aa R;have m:=C.cs;have Z:=H.aa.next P.aa R;rw[HE.aa]at b m Z;simp only[cZ,mC,mW,z4,oI,CsU,Vy,Nat.reduceAdd,Ye,XN,XG]at b m Z;replace H:=cV Z;clear Z C;go_wp2;exact⟨⟨i+1,wq,N1,by rw[HE.aa];exact H.aa⟩,by simp[nI];omega⟩
   .have hd:=dG i n;have V:i=n:=wq
    rw[V]at H;have E:=cV<|H.aa.done P.aa U.aa;clear H V;go_wp2
    go_loopw[1,6,7] (λj o t3 wr=>∃i m:Nat,i<=4/\o=.int .i64 (i:Int)/\m<=n+61*i/\Hd (HandI O bb G c z.heap.size N rs x i m j wr)) (λ_ o _ _=>4-nI o)
    case atStart=>exact⟨0,n,wq,W,wq,E.aa⟩
    case round=>
     clear E hd;obtain⟨i,m,b,rfl,b,E⟩:=hrel;by_cases d:i<4
     case neg=>
      have hd:=dF<|(i:Int)<4;rw[(wq:i=4)]at E;go_wp2;exact bodyPost_end (v:=.tuple #[]) (by simp[results,go_sem]) W ⟨W,E.aa.aa⟩
     have hd:=dT<|(i:Int)<4;obtain⟨r,p1,rfl⟩:=E.aa.sl;obtain⟨b,b,y,u,⟨b,b,p2,rfl⟩,⟨a3,n3,p3,rfl⟩,I,T,b,F⟩:=E.aa.bQ P.aa U.aa a.aa d w;obtain⟨C,a,w,D,⟨a4,p4,rfl⟩,L⟩:=F.mark P.aa wq;obtain⟨K,J⟩:∃K,Hd (y.setCell ⟨bb,c,none⟩ (.slice a3 n3 p3)=K):=⟨_,W⟩;rw[J.aa]at C D;rw[HE.aa]at u T b I D C J;replace I:=cV I;replace D:=cV D;replace L:=cV L;replace C:=cV C;clear F E
     go_upto_region 9 with(at_builtin;refine Lib.wpList_append_run _ rfl _ _ _ _ rfl _ _ rfl rfl _ _ I.aa ?_)
     rw[J.aa];clear J I u T b;have m:=C.aa.cs;simp only[mC,mW,z4,oI,Nat.reduceAdd,XN,XG]at m
     go_upto_region 10 with(at_builtin;refine Lib.wpList_append_run _ rfl _ _ _ _ rfl _ _ rfl rfl _ _ D.aa ?_)
     clear D m C;go_wp2
     go_loopw[1,7] (λj t3 wr=>∃k X:Nat,k<=60/\t3=.int .i64 (k:Int)/\X<=m+1+k/\Hd (HandI O bb G c z.heap.size N rs x (i+1) X j wr)) (λ_ t3 _=>60-nI t3)
     case atStart=>exact⟨0,m+1,wq,W,wq,L.aa⟩
     case round=>
      clear L;obtain⟨k,X,b,rfl,b,E⟩:=hrel
      have b:((k:Int)<60/\(i:Int)=2)\/decide ((k:Int)<60)=false\/(decide ((k:Int)<60)=true/\((i:Int)==2)=false):=by
       by_cases u:k<60
       .by_cases h2:i=2
        .exact LZ wq
        .exact A4 (A4 ⟨OsQ wq,Xb.2 wq⟩)
       .exact A4 (LZ<|W8 wq)
      rcases b with⟨Y,d2⟩|Y|⟨Y,d2⟩
      .have hk6:k<60:=wq
       replace Y:decide ((k:Int)<60)=true:=OsQ Y;replace d2:((i:Int)==2)=true:=X1.2 d2;obtain⟨r,p1,rfl⟩:=E.aa.sl;obtain⟨C,a,w,D,⟨a4,p4,rfl⟩,L⟩:=E.aa.mark P.aa wq;have q:=C.cs;rw[HE.aa]at D q;simp only[mC,mW,z4,oI,Nat.reduceAdd,XN,XG]at q;replace D:=cV D;replace L:=cV L;clear E C;go_wp2_with(at_builtin;refine Lib.wpList_append_run _ W _ _ _ _ W _ _ W W _ _ D.aa ?_)
       exact⟨⟨k+1,X+1,wq,N1,wq,L.aa⟩,by simp[nI];omega⟩
      all_goals
       go_wp2;exact⟨⟨i+1,X,wq,N1,wq,E.aa⟩,by simp[nI];omega⟩
end
section
variable {x0:WD}
def rh(d:Nat)(t:VL×Nat×Tn):Rs:=fp (eT d) (cZ d) t.1 t.2.1 t.2.2
def EG(G G':Nat->VL×Tn)(g:Vq):=∀k,(G' k).2.length=(G k).2.length+g k
def BkG.u{G C:Nat->VL×Tn}(h:BkG G C c m):EG G C λk=>if k=c then m else 0:=λk=>by
 show _=_+(if k=c then m else 0);by_cases e:k=c
 .subst e;rw[At W];exact h.len
 rw[iF e,h.bH k e];rfl
def InI(O bb:Nat)(G:Nat->VL×Tn)(c d:Nat)(l:VL)(n:Nat)(xs:Tn)(ts:List<|VL×Nat×Tn)(rs:List Rs)(x0:WD)(i:Nat)(wr:WD):=∃G',Sep O (eH bb G'::fp (eT c) (cZ c) l n xs::((ts.drop i).map (rh d)++rs)) wr/\Below O x0 wr/\EG G G' λk=>if k=d then 4*i else 0
def InI.at{O bb c d n i o:Nat}{G:Nat->VL×Tn}{I:Gj}{cp:Nat}{xs:Tn}{C:List<|VL×Nat×Tn}{rs:List Rs}{x0 wr:WD}(h:InI O bb G c d (.slice I n cp) n xs C rs x0 i wr)(Y:c<4)(hi:i<n)(X:C.length=n)(R:o<cZ c)(V:∀(i:Nat) t,C[i]?=some t->xs[i*cZ c+o]?=some t.1):∃g a m p u,I=some ⟨g,0,none⟩/\cL wr g (i*cZ c+o) (.slice a m p)/\C[i]?=some (.slice a m p,m,u)/\∃D,Sep O (eH bb D::fp (eT d) (cZ d) (.slice a m p) m u::(fp (eT c) (cZ c) (.slice I n cp) n xs::((C.drop<|i+1).map (rh d)++rs))) wr/\Below O x0 wr/\EG G D λk=>if k=d then 4*i else 0:=by
 let⟨D,H,Q,U⟩:=h;have E:i<C.length:=wq
 have L:=iN E;obtain⟨_,g,rfl,_,Z,_⟩:=fH H.tl.hd i hi (hz:=PF Y);have J:=Z o _ R<|V i _ L;rw[YT E]at H;generalize C[i]=t at*;let⟨v,m,u⟩:=t;have P:Sep O (eH bb D::fp (eT d) (cZ d) v m u::(fp (eT c) (cZ c) (sL g n cp) n xs::((C.drop<|i+1).map (rh d)++rs))) wr:=H.cD;obtain⟨a,p,rfl⟩:=dt P.tl.hd;exact⟨g,a,m,p,u,W,J,L,D,P,Q,U⟩
def InI.next{G H C:Nat->VL×Tn}{l:VL}{E:List<|VL×Nat×Tn}(h:Sep O (eH bb C::(fp (eT c) (cZ c) l n xs::((E.drop<|i+1).map (rh d)++rs))) y)(L:Below O x0 wr)(D:Below O wr y)(J:EG G H λk=>if k=d then 4*i else 0)(I:BkG H C d 4):InI O bb G c d l n xs E rs x0 (i+1) y:=⟨C,h,L.trans D,λk=>by rw[I.u k,J k];dsimp only;split<;>omega⟩
def eh{f b:Nat}(hf:(c=1/\d=0/\o=4/\f=43/\b=72)\/(c=3/\d=2/\o=9/\f=46/\b=65)){G:Nat->VL×Tn}{l:VL}{Y:List<|VL×Nat×Tn}(h:Sep O (eH bb G::fp (eT c) (cZ c) l n xs::(Y.map (rh d)++rs)) x)(V:Y.length=n)(hx:∀(i:Nat) t,Y[i]?=some t->xs[i*cZ c+o]?=some t.1)(w:∀t∈Y,t.2.1<=1000000000000)(h4:∀k,(G k).2.length%4=0)(hG:∀k,(G k).2.length+4*n<=4000000000000)(hn:n<=1000000000000:=by omega):cP f #[pt bb,l] x λe y=>e=AG/\∃r,Sep O (eH bb r::rs) y/\Below O x y/\EG G r λk=>if k=c then 4 else if k=d then 4*n else 0:=by
 have I:Hd (c<4/\o<cZ c/\c≠d):=cV (by rcases hf with⟨rfl,rfl,rfl, -⟩|⟨rfl,rfl,rfl, -⟩<;>decide);have HW:Hd ((d=0/\b=72)\/(d=2/\b=65)):=cV wq;have Z:Hd (InI O bb G c d l n xs Y rs x 0 x):=⟨G,h,dO _ _,λk=>K2⟩
 obtain⟨ad,F,rfl⟩:=dt h.tl.hd;replace V:=cV V;replace hx:=cV hx;replace w:=cV w;replace h4:=cV h4;replace hG:=cV hG;clear h;rcases hf with⟨e, -,b,rfl,r⟩|⟨e, -,b,rfl,r⟩;all_goals
  have HE:=cV e;have HO:=cV b;have HP:=cV r;clear e b r;first|go_enter func43,ntmps43|go_enter func46,ntmps46
  go_wp2;go_loopw[4] (λt wr=>∃i:Nat,i<=n/\t=iI (i:Int)/\Hd (InI O bb G c d (.slice ad n F) n xs Y rs x i wr)) (λt _=>n-nI t);case atStart=>exact⟨0,In _,W,Z⟩
  clear Z;obtain⟨i,hi,rfl,Z⟩:=hrel;by_cases U:i<n
  .have hd:=dN i n;obtain⟨g,a,m,p,u,rfl,c1,ht,J,P,h2,A⟩:=Z.aa.at I.aa.1 U V.aa I.2.1 hx.aa;have hm:m<=1000000000000:=w.aa _<|Xe ht;have r:Hd ((J d).2.length=(G d).2.length+4*i):=(A d).trans K2;have w:=cV (SP HW P (by rw[r.aa];have:=h4.aa d;omega) (by rw[r.aa];have:=hG.aa d;omega) hm);rw[HP.aa]at w;have HV:Hd (∀(y:WD) S,Sep O (eH bb S::(fp (eT c) (cZ c) (sL g n F) n xs::((Y.drop<|i+1).map (rh d)++rs))) y->Below O wr y->BkG J S d 4->InI O bb G c d (sL g n F) n xs Y rs x (i+1) y):=λy S b T K=>InI.next b h2 T A K;clear P h2 A ht Z;rw[HE.aa,HO.aa]at c1;simp only[cZ]at c1;go_wp2_with((first|go_at_call 72|go_at_call 65);refine w.mono ?_;rintro e y⟨rfl,S,b,T,K⟩);exact⟨⟨i+1,wq,N1,HV y S b T K⟩,by simp[nI];omega⟩
  have hd:=dG i n;have Q:i=n:=wq
  rw[Q]at Z;let⟨J,P,a6,A⟩:=Z.aa;rw[Y0 (by rw[V.aa];exact DO _)]at P;replace P:Sep O (eH bb J::fp (eT c) (cZ c) (.slice ad n F) n xs::rs) wr:=P;let⟨N,HN⟩:=dP<|(J c).2.length;have r:Hd ((J c).2.length=(G c).2.length):=(A c).trans (by have:=I.aa.2.2;grind);have hN:N<=4000000000000:=by rw[HN.aa,r.aa];have:=hG.aa c;omega
  have H4:Hd (N%4=0):=by rw[HN.aa,r.aa];exact h4.aa c
  obtain⟨r,r,e0⟩:=dt<|P.hd.aa c I.1;have c0:wr.cell? ⟨bb,c,none⟩=some (J c).1:=rowL.cell P.hd.row (by rcases Mg I.1 with rfl|rfl|rfl|rfl<;>rfl);rw[e0,<-HN.aa,HE.aa]at c0;have r:=cV P;have HU:=cV<|aIn A a6;clear P e0 h4 hG Z Q A a6;go_wp2_with(first|(go_at_call 47;refine(kk N wq _).mono ?_;rintro e z⟨rfl,j⟩)|fail);have E:Hd (FillI O bb J c (.slice ad n F) n z.heap.size N rs wr 0<|z.alloc<|.cells (mC c N).toArray<|eT c):=⟨xs,((r.below j).row (mC c N) _).bG.cD,(ai j _).mono r.s,by rw[YB];rfl⟩
  rw[HE.aa]at E;clear r j c0 hd;let⟨w0,r⟩:=hJ wr;let⟨zb,a5⟩:=hJ z.heap.size;rw[<-r]at E HU;rw[<-a5]at E⊢;clear r a5;go_loopw[6] (λt wr=>∃i:Nat,i<=n/\t=iI (i:Int)/\Hd (FillI O bb J c (.slice ad n F) n zb N rs w0 i wr)) (λt _=>n-nI t);case atStart=>exact⟨0,In _,W,by rw[HE.aa];exact E⟩
  clear E;obtain⟨i,hi,rfl,E⟩:=hrel;by_cases U:i<n
  .have hd:=dN i n;obtain⟨g,r,rfl,hq,r,C⟩:=E.aa.at I.aa.1 U;have m:=C.cs;have r:=E.aa.next I.1 U;rw[HE.aa]at hq m r;simp only[cZ,mC,mW,z4,oI,CsU,Vy,Nat.reduceAdd,Ye,XN,XG]at hq m r;replace E:=cV r;clear r C;go_wp2;exact⟨⟨i+1,wq,N1,by rw[HE.aa];exact E⟩,by simp[nI];omega⟩
  have hd:=dG i n;have Q:i=n:=wq
  rw[Q]at E;have H:=cV<|E.done I.1 HN;clear E Q;go_wp2;go_loopw[1,7,8] (λt1 r t3 wr=>∃i m:Nat,i<=4/\r=iI (i:Int)/\m<=n+61*i/\Hd (HandI O bb J c zb N rs w0 i m t1 wr)) (λ_ r _ _=>4-nI r);case atStart=>exact⟨0,n,wq,W,wq,H⟩
  clear H hd;obtain⟨i,m,r,rfl,hm,H⟩:=hrel;by_cases r:i<4;case neg=>have hd:=dF<|(i:Int)<4;rw[(wq:i=4)]at H;go_wp2;refine bodyPost_end (v:=.tuple #[]) (by simp[results,go_sem]) W ⟨W,by let⟨S,q1,q2,q3⟩:=H.aa.aa;exact⟨S,q1,HU.2.trans q2,λk=>by rw[q3.u k,HU.aa.1 k];dsimp only;have:=I.aa.2.2;grind⟩⟩
  have hd:=dT<|(i:Int)<4;obtain⟨a1,p1,rfl⟩:=H.aa.sl;obtain⟨ov,v',y,b,⟨a2,n2,p2,rfl⟩,⟨a3,n3,p3,rfl⟩,L,T,K,w⟩:=H.aa.bQ I.1 HN H4.aa r hN;obtain⟨C,l',y2,D,⟨a4,p4,rfl⟩,X⟩:=w.mark I.1 wq;obtain⟨r,R⟩:∃r,Hd (y.setCell ⟨bb,c,none⟩ (.slice a3 n3 p3)=r):=⟨_,W⟩
  rw[R.aa]at C D;rw[HE.aa]at b T K L D C R;replace L:=cV L;replace D:=cV D;replace X:=cV X;replace C:=cV C;clear w H;go_upto_region 13 with(at_builtin;refine Lib.wpList_append_run _ rfl _ _ _ _ rfl _ _ rfl rfl _ _ L ?_);rw[R.aa];clear R L b T K;have m:=C.aa.cs;simp only[mC,mW,z4,oI,Nat.reduceAdd,XN,XG]at m;go_upto_region 14 with(at_builtin;refine Lib.wpList_append_run _ rfl _ _ _ _ rfl _ _ rfl rfl _ _ D ?_);clear D m C;go_wp2;go_loopw[1,8] (λt1 t3 wr=>∃k b:Nat,k<=60/\t3=iI (k:Int)/\b<=m+1+k/\Hd (HandI O bb J c zb N rs w0 (i+1) b t1 wr)) (λ_ t3 _=>60-nI t3);case atStart=>exact⟨0,m+1,wq,W,wq,X⟩
  clear X;obtain⟨k,b,r,rfl,r,H⟩:=hrel;have r:((k:Int)<60/\(i:Int)=2)\/decide ((k:Int)<60)=false\/(decide ((k:Int)<60)=true/\((i:Int)==2)=false):=by
   by_cases P:k<60
   .by_cases h2:i=2
    .exact LZ wq
    exact A4<|A4 ⟨OsQ wq,Xb.2 wq⟩
   exact A4<|LZ<|W8 wq
  rcases r with⟨r,d2⟩|r|⟨r,d2⟩
  .have hk6:k<60:=wq
   replace r:decide ((k:Int)<60)=true:=OsQ r;replace d2:((i:Int)==2)=true:=X1.2 d2;obtain⟨a1,p1,rfl⟩:=H.aa.sl;obtain⟨C,l',y2,D,⟨a4,p4,rfl⟩,X⟩:=H.aa.mark I.1 wq;have q:=C.cs;rw[HE.aa]at D q;simp only[mC,mW,z4,oI,Nat.reduceAdd,XN,XG]at q;replace D:=cV D;replace X:=cV X;clear H C;go_wp2_with(at_builtin;refine Lib.wpList_append_run _ W _ _ _ _ W _ _ W W _ _ D ?_);exact⟨⟨k+1,b+1,wq,N1,wq,X⟩,by simp[nI];omega⟩
  all_goals
   go_wp2;exact⟨⟨i+1,b,wq,N1,wq,H⟩,by simp[nI];omega⟩
variable {e:Nat}
def Az(k:Nat):Nat:=7+7*18446744073709551616+7*340282366920938463463374607431768211456+k*6277101735386680763835789423207666416102355444464034512896
def Sep.ap{q:List Rs}(h:Sep O (q++rs) x):Sep O rs x:=⟨λr C=>h.i r<|Xn _ C,(XW.1 h.p).2.1,h.s⟩
def Qc{c':Nat}{a:Gj}(D:CF t e sz by')(h:n<=c):(Builtin.append_ #[t,t] t #[.slice a n c,.slice none 0 c']).run prog x=.ok (.slice a n c) x:=by obtain⟨G,H,i,z,I,J,J,E,C⟩:=D;cases a<;>simp[Builtin.append_,Zm G,sizeOf,typeInfo,I,Builtin.lenOf,h,Builtin.firstCells,storeCells]
def tE(h:x.ownsRow 0 e sz v n xs)(hn:0<n):∃g c,v=sL g n c/\n<=c:=by
 rcases h.2 with⟨D,C⟩|⟨g,E,C,D,_,_,C,_⟩
 .omega
 grind
theorem te:∀C:List<|Nat×Nat,(io C).length=C.length*8
 |[]=>rfl
 |p::r=>by show((eU p.1++eU p.2)++io r).length=_;rw[Xm,te r,X2,YO,Nat.add_comm];rfl
def Sep.copy{X:List<|Nat×Nat}(h:Sep O rs x)(U:SlIn x v X)(Y:X.length<=1000000000):∃E y,(Builtin.append_ #[32,32] 32 #[dL,v]).run prog x=.ok E y/\Sep O (fp 54 8 E X.length (io X)::rs) y/\Below O x y:=by
 have P:CF 32 54 8 64:=Nw N0 wg W;have I:Sep _ (fp 54 8 dL 0 []::rs) x:=h.new (Xy _ _ _ _) (dO _ _) λk Y=>(by cases Y)
 have C:=te X;obtain⟨R,c,rfl,Q⟩:=U;cases R with
 |none=>
  have e:=Q.elim id λ⟨g,o,e,_⟩=>(by cases e)
  subst e;exact⟨_,x,Qc P<|DO _,I,dO _ _⟩
 |some a=>
  obtain⟨E,y,Y,Y,r3,_⟩:=I.cC P a _ c C (λj u D=>by
   have G:=(Do.1 D).1;rw[C]at G;let⟨g,o,e,V,H⟩:=Q.resolve_left (λe=>by rw[e]at G;exact absurd G K2);injection e with e;subst e;have Y:j/8<X.length:=wq
   have J:j/8*8+j%8=j:=wq
   rw[show(⟨g,o,_⟩:Addr).add j=⟨g,o+j/8*8+j%8,none⟩ by rw[ZB,J];simp[Addr.add,qag],H (j/8) X[j/8] (iN Y) (j%8)<|Xs _ K3];have L:=qi X _ _ (iN Y) (j%8)<|Xs _ K3;rw[J,D]at L;exact L.symm) (λu D=>by
   let⟨p,_,X⟩:=YF.1 D;simp[eU]at X;rcases X with rfl|rfl|rfl|rfl|rfl|rfl|rfl|rfl<;>rfl) (by grind[maxLen]) wq
  grind
end
abbrev LT:=List<|VL×Nat×Tn
def Ltd(l:List AcE)(ts:LT):=ts.length=l.length/\∀(j:Nat) t a,ts[j]?=some t->l[j]?=some a->t.2=(a.ar.length+1,io a.ar++mC 2 1)
abbrev LM(ts:LT):Tn:=ts.map λt=>zbB t.1<|t.2.1-1
def Ltd.snoc{l:List AcE}{E:LT}(h:Ltd l E){a:AcE}:Ltd (l++[a]) (E++[(v,a.ar.length+1,io a.ar++mC 2 1)]):=by
 refine⟨by rw[Xm,Xm,h.1];rfl,λj t b C G=>?_⟩;by_cases D:j<l.length
 .rw[Xv D]at G;rw[Xv (by rw[h.1];exact D)]at C;exact h.2 j t b C G
 rw[Xx wq]at G;rw[Xx (by rw[h.1];omega),h.1]at C;grind
def LnI(O:Nat)(rs:List Rs)(l:List AcE)(x:WD)(i:Nat)(ov:VL)(y:WD):=∃ts,Ltd (l.take i) ts/\Sep O (fp 34 10 ov i (rD (l.take i)<|LM ts)::(ts.map (rh 2)++rs)) y/\Below O x y
section
variable {l:List AcE}
def LnI.bel(h:LnI O rs l x i ov y){z:WD}(H:bW y z):LnI O rs l x i ov z:=by let⟨D,E,C,G⟩:=h;exact⟨D,E,C.below H,G.trans<|H.mono C.s⟩
def LnI.a(h:LnI O rs l x i ov y){a:AcE}{sl:VL}(J:SlIn y sl a.ar)(I:a.ar.length<=1000000000):∃v1 y1,(Builtin.append_ #[32,32] 32 #[dL,sl]).run prog (y.alloc<|.cells (jL a.aj a.ai a.ae sl).toArray 34)=.ok v1 y1/\∃C,Ltd (l.take i) C/\Sep O (fp 54 8 v1 a.ar.length (io a.ar)::gj y.heap.size 34 (jL a.aj a.ai a.ae sl)::fp 34 10 ov i (rD (l.take i)<|LM C)::(C.map (rh 2)++rs)) y1/\Below O x y1:=by let⟨C,E,D,G⟩:=h;have H:Below _ y (y.alloc<|.cells (jL a.aj a.ai a.ae sl).toArray 34):=ai (dO _ y) _;let⟨v1,y1,L,P,r3⟩:=(D.row _ 34).copy (J.below H) I;exact⟨v1,y1,L,C,E,P,(G.trans<|H.mono D.s).trans r3⟩
def LnI.b{D:LT}{a:AcE}{sl:VL}(L:Ltd (l.take i) D)(Q:Sep O (fp 54 8 v1 a.ar.length (io a.ar)::gj ab 34 (jL a.aj a.ai a.ae sl)::fp 34 10 ov i (rD (l.take i)<|LM D)::(D.map (rh 2)++rs)) y)(U:Below O x y)(d:a.ar.length<=1000000000)(hi:i<=1000000000)(he:l[i]?=some a):∃g2 c2 C v3 y3,(Builtin.append_ #[32,32] 32 #[v1,sL y.heap.size 1 1]).run prog (y.alloc<|.cells (mC 2 1).toArray 54)=.ok (sL g2 (a.ar.length+1) c2) C/\a.ar.length+1<=c2/\rowL C ab 34 (jL a.aj a.ai a.ae sl)/\rowL (C.setCell ⟨ab,9,none⟩<|sL g2 a.ar.length c2) ab 34 (jL a.aj a.ai a.ae<|sL g2 a.ar.length c2)/\(Builtin.append_ #[35,35] 35 #[ov,sL C.heap.size 1 1]).run prog ((C.setCell ⟨ab,9,none⟩<|sL g2 a.ar.length c2).alloc<|.cells (jL a.aj a.ai a.ae<|sL g2 a.ar.length c2).toArray 34)=.ok v3 y3/\LnI O rs l x (i+1) v3 y3:=by
 have E:CF 32 54 8 64:=Nw N0 wg W;have H:CF 35 34 10 104:=Oa (c:=3) K3;let⟨Z,C,d,s2,b2⟩:=Q.ca E (mC 2 1) W (GS K3 1) (by grind[maxLen]) wq;obtain⟨g2,c2,rfl,I⟩:=tE s2.hd wq;let⟨J,V⟩:=s2.sw.set 9<|sL g2 a.ar.length c2;let⟨v3,y3,r3,X,b3⟩:=J.bG.ca H (jL a.aj a.ai a.ae<|sL g2 a.ar.length c2) W (λu P=>by simp[jL]at P;rcases P with rfl|rfl|rfl|rfl|rfl|rfl|rfl|rfl|rfl|rfl<;>rfl) (by grind[maxLen]) wq;have G:(C.setCell ⟨ab,9,none⟩<|sL g2 a.ar.length c2).heap.size=C.heap.size:=K2
 rw[G]at r3;refine⟨g2,c2,C,v3,y3,d,I,s2.tl.hd,J.hd,r3,D++[(sL g2 (a.ar.length+1) c2,a.ar.length+1,io a.ar++mC 2 1)],?_,?_,U.trans<|b2.trans<|V.trans b3⟩
 .rw[Yy,he];exact L.snoc
 have Y:l.take (i+1)=l.take i++[a]:=by grind[Yy]
 have R:LM (D++[(sL g2 (a.ar.length+1) c2,a.ar.length+1,io a.ar++mC 2 1)])=LM D++[sL g2 a.ar.length c2]:=by unfold LM;rw[XP];rfl
 rw[Y,R,E6 _ _<|by rw[XH,L.1]];refine(X.sw.tl).bh<|List.Perm.cons _ ?_;rw[XP,XL];exact X6.symm
def LnI.e(h:LnI O rs l x l.length ov y)(L:l.length<=1000000000):∃g c y3,(Builtin.append_ #[35,35] 35 #[ov,sL y.heap.size 1 1]).run prog (y.alloc<|.cells (mC 3 2).toArray 34)=.ok (sL g (l.length+1) c) y3/\l.length+1<=c/\∃C,Ltd l C/\Sep O (fp 34 10 (sL g (l.length+1) c) (l.length+1) (rD l (LM C)++mC 3 2)::(C.map (rh 2)++rs)) y3/\Below O x y3:=by let⟨C,E,D,G⟩:=h;rw[ZK]at E D;let⟨J,I,L,s2,b2⟩:=D.ca (t:=35) (Oa (c:=3) K3) (mC 3 2) W (GS K3 2) (by grind[maxLen]) (by show(l.length+1)*104<=_;omega);obtain⟨g,c,rfl,H⟩:=tE s2.hd wq;exact⟨g,c,I,L,H,C,E,s2,G.trans b2⟩
end
def eqInt9(x y:Int)(w:WD):(Op.equalIn 9998 22 (iU x)<|iU y).run prog w=.ok (x==y) w:=run_equalIn_int w 9997 22 .u64 .u64 x y underlying22
def eq4_9(x0 x1 x2 x3 C G E D:Int)(w:WD):(Op.equalIn 9999 24 (.agg #[iU x0,iU x1,iU x2,iU x3])<|.agg #[iU C,iU G,iU E,iU D]).run prog w=.ok (x0==C&&(x1==G&&(x2==E&&x3==D))) w:=by obtain⟨i,H, -⟩:=Y1.1 (show(prog.info? 22).map (λi=>i.size)=some 1 by kernel_rfl);rw[run_equalIn_array w 9998 _ _ underlying24 H,show List.range 4=[0,1,2,3] from W,Nx];simp only[Op.eqItems,ZU,ZO,V6,V8,WO,WK,Y2,eqInt9,Sem.run_ite,ZV];cases H:(x0==C)<;>cases H:(x1==G)<;>cases H:(x2==E)<;>cases H:(x3==D)<;>rfl
def M7{C:Ys}(o:Nat)(w:WD):(part 24 C o).run prog w=.ok (.agg<|C.extract o<|o+4) w:=by let⟨i,D,E⟩:=Y1.1 (show(prog.info? 24).map (λi=>i.size)=some 4 by kernel_rfl);simp[part,isAgg,Zm underlying24,D,E,sizeOf,typeInfo,go_sem]
def Ez:(prog.fieldsOf 54).toList.map (λf=>(f.name,f.type,f.offset))=[("Key",24,0),("Value",24,4)]:=N0
def GW:prog.underlying 54=some (.struct<|prog.fieldsOf 54):=N0
def LC:prog.stoodInHeld 54=false:=N0
abbrev Iy(k v:Nat):VL:=.agg #[.int .u64<|cX k 0,.int .u64<|cX k 1,.int .u64<|cX k 2,.int .u64<|cX k 3,.int .u64<|cX v 0,.int .u64<|cX v 1,.int .u64<|cX v 2,.int .u64<|cX v 3]
def eqw9(a b:Nat)(w:WD):(Op.equalIn 9999 24 (wv a)<|wv b).run prog w=.ok (gN a b) w:=by rw[eq4_9,uE]
theorem P4(k v D C:Nat)(w:WD):(Op.equalIn 10000 54 (Iy k v)<|Iy D C).run prog w=.ok (gN k D&&gN v C) w:=by
 rw[run_equalIn_struct w 9999 _ _ _ GW LC];have P:=Ez;generalize(prog.fieldsOf 54).toList=fs at P;match fs,P with
 |[],P=>cases P
 |[_],P=>simp at P
 |_::_::_::_,P=>simp at P
 |[f1,f2],P=>
  simp only[List.map_cons,List.map_nil,List.cons.injEq,XV,and_true]at P;let⟨⟨J,H,O⟩,L,G,I⟩:=P;have E:∀k v w,(part 24 #[lu k 0,lu k 1,lu k 2,lu k 3,lu v 0,lu v 1,lu v 2,lu v 3] 0).run prog w=.ok (wv k) w:=λk v w=>(M7 0 w).trans W;have p2:∀k v w,(part 24 #[lu k 0,lu k 1,lu k 2,lu k 3,lu v 0,lu v 1,lu v 2,lu v 3] 4).run prog w=.ok (wv v) w:=λk v w=>(M7 4 w).trans W;have P:f1.name≠ "_":=by rw[J];decide
  have Q:f2.name≠ "_":=by rw[L];decide
  unfold Op.eqFields;rw[At P,H,O];simp only[ZU,E,Y2,eqw9,Sem.run_ite];unfold Op.eqFields;rw[At Q,G,I];simp only[ZU,p2,Y2,eqw9,Sem.run_ite];unfold Op.eqFields;simp only[ZV];cases gN k D<;>cases gN v C<;>rfl
def lsl_eq(c:List<|Nat×Nat)(w:WD)(h:SlIn w v c)(m:SlIn w v' c)(l:c.length<=9223372036854775807):cP 73 #[v,v'] w (rT (.bool true) w):=by
 obtain⟨N,b,rfl,d⟩:=h;obtain⟨y,A,rfl,O⟩:=m;let⟨L,Y⟩:=dP c.length;rw[<-Y.aa];have K:L<=9223372036854775807:=by rwa[Y.aa]
 clear l;have S:=cV d;have Z:=cV O;clear d O;go_enter func73,ntmps73;go_wp2;go_loopw[5] (λt5 wr=>∃i:Nat,i<=L/\t5=iI (i:Int)/\Hd (bW w wr)) (λt5 _=>L-nI t5);case atStart=>exact⟨0,In _,W,dO _ _⟩
 obtain⟨j,P,rfl,I⟩:=hrel;by_cases U:j<L
 .have X:=dN j L;have E:j<c.length:=by rwa[<-Y.aa]
  obtain⟨g2,F,rfl,J,D⟩:=S.aa.resolve_left (λe=>by rw[e]at E;exact absurd E K2);obtain⟨o,f,rfl,G,C⟩:=Z.aa.resolve_left (λe=>by rw[e]at E;exact absurd E K2);obtain⟨k8,R⟩:∃k8:Nat,Hd (k8=c[j].1):=⟨c[j].1,cV W⟩
  obtain⟨Q,V⟩:∃Q:Nat,Hd (Q=c[j].2):=⟨c[j].2,cV W⟩
  have ul:=D j c[j]<|iN E;have H:=C j c[j]<|iN E;rw[<-R.aa,<-V.aa]at ul H;have T:=Ce (z:=8) λj P=>(I.cell<|by exact J).trans<|ul j P;simp only[A3,A0,jL,eU,XN,XG,Nat.reduceAdd]at T;have g:=Ce (z:=8) λj P=>(I.cell<|by exact G).trans<|H j P;simp only[A3,A0,jL,eU,XN,XG,Nat.reduceAdd]at g;have p:∀w,(Op.equalIn 10000 54 (Iy k8 Q)<|Iy k8 Q).run prog w=.ok true w:=λw=>by rw[P4,jg W,jg W];rfl
  clear ul H D C J G
  as_aux_lemma=>
   go_wp2;go_quiet (fail)
   as_aux_lemma=>go_wp2;exact⟨⟨j+1,wq,N1,A2 I _⟩,by simp[nI];omega⟩
 have X:=dG j L;go_wp2;go_ret;exact⟨W,I⟩
def yQ(l:List AcE)(w:WD)(h:AcIn w v l)(c:AcIn w v' l)(q:l.length<=9223372036854775807)(N:∀a∈l,a.ar.length<=9223372036854775807):cP 45 #[v,v'] w (rT (.bool true) w):=by
 obtain⟨b,cp,rfl,u⟩:=h;obtain⟨b,k,rfl,n⟩:=c;let⟨L,b⟩:=dP l.length;rw[<-b.aa];have c:L<=9223372036854775807:=by rwa[b.aa]
 have c:=cV N;clear q N;have HS:=cV u;have q:=cV n;clear u n;go_enter func45,ntmps45;go_wp2;go_loopw[5] (λt5 wr=>∃i:Nat,i<=L/\t5=iI (i:Int)/\Hd (bW w wr)) (λt5 _=>L-nI t5);case atStart=>exact⟨0,In _,W,dO _ _⟩
 obtain⟨i,u,rfl,r⟩:=hrel;by_cases Y:i<L;case neg=>have u:=dG i L;go_wp2;go_ret;exact⟨W,r⟩
 have u:=dN i L;have C:i<l.length:=by rwa[<-b.aa]
 obtain⟨g,o,rfl,F,J⟩:=HS.aa.resolve_left (λe=>by rw[e]at C;exact absurd C K2);obtain⟨f,p,rfl,U,E⟩:=q.aa.resolve_left (λe=>by rw[e]at C;exact absurd C K2);obtain⟨a,T⟩:∃a,Hd (a=l[i]):=⟨l[i],cV W⟩
 let⟨sl,m,Q⟩:=J i l[i]<|iN C;let⟨b,G,D⟩:=E i l[i]<|iN C;rw[<-T.aa]at m Q G D;let⟨q,P,a0,u⟩:=a;dsimp only at m Q G D;have a2:u.length<=9223372036854775807:=by have h9:=c.aa l[i]<|Ya C;rw[<-T.aa]at h9;exact h9
 have a1:Hd (∀x,bW w x->cP 73 #[sl,b] x λe y=>e=.returned (.bool true)/\bW x y):=λx H=>lsl_eq u x (Q.below H) (D.below H) a2;obtain⟨Z,d,rfl,c⟩:=Q;obtain⟨I,O,rfl,a3⟩:=D;let⟨z,b⟩:=dP u.length;rw[<-b.aa]at m G a1 a2;have A:Hd (cL w g (o+i*10+9)<|.slice Z z d):=m 9 wq;have R:Hd (cL w f (p+i*10+9)<|.slice I z O):=G 9 wq;have S:=cV F;have V:=cV U;have b:=cV m;have X:=cV G;clear m G J E F U c a3;go_upto_region 6 with fail
 refine Gs [(0,(.slice (some ⟨g,o,none⟩) L cp)),(1,(.slice (some ⟨f,p,none⟩) L k)),(5,(iI (i:Int)))] (nV 18 [.slice (some ⟨g,o,none⟩) L cp,iI (i:Int),pq g<|o+i*10,pq g<|o+i*10+9,.slice Z z d,.slice (some ⟨f,p,none⟩) L k,iI (i:Int),pq f<|p+i*10,pq f<|p+i*10+9,.slice I z O,.bool true]++[(some 6,.v<|.bool true)]) [2,4,7,9,10] W PY r ⟨(js λs x c K u=>gK 10 (c 18 _ W) (c 19 _ W) Y u),(jc W λx H=>(H.cell<|by exact S).trans A),(js λs x c K u=>gK 10 (c 23 _ W) (c 24 _ W) Y u),(jc W λx H=>(H.cell<|by exact V).trans R),(jl W λx H=>a1 x H),AF⟩ λx H=>?_;simp only[n8,sx9];have c:=cV H;clear H;have r:∀j,j<10->cL x g (o+i*10+j) ((jL q P a0<|.slice Z z d)[j]!):=λj u=>(c.cell<|by exact S).trans<|b j u;have t:∀j,j<10->cL x f (p+i*10+j) ((jL q P a0<|.slice I z O)[j]!):=λj u=>(c.cell<|by exact V).trans<|X j u;have u:=Ce r;simp only[A3,A0,jL,eU,XN,XG,Nat.reduceAdd]at u;have u:=Ce t;simp only[A3,A0,jL,eU,XN,XG,Nat.reduceAdd]at u;have u:∀w,(Op.equalIn 10000 24 (wv q)<|wv q).run prog w=.ok true w:=λw=>by rw[ig,jg W]
 have q:∀w,(Op.equalIn 10000 24 (wv P)<|wv P).run prog w=.ok true w:=λw=>by rw[ig,jg W]
 clear r t b X A R
 as_aux_lemma=>
  go_wp2;go_quiet (fail)
  as_aux_lemma=>go_wp2;exact⟨⟨i+1,wq,N1,A2 c _⟩,by simp[nI];omega⟩
theorem VZ:∀(L:List LogE)(tv:Tn),qM L tv=(L.zip tv).flatMap λp=>wI p.1 p.2
 |[],tv=>by cases tv<;>rfl
 |a::l,[]=>rfl
 |a::l,s::r=>by show wI a s++qM l r=_;rw[VZ l r];rfl
def P9{L:List LogE}(h:tv.length=L.length)(hi:i<L.length)(j:Nat)(C:j<6):(qM L tv)[i*6+j]?=(wI L[i]<|tv[i]'(h▸hi))[j]? :=by rw[VZ,oW (f:=λp:LogE×VL=>wI p.1 p.2) (λ_=>W) (L.zip tv) i (by rw[List.length_zip];omega) j C,List.getElem_zip]
def V4{L:List LogE}(h:Low x 0 (.slice ad n cp) tv L)(i:Nat)(hi:i<L.length):∃g t,ad=some ⟨g,0,none⟩/\g<x.heap.size/\(∀j u,j<6->(wI L[i] t)[j]?=some u->cL x g (i*6+j) u)/\Wds x 0 t L[i].aM:=by let⟨E,D,H⟩:=h;obtain⟨-,g,rfl,I,J, -⟩:=fH D i hi;exact⟨g,_,W,I,λj u C G=>J j u C<|(P9 E hi j C).trans G,H i L[i] _ (iN hi)<|iN wq⟩
def SO{c:Tn}(l:List LogE)(w:WD)(h:Low w 0 v tv l)(b:Low w 0 v' c l)(e:l.length<=9223372036854775807)(F:∀a∈l,a.aM.length<=9223372036854775807):cP 42 #[v,v'] w (rT (.bool true) w):=by
 obtain⟨ad,cp,rfl⟩:=dt h.2.1;obtain⟨c,c,rfl⟩:=dt b.2.1;let⟨L,c⟩:=dP l.length;rw[<-c.aa]at h b⊢;have r:L<=9223372036854775807:=by rwa[c.aa]
 have r:=cV F;clear e F;have HS:=cV h;have e:=cV b;clear h b;go_enter func42,ntmps42;go_wp2;go_loopw[5] (λt5 wr=>∃i:Nat,i<=L/\t5=iI (i:Int)/\Hd (bW w wr)) (λt5 _=>L-nI t5);case atStart=>exact⟨0,In _,W,dO _ _⟩
 obtain⟨i,b,rfl,J⟩:=hrel;by_cases hlt:i<L;case neg=>have b:=dG i L;go_wp2;go_ret;exact⟨W,J⟩
 have b:=dN i L;have A:i<l.length:=by rw[<-c.aa];exact hlt
 obtain⟨g,t,rfl,T,s,c⟩:=V4 HS.aa i A;obtain⟨Y,b,rfl,p,Z,O⟩:=V4 e.aa i A;obtain⟨a,S⟩:∃a,Hd (a=l[i]):=⟨l[i],cV W⟩
 rw[<-S.aa]at s Z c O;let⟨I,U,Q⟩:=a;have e:U.length<=9223372036854775807:=by have b:=r.aa l[i]<|Ya A;rwa[<-S.aa]at b
 dsimp only at c O;obtain⟨r,b,rfl⟩:=dt c;obtain⟨m,o,rfl⟩:=dt O;let⟨P,K⟩:=dP U.length;rw[<-K.aa]at s Z e c O;have z:Hd (g<w.heap.size/\∀j u,j<6->(wI ⟨I,U,Q⟩<|.slice r P b)[j]?=some u->cL w g (i*6+j) u):=⟨T,s⟩
 have V:Hd (Y<w.heap.size/\∀j u,j<6->(wI ⟨I,U,Q⟩<|.slice m P o)[j]?=some u->cL w Y (i*6+j) u):=⟨p,Z⟩
 have HW:=cV c;have e:=cV O;clear s Z T p c O;have H:Hd (∀x,bW w x->∀j u,j<6->(wI ⟨I,U,Q⟩<|.slice r P b)[j]?=some u->cL x g (i*6+j) u):=λx c j u k N=>(c.cell<|by exact z.1).trans<|z.2 j u k N;have D:Hd (∀x,bW w x->∀j u,j<6->(wI ⟨I,U,Q⟩<|.slice m P o)[j]?=some u->cL x Y (i*6+j) u):=λx c j u k N=>(c.cell<|by exact V.1).trans<|V.2 j u k N;clear z V;have c0:cL wr g (i*6) (lu I 0):=H.aa wr J 0 _ wq W;have c1:cL wr g (i*6+1) (lu I 1):=H.aa wr J 1 _ wq W;have c2:cL wr g (i*6+2) (lu I 2):=H.aa wr J 2 _ wq W;have c3:cL wr g (i*6+3) (lu I 3):=H.aa wr J 3 _ wq W;have c4:cL wr g (i*6+4) (.slice r P b):=H.aa wr J 4 _ wq W;have c5:cL wr g (i*6+5) (.string Q):=H.aa wr J 5 _ wq W;have d0:cL wr Y (i*6) (lu I 0):=D.aa wr J 0 _ wq W;have d1:cL wr Y (i*6+1) (lu I 1):=D.aa wr J 1 _ wq W;have d2:cL wr Y (i*6+2) (lu I 2):=D.aa wr J 2 _ wq W;have d3:cL wr Y (i*6+3) (lu I 3):=D.aa wr J 3 _ wq W;have d4:cL wr Y (i*6+4) ((.slice m P o)):=D.aa wr J 4 _ wq W;have d5:cL wr Y (i*6+5) (.string Q):=D.aa wr J 5 _ wq W;have c:∀w,(Op.equalIn 10000 24 (wv I)<|wv I).run prog w=.ok true w:=λw=>by rw[ig,jg W]
 as_aux_lemma=>
  go_wp2;go_quiet (fail)
  as_aux_lemma=>
   go_wp2;have C:Hd (bW w<|wr.drewN nq):=A2 J nq;clear c0 c1 c2 c3 c4 c5 d0 d1 d2 d3 d4 d5 c;go_loopw[6] (λc wr=>∃j:Nat,j<=P/\c=iI (j:Int)/\Hd (bW w wr)) (λc _=>P-nI c);case atStart=>exact⟨0,In _,W,C⟩
   clear C;obtain⟨j,k,rfl,C⟩:=hrel;have c4:cL wr g (i*6+4) (.slice r P b):=H.aa wr C 4 _ wq W;have d4:cL wr Y (i*6+4) (.slice m P o):=D.aa wr C 4 _ wq W;by_cases b:j<P
   .have r:=dN j P;have y:j<U.length:=by rwa[<-K.aa]
    obtain⟨-,g2,rfl,X,b, -⟩:=fH HW j y;obtain⟨-,d,rfl,G,R, -⟩:=fH e j y;obtain⟨k8,c⟩:∃k8:Nat,Hd (k8=U[j]):=⟨U[j],cV W⟩
    have E:∀q u,q<4->(eU k8)[q]?=some u->(fj U)[j*4+q]?=some u:=λq u e N=>(oW (f:=eU) (λ_=>W) U j y q e).trans (by rw[<-c.aa];exact N);have c:cL wr g2 (j*4) (lu k8 0):=(C.cell<|by exact X).trans<|b 0 _ wq<|E 0 _ wq W;have c:cL wr g2 (j*4+1) (lu k8 1):=(C.cell<|by exact X).trans<|b 1 _ wq<|E 1 _ wq W;have c:cL wr g2 (j*4+2) (lu k8 2):=(C.cell<|by exact X).trans<|b 2 _ wq<|E 2 _ wq W;have c:cL wr g2 (j*4+3) (lu k8 3):=(C.cell<|by exact X).trans<|b 3 _ wq<|E 3 _ wq W;have c:cL wr d (j*4) (lu k8 0):=(C.cell<|by exact G).trans<|R 0 _ wq<|E 0 _ wq W;have c:cL wr d (j*4+1) (lu k8 1):=(C.cell<|by exact G).trans<|R 1 _ wq<|E 1 _ wq W;have c:cL wr d (j*4+2) (lu k8 2):=(C.cell<|by exact G).trans<|R 2 _ wq<|E 2 _ wq W;have c:cL wr d (j*4+3) (lu k8 3):=(C.cell<|by exact G).trans<|R 3 _ wq<|E 3 _ wq W;have c:∀w,(Op.equalIn 10000 24 (wv k8)<|wv k8).run prog w=.ok true w:=λw=>by rw[ig,jg W]
    clear b R X G E
    as_aux_lemma=>
     go_wp2;go_quiet (fail)
     as_aux_lemma=>go_wp2;exact⟨⟨j+1,wq,N1,A2 C _⟩,by simp[nI];omega⟩
   have r:=dG j P;go_wp2;exact⟨⟨i+1,wq,N1,C⟩,by simp[nI];omega⟩
abbrev sQ(l:List AcE)(ts:LT):Tn:=rD l (LM ts)++mC 3 2
def Ltd.at{l:List AcE}{ts:LT}(h:Ltd l ts){i:Nat}{a:AcE}(ha:l[i]?=some a):∃v,ts[i]?=some (v,a.ar.length+1,io a.ar++mC 2 1):=by
 have E:=(Do.1 ha).1;have C:i<ts.length:=by rwa[h.1]
 obtain⟨t,D⟩:∃t,ts[i]?=some t:=⟨_,iN C⟩
 exact⟨_,by rw[D,<-h.2 i t a D ha]⟩
def Ltd.hl{l:List AcE}{ts:LT}(h:Ltd l ts):(LM ts).length=l.length:=by rw[XH,h.1]
theorem JN{l:List AcE}{ts:LT}(h:Ltd l ts):(rD l<|LM ts).length=l.length*10:=by
 have:∀(l:List _)(s:List _),s.length=l.length->(rD l s).length=l.length*10:=by
  intro l;induction l with
  |nil=>intro s D;rfl
  |cons a l C=>
   intro s D;cases s with
   |nil=>cases D
   |cons b s=>grind[jL,rD,Xm,X2,YO,Nat.add_comm]
 exact this l _ h.hl
theorem IC{l:List AcE}{ts:LT}(h:Ltd l ts){i:Nat}{a:AcE}{v:VL}(ha:l[i]?=some a)(D:ts[i]?=some (v,a.ar.length+1,io a.ar++mC 2 1)){j:Nat}(C:j<10):(sQ l ts)[i*10+j]?=some ((jL a.aj a.ai a.ae<|zbB v a.ar.length)[j]!):=by have E:=(Do.1 ha).1;rw[Xv<|by grind[JN]];exact Bg l _ h.hl i a _ ha K9 j C
def QX{l:List AcE}{ts:LT}(h:Ltd l ts)(j:Nat):(sQ l ts)[l.length*10+j]?=(mC 3 2)[j]? :=by grind[Xx,JN,ZL]
abbrev G4(g c:Nat)(l:List AcE)(ts:LT):Rs:=fp 34 10 (.slice (some ⟨g,0,none⟩) (l.length+1) c) (l.length+1)<|sQ l ts
section
variable {l:List AcE}{ts:LT}{a:AcE}
def Ltd.aF(h:Ltd l ts)(P:Sep O (G4 g c l ts::((ts.drop i).map (rh 2)++rs)) y)(ha:l[i]?=some a):∃g2 c2,ts[i]?=some (sL g2 (a.ar.length+1) c2,a.ar.length+1,io a.ar++mC 2 1)/\a.ar.length+1<=c2/\cL y g (i*10+9) (sL g2 a.ar.length c2)/\(∀j u,j<8->(mC 2 1)[j]?=some u->cL y g2 (a.ar.length*8+j) u)/\Sep O (rh 2 (sL g2 (a.ar.length+1) c2,a.ar.length+1,io a.ar++mC 2 1)::G4 g c l ts::((ts.drop<|i+1).map (rh 2)++rs)) y:=by
 let⟨v,G⟩:=h.at ha;have Q:=(Do.1 ha).1;have hd:ts.drop i=(v,a.ar.length+1,io a.ar++mC 2 1)::ts.drop (i+1):=by grind[YT,iN,hV]
 have C:Sep O (rh 2 (v,a.ar.length+1,io a.ar++mC 2 1)::G4 g c l ts::((ts.drop<|i+1).map (rh 2)++rs)) y:=by rw[hd]at P;exact P.sw
 have E:y.ownsRow 0 54 8 v (a.ar.length+1) (io _++mC 2 1):=C.hd;obtain⟨g2,c2,rfl,J⟩:=tE E<|Nat.succ_pos _;refine⟨g2,c2,G,J,?_,λj u I L=>?_,C⟩
 .obtain⟨-,H,e, -,D, -⟩:=fH C.tl.hd i wq;injection e with e;injection e with e;subst e;exact D 9 _ wq<|IC h ha G wq
 obtain⟨-,H,e, -,D, -⟩:=fH E a.ar.length<|YS _;injection e with e;injection e with e;subst e;refine D j u I ?_;show(io a.ar++mC 2 1)[a.ar.length*8+j]?=some u;grind[Xx,te,ZL]
theorem Ltd.in(h:Ltd l ts)(hs:Sep O (G4 g c l ts::(ts.map (rh 2)++rs)) y):AcIn y (sL g l.length c) l:=by
 refine⟨_,c,rfl,A4 ⟨g,0,rfl,(hs.hd.lt g rfl).2,λi a E=>?_⟩⟩;obtain⟨v,G⟩:=h.at E;have hi:=(Do.1 E).1;refine⟨zbB v a.ar.length,λj I=>?_,?_⟩
 .obtain⟨-,H,e, -,D, -⟩:=fH hs.hd i wq;injection e with e;injection e with e;subst e;rw[XF];grind[IC]
 have C:y.ownsRow 0 54 8 v (a.ar.length+1) (io _++mC 2 1):=(hs.i _<|IN _<|Xw _<|Xq.2 ⟨_,Xe G,rfl⟩).1;obtain⟨g2,c2,rfl,J⟩:=tE C<|Nat.succ_pos _;refine⟨_,c2,rfl,A4 ⟨g2,0,rfl,(C.lt g2 rfl).2,λk p hp j I=>?_⟩⟩;have hk:=(Do.1 hp).1;obtain⟨-,H,e, -,D, -⟩:=fH C k wq;injection e with e;injection e with e;subst e;rw[XF];grind[Xv,te,qi]
end
section
variable {B:Nat}
def nz(fr Z B:Nat)(data:BA)(g:Int):VL:=.agg #[.int .u64<|cX fr 0,.int .u64<|cX fr 1,.int .u64<|cX fr 2,.int .u64<|cX fr 3,.int .u64<|cX Z 0,.int .u64<|cX Z 1,.int .u64<|cX Z 2,.int .u64<|cX Z 3,.int .u64<|cX B 0,.int .u64<|cX B 1,.int .u64<|cX B 2,.int .u64<|cX B 3,.string data,.int .i64 g]
def Bz(fr Z B:Nat)(data:BA)(g:Int)(h:¬(data.size<=500/\0<=g/\g<=100000))(w:WD):cP 30 #[nz fr Z B data g] w (rT (.bool false) w):=by
 unfold nz;by_cases I:data.size<=500
 .have D:=dT<|(data.size:Int)<=500;by_cases E:0<=g
  .have C:decide (0<=g)=true:=OsQ E;have G:=dF<|g<=100000;have H:¬g<=100000:=wq
   clear h;go_enter func30,ntmps30;go_wp2;exact IE W W ⟨W,ai (dO _ w) _⟩
  have C:decide (0<=g)=false:=W8 E;clear h;go_enter func30,ntmps30;go_wp2;exact IE W W ⟨W,ai (dO _ w) _⟩
 have D:=dF<|(data.size:Int)<=500;clear h;go_enter func30,ntmps30;go_wp2;exact IE W W ⟨W,ai (dO _ w) _⟩
def Re(fr Z:Nat)(g:Int)(h:¬(data.size<=500/\0<=g/\g<=100000))(w:WD):cP 13 #[pt gb,nz fr Z B data g] w (rT (.tuple #[iy 0 0 ⟨#[]⟩ dL,iI 1]) w):=by
 have D:=cV<|λw=>Bz fr Z B data g h w;clear h;unfold nz at D⊢;go_enter func13,ntmps13;go_wp2_with fail
 refine(D _).mono ?_;rintro e x⟨rfl,V⟩;obtain⟨⟨k0,G,R,E⟩,I,J,Q,U⟩:ResAt x (w.heap.size+1) 0 0 ⟨#[]⟩ dL:=ResAt.below (by unfold ResAt;simp[go_sem]) V;have L:Hd (bW w x):=(ai (ai (dO _ w) _) _).trans<|V.mono N3;unfold dL at E;clear V;have P:=cV<|show ResAt x (w.heap.size+1) 0 0 ⟨#[]⟩ dL from⟨⟨k0,G,R,E⟩,I,J,Q,U⟩;go_wp2;have C:bW w (gB x (w.heap.size+1) 0 0 ⟨#[]⟩ dL):=kr (kr (kr (kr L K2) K2) K2) K2;let⟨⟨H,V,X,O⟩,_⟩:=P.aa.put (st:=0) (gs:=0) (aa:=⟨#[]⟩) (lv:=dL);change bodyPost _ _ _ _ _ (gB x (w.heap.size+1) 0 0 ⟨#[]⟩ dL);generalize gB x (w.heap.size+1) 0 0 ⟨#[]⟩ dL=y at*;exact sp (v:=.tuple #[iy 0 0 ⟨#[]⟩ dL,iI 1]) (by simp[results,results13,go_sem,iy,dL,H,V,X,O]) W ⟨W,C⟩
variable {fr nx:Nat}
section
variable {c:BA}{st:Tl}
def ox{α:Type}{L:List α}{l:List α}(h:o+l.length<=L.length):(splice L o l).length=L.length:=by unfold splice;simp only[Xm,XB,X8];omega
end
def dd:Tl->Tl
 |[]=>[]
 |k::r=>if k∈dd r then dd r else k::dd r



section
open Go.RowKit Go.Lib Go.Maps Go.WideMaps
end
section
open Go.RowKit Go.Lib Go.Maps
end
section
open Go.RowKit Go.Lib Go.Maps
end

section
open Go.RowKit Go.Lib Go.Maps
end

def AcOwn.kb{l:List AcE}(h:AcOwn O v l x)(P:Kb S x y)(L:∀k∈S,k<O):AcOwn O v l y:=by
 let⟨C,G,E,H⟩:=h.ex;have N:∀{e size n:Nat}{u:VL}{xs:Tn},x.ownsRow O e size u n xs->y.ownsRow O e size u n xs:=λD=>P.aD D λk P I=>by have:=(D.lt k P).1;have:=L k I;omega
 exact⟨C,G,N E,λi a Q J P=>N<|H i a Q J P⟩
end
end cin
end Go.Proofs.YtohoajjdoihekaaGreatDoor
