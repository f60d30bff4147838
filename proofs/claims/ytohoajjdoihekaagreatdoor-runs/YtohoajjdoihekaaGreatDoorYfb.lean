import Derived.Test.YtohoajjdoihekaaGreatDoorAf
import Derived.Laws.StructEq
import Derived.Maps.Views
set_option linter.unusedVariables false
set_option linter.unusedSimpArgs false
set_option linter.defProp false
namespace Go.Proofs.YtohoajjdoihekaaGreatDoor
namespace cin
open Go.RowKit Go.Maps Go.Proofs.Tryz Tryz
set_option maxRecDepth 100000
set_option maxHeartbeats 8000000
variable {xs tv sls cs:Tn}{x wr y w:WD}{O bb c n mb N i g cp m d o t sz by' ab gb fr pc off pb hb J p k gs Z oa ac xb H Y E t1 t2 gv:Nat}{G':Nat->VL×Tn}{rs:List Rs}{v v1 ov v' pv lv X C:VL}{ad:Gj}{data src cd:BA}{wk:Wk}{mem:Vf}{T:TS}{s:Act}{pos:String}{af:U9}{gd:U6}{K:K6}{Q:Y6}{S ts:Tl}{A:Nat->Acc}{sb:Vp}{Jq9:X4}{I:Vm}{es:Es}{ty:Vr}{pu:List Pur}{R' R Ry:RS}{F1 F F' G:Fz}{P:RW}{strict br:Bool}{run:RS->RS}{L l:hZ}
section
variable {x0:WD}
def CsU(x:WD)(b o:Nat)(Uq9:Vp):Nat->Prop
 |0=>True
 |n+1=>CsU x b o Uq9 n/\x.cell? ⟨b,o+n,none⟩=some (Uq9 n)
theorem cs_u{x:WD}{b o:Nat}:∀{m:Nat},(∀j,j<m->∃u,cL x b (o+j) u)->CsU x b o (λj=>(x.cell? ⟨b,o+j,none⟩).getD undef) m
 |0,_=>trivial
 |m+1,h=>⟨cs_u λj D=>h j (by omega),by let⟨u,C⟩:=h m (by omega);simp[C]⟩
structure BkG(G G':Nat->VL×Tn)(c m:Nat):Prop where
 len:(G' c).2.length=(G c).2.length+m
 bH:∀k,k≠c->G' k=G k
section
variable {G:Nat->VL×Tn}{l:VL}
def FillI(O bb:Nat)(G:Nat->VL×Tn)(c:Nat)(l:VL)(n mb N:Nat)(rs:List Rs)(x0:WD)(i:Nat)(wr:WD):=∃xs,Sep O (fp (eT c) (cZ c) l n xs::eH bb G::gj mb (eT c) (mC c N)::rs) wr/\Below O x0 wr/\xs.take (i*cZ c)=tg i (mC c N)
def FillI.next(h:FillI O bb G c (sL g n cp) n mb N rs x0 i wr)(E:c<4)(Q:i<n):FillI O bb G c (sL g n cp) n mb N rs x0 (i+1) (Vy wr g (i*cZ c) (mC c N)):=by
 let⟨xs,D,L,P⟩:=h;have U:i*cZ c+(mC c N).length<=n*cZ c:=by rw[BP E];have:=Yf (cZ c) (show i+1<=n from Q);rw[YO]at this;omega
 let⟨H,I⟩:=Sep.puts (mC c N) xs (i*cZ c) wr D U;refine⟨_,H,L.trans I,?_⟩;have J:xs.length=n*cZ c:=D.hd.1;have C:=Ae (mC c N) xs (i*cZ c) (by rw[J];exact U);rw[BP E]at C;rw[YO,Nat.one_mul,C,P,E0]
def FillI.at{H:Gj}(h:FillI O bb G c (.slice H n cp) n mb N rs x0 i wr)(J:c<4)(E:i<n):∃g D,H=some ⟨g,0,none⟩/\CsU wr g (i*cZ c) D (cZ c)/\(∀o,wr.frozen? ⟨g,o,none⟩=false)/\rowL wr mb (eT c) (mC c N):=by let⟨xs,C,P,Q⟩:=h;have L:xs.length=n*cZ c:=C.hd.1;obtain⟨_,g,rfl,_,U,V⟩:=fH C.hd i E (hz:=PF J);refine⟨g,_,W,cs_u λj I=>?_,V,C.tl.tl.hd⟩;have:=Yf (cZ c) (show i+1<=n from E);rw[YO]at this;exact⟨_,U j _ I (iN (by omega))⟩
def HandI(O bb:Nat)(G:Nat->VL×Tn)(c mb N:Nat)(rs:List Rs)(x0:WD)(i m:Nat)(l:VL)(wr:WD):=∃G',Sep O (WP bb G' c l m N::gj mb (eT c) (mC c N)::rs) wr/\Below O x0 wr/\BkG G G' c i
def FillI.done(h:FillI O bb G c l n mb N rs x0 n wr)(H:c<4)(I:N=(G c).2.length):HandI O bb G c mb N rs x0 0 n l wr:=by let⟨xs,C,E,D⟩:=h;have J:xs.length=n*cZ c:=C.hd.1;rw[XA (by omega)]at D;subst D I;exact⟨G,C.sw.take H,E,W,λ_ _=>W⟩
def HandI.bQ(h:HandI O bb G c mb N rs x0 i m l wr)(E:c<4)(Y:N=(G c).2.length)(R:N%4=0)(U:i<4)(V:N<=4000000000000):∃Z C y,cL wr bb c Z/\(∃a n p,Z=.slice a n p)/\(∃a n p,C=.slice a n p)/\(Builtin.append_ #[oT c,oT c] (oT c) #[Z,sL wr.heap.size 1 1]).run prog (wr.alloc (.cells #[l] (iT c)))=.ok C y/\cL y bb c Z/\y.frozen? ⟨bb,c,none⟩=false/\HandI O bb G c mb N rs x0 (i+1) m l (y.setCell ⟨bb,c,none⟩ C):=by
 let⟨G',D,J,H⟩:=h;have b:=H.len;let⟨C,y,d,f,r3,P,Q,L⟩:=D.bQ E (by rw[b];omega) (by omega);have Z:[(G' 0).1,(G' 1).1,(G' 2).1,(G' 3).1][c]?=some (G' c).1:=by rcases Mg E with rfl|rfl|rfl|rfl<;>rfl
 let⟨j,X,I⟩:=dt (D.hd.aa c E);refine⟨(G' c).1,C,y,rowL.cell D.hd.row Z,⟨_,_,_,I⟩,f,d,r3,P,_,Q,J.trans L,?_,λk Z=>?_⟩
 .rw[At W,Xm,b];rfl
 rw[iF Z];exact H.bH k Z
def HandI.mark(h:HandI O bb G c mb N rs x0 i m l wr)(J:c<4)(E:m+1<=1000000001000):rowL wr mb (eT c) (mC c N)/\∃C y,(Builtin.append_ #[iT c,iT c] (iT c) #[l,sL wr.heap.size 1 1]).run prog (wr.alloc (.cells (mC c N).toArray (eT c)))=.ok C y/\(∃a p,C=.slice a (m+1) p)/\HandI O bb G c mb N rs x0 i (m+1) C y:=by let⟨G',D,H,I⟩:=h;let⟨C,y,P,L,r3⟩:=D.mark J E;exact⟨D.tl.hd,C,y,P,dt L.hd.aD,G',L,H.trans r3,I⟩
def HandI.aa(h:HandI O bb G c mb N rs x0 i m l wr):∃G',Sep O (eH bb G'::rs) wr/\Below O x0 wr/\BkG G G' c i:=by let⟨G',D,C,E⟩:=h;exact⟨G',D.let.sw.tl,C,E⟩
def HandI.sl(h:HandI O bb G c mb N rs x0 i m l wr):∃a p,l=.slice a m p:=by let⟨G',C,D,E⟩:=h;exact dt C.hd.aD
end
def jv{c f:Nat}(w:(c=0/\f=72)\/(c=2/\f=65)){O bb n:Nat}{G:Nat->VL×Tn}{l:VL}{rs:List Rs}(h:Sep O (eH bb G::fp (eT c) (cZ c) l n xs::rs) x)(r:(G c).2.length%4=0)(T:(G c).2.length<=4000000000000)(hn:n<=1000000000000):Calls prog f #[pt bb,l] x λe y=>e=AG/\∃G',Sep O (eH bb G'::rs) y/\Below O x y/\BkG G G' c 4:=by
 have P:Hd (c<4):=cV (by omega);obtain⟨N,V⟩:=dP ((G c).2.length);have hN:N<=4000000000000:=by rwa[V.aa]
 have a:Hd (N%4=0):=by rwa[V.aa]
 obtain⟨u,cp,rfl⟩:=dt h.tl.hd;obtain⟨b,b,S⟩:=dt (h.hd.aa c P.aa);have b:x.cell? ⟨bb,c,none⟩=some (G c).1:=rowL.cell h.hd.row (by rcases Mg P.aa with rfl|rfl|rfl|rfl<;>rfl);rw[S,<-V.aa]at b;have A:=cV h;clear h S r T;rcases w with⟨e,rfl⟩|⟨e,rfl⟩
 all_goals
  have R:=cV e;rw[e]at b;clear e
  first|go_enter func72,ntmps72|go_enter func65,ntmps65
  go_wp2_with(first|(go_at_call 47;refine(kk N (by omega) _).mono ?_;rintro e z⟨rfl,Q⟩)|fail)
  have H:Hd (FillI O bb G c (.slice u n cp) n z.heap.size N rs x 0 (z.alloc (.cells (mC c N).toArray (eT c)))):=⟨xs,((A.aa.below Q).row (mC c N) _).bG.cD,(ai Q _).mono A.aa.s,by rw[YB];rfl⟩;rw[R.aa]at H;clear A Q b
  go_loopw[5] (λt wr=>∃i:Nat,i<=n/\t=.int .i64 (i:Int)/\Hd (FillI O bb G c (.slice u n cp) n z.heap.size N rs x i wr)) (λt _=>n-nI t)
  case atStart=>exact⟨0,In _,W,by rw[R.aa];exact H.aa⟩
  case round=>
   clear H;obtain⟨i,b,rfl,H⟩:=hrel;by_cases U:i<n
   .have hd:=dN i n;obtain⟨g,b,rfl,b,u,C⟩:=H.aa.at P.aa U;have m:=C.cs;have d:=H.aa.next P.aa U;rw[R.aa]at b m d;simp only[cZ,mC,mW,z4,oI,CsU,Vy,Nat.reduceAdd,Ye,XN,XG]at b m d;replace H:=cV d;clear d C;go_wp2;exact⟨⟨i+1,by omega,by go_num,by rw[R.aa];exact H.aa⟩,by simp[nI];omega⟩
   .have hd:=dG i n;have X:i=n:=by omega
    rw[X]at H;have E:=cV (H.aa.done P.aa V.aa);clear H X;go_wp2
    go_loopw[1,6,7] (λo p t3 wr=>∃i m:Nat,i<=4/\p=.int .i64 (i:Int)/\m<=n+61*i/\Hd (HandI O bb G c z.heap.size N rs x i m o wr)) (λ_ p _ _=>4-nI p)
    case atStart=>exact⟨0,n,by omega,W,by omega,E.aa⟩
    case round=>
     clear E hd;obtain⟨i,m,b,rfl,b,E⟩:=hrel;by_cases j:i<4
     case neg=>
      have hd:=dF ((i:Int)<4);rw[show i=4 by omega]at E;go_wp2;exact bodyPost_end (v:=.tuple #[]) (by simp[results,go_sem]) W ⟨W,E.aa.aa⟩
     have hd:=dT ((i:Int)<4);obtain⟨w,p1,rfl⟩:=E.aa.sl;obtain⟨b,b,y,u,⟨b,b,p2,rfl⟩,⟨a3,n3,p3,rfl⟩,I,K,r,b⟩:=E.aa.bQ P.aa V.aa a.aa j hN;obtain⟨C,a,y2,D,⟨a4,p4,rfl⟩,L⟩:=b.mark P.aa (by omega);obtain⟨F,J⟩:∃F,Hd (y.setCell ⟨bb,c,none⟩ (.slice a3 n3 p3)=F):=⟨_,W⟩;rw[J.aa]at C D;rw[R.aa]at u K r I D C J;replace I:=cV I;replace D:=cV D;replace L:=cV L;replace C:=cV C;clear b E
     go_upto_region 9 with(at_builtin;refine Lib.wpList_append_run _ rfl _ _ _ _ rfl _ _ rfl rfl _ _ I.aa ?_)
     rw[J.aa];clear J I u K r;have m:=C.aa.cs;simp only[mC,mW,z4,oI,Nat.reduceAdd,XN,XG]at m
     go_upto_region 10 with(at_builtin;refine Lib.wpList_append_run _ rfl _ _ _ _ rfl _ _ rfl rfl _ _ D.aa ?_)
     clear D m C;go_wp2
     go_loopw[1,7] (λo t3 wr=>∃k Y:Nat,k<=60/\t3=.int .i64 (k:Int)/\Y<=m+1+k/\Hd (HandI O bb G c z.heap.size N rs x (i+1) Y o wr)) (λ_ t3 _=>60-nI t3)
     case atStart=>exact⟨0,m+1,by omega,W,by omega,L.aa⟩
     case round=>
      clear L;obtain⟨k,Y,b,rfl,b,E⟩:=hrel
      have b:((k:Int)<60/\(i:Int)=2)\/decide ((k:Int)<60)=false\/(decide ((k:Int)<60)=true/\((i:Int)==2)=false):=by
       by_cases u:k<60
       .by_cases h2:i=2
        .exact LZ (by omega)
        .exact A4 (A4 ⟨OsQ (by omega),Xb.2 (by omega)⟩)
       .exact A4 (LZ (W8 (by omega)))
      rcases b with⟨Z,d2⟩|Z|⟨Z,d2⟩
      .have hk6:k<60:=by omega
       replace Z:decide ((k:Int)<60)=true:=OsQ Z;replace d2:((i:Int)==2)=true:=X1.2 d2;obtain⟨w,p1,rfl⟩:=E.aa.sl;obtain⟨C,a,y2,D,⟨a4,p4,rfl⟩,L⟩:=E.aa.mark P.aa (by omega);have q:=C.cs;rw[R.aa]at D q;simp only[mC,mW,z4,oI,Nat.reduceAdd,XN,XG]at q;replace D:=cV D;replace L:=cV L;clear E C;go_wp2_with(at_builtin;refine Lib.wpList_append_run _ W _ _ _ _ W _ _ W W _ _ D.aa ?_)
       exact⟨⟨k+1,Y+1,by omega,by go_num,by omega,L.aa⟩,by simp[nI];omega⟩
      all_goals
       go_wp2;exact⟨⟨i+1,Y,by omega,by go_num,by omega,E.aa⟩,by simp[nI];omega⟩
def rh(d:Nat)(t:VL×Nat×Tn):Rs:=fp (eT d) (cZ d) t.1 t.2.1 t.2.2
def EG(G G':Nat->VL×Tn)(g:Vq):=∀k,(G' k).2.length=(G k).2.length+g k
def BkG.u{G C:Nat->VL×Tn}(h:BkG G C c m):EG G C λk=>if k=c then m else 0:=λk=>by
 show _=_+(if k=c then m else 0);by_cases e:k=c
 .subst e;rw[At W];exact h.len
 rw[iF e,h.bH k e];rfl
def InI(O bb:Nat)(G:Nat->VL×Tn)(c d:Nat)(l:VL)(n:Nat)(xs:Tn)(ts:List (VL×Nat×Tn))(rs:List Rs)(x0:WD)(i:Nat)(wr:WD):=∃G',Sep O (eH bb G'::fp (eT c) (cZ c) l n xs::((ts.drop i).map (rh d)++rs)) wr/\Below O x0 wr/\EG G G' λk=>if k=d then 4*i else 0
def InI.at{O bb c d n i o:Nat}{G:Nat->VL×Tn}{I:Gj}{cp:Nat}{xs:Tn}{C:List (VL×Nat×Tn)}{rs:List Rs}{x0 wr:WD}(h:InI O bb G c d (.slice I n cp) n xs C rs x0 i wr)(Z:c<4)(V:i<n)(Y:C.length=n)(R:o<cZ c)(X:∀(i:Nat) t,C[i]?=some t->xs[i*cZ c+o]?=some t.1):∃g a m p u,I=some ⟨g,0,none⟩/\cL wr g (i*cZ c+o) (.slice a m p)/\C[i]?=some (.slice a m p,m,u)/\∃D,Sep O (eH bb D::fp (eT d) (cZ d) (.slice a m p) m u::(fp (eT c) (cZ c) (.slice I n cp) n xs::((C.drop (i+1)).map (rh d)++rs))) wr/\Below O x0 wr/\EG G D λk=>if k=d then 4*i else 0:=by
 let⟨D,H,Q,U⟩:=h;have E:i<C.length:=by omega
 have L:=iN E;obtain⟨_,g,rfl,_,b,_⟩:=fH H.tl.hd i V (hz:=PF Z);have J:=b o _ R (X i _ L);rw[YT E]at H;generalize C[i]=t at*;let⟨v,m,u⟩:=t;have P:Sep O (eH bb D::fp (eT d) (cZ d) v m u::(fp (eT c) (cZ c) (sL g n cp) n xs::((C.drop (i+1)).map (rh d)++rs))) wr:=H.cD;obtain⟨a,p,rfl⟩:=dt P.tl.hd;exact⟨g,a,m,p,u,W,J,L,D,P,Q,U⟩
def InI.next{G H C:Nat->VL×Tn}{l:VL}{E:List (VL×Nat×Tn)}(h:Sep O (eH bb C::(fp (eT c) (cZ c) l n xs::((E.drop (i+1)).map (rh d)++rs))) y)(L:Below O x0 wr)(D:Below O wr y)(J:EG G H λk=>if k=d then 4*i else 0)(I:BkG H C d 4):InI O bb G c d l n xs E rs x0 (i+1) y:=⟨C,h,L.trans D,λk=>by rw[I.u k,J k];dsimp only;split<;>omega⟩
def eh{f b:Nat}(w:(c=1/\d=0/\o=4/\f=43/\b=72)\/(c=3/\d=2/\o=9/\f=46/\b=65)){G:Nat->VL×Tn}{l:VL}{Y:List (VL×Nat×Tn)}(h:Sep O (eH bb G::fp (eT c) (cZ c) l n xs::(Y.map (rh d)++rs)) x)(V:Y.length=n)(hx:∀(i:Nat) t,Y[i]?=some t->xs[i*cZ c+o]?=some t.1)(hb:∀t∈Y,t.2.1<=1000000000000)(h4:∀k,(G k).2.length%4=0)(hG:∀k,(G k).2.length+4*n<=4000000000000)(hn:n<=1000000000000:=by omega):cP f #[pt bb,l] x λe y=>e=AG/\∃r,Sep O (eH bb r::rs) y/\Below O x y/\EG G r λk=>if k=c then 4 else if k=d then 4*n else 0:=by
 have I:Hd (c<4/\o<cZ c/\c≠d):=cV (by rcases w with⟨rfl,rfl,rfl, -⟩|⟨rfl,rfl,rfl, -⟩<;>decide);have HW:Hd ((d=0/\b=72)\/(d=2/\b=65)):=cV (by omega);have j:Hd (InI O bb G c d l n xs Y rs x 0 x):=⟨G,h,dO _ _,λk=>by simp⟩
 obtain⟨ad,b,rfl⟩:=dt h.tl.hd;replace V:=cV V;replace hx:=cV hx;replace hb:=cV hb;replace h4:=cV h4;replace hG:=cV hG;clear h;rcases w with⟨e, -,r,rfl,w⟩|⟨e, -,r,rfl,w⟩;all_goals
  have Z:=cV e;have HO:=cV r;have HP:=cV w;clear e r w;first|go_enter func43,ntmps43|go_enter func46,ntmps46
  go_wp2;go_loopw[4] (λt wr=>∃i:Nat,i<=n/\t=iI (i:Int)/\Hd (InI O bb G c d (.slice ad n b) n xs Y rs x i wr)) (λt _=>n-nI t);case atStart=>exact⟨0,In _,W,j⟩
  clear j;obtain⟨i,hi,rfl,j⟩:=hrel;by_cases U:i<n
  .have hd:=dN i n;obtain⟨g,a,m,p,u,rfl,c1,ht,J,P,h2,S⟩:=j.aa.at I.aa.1 U V.aa I.2.1 hx.aa;have hm:m<=1000000000000:=hb.aa _ (Xe ht);have w:Hd ((J d).2.length=(G d).2.length+4*i):=(S d).trans (by simp);have HK:=cV (jv HW P (by rw[w.aa];have:=h4.aa d;omega) (by rw[w.aa];have:=hG.aa d;omega) hm);rw[HP.aa]at HK;have HV:Hd (∀(y:WD) T,Sep O (eH bb T::(fp (eT c) (cZ c) (sL g n b) n xs::((Y.drop (i+1)).map (rh d)++rs))) y->Below O wr y->BkG J T d 4->InI O bb G c d (sL g n b) n xs Y rs x (i+1) y):=λy T r K F=>InI.next r h2 K S F;clear P h2 S ht j;rw[Z.aa,HO.aa]at c1;simp only[cZ]at c1;go_wp2_with((first|go_at_call 72|go_at_call 65);refine HK.mono ?_;rintro e y⟨rfl,T,r,K,F⟩);exact⟨⟨i+1,by omega,by go_num,HV y T r K F⟩,by simp[nI];omega⟩
  have hd:=dG i n;have Q:i=n:=by omega
  rw[Q]at j;let⟨J,P,a6,S⟩:=j.aa;rw[Y0 (by rw[V.aa];exact DO _)]at P;replace P:Sep O (eH bb J::fp (eT c) (cZ c) (.slice ad n b) n xs::rs) wr:=P;let⟨N,HN⟩:=dP ((J c).2.length);have w:Hd ((J c).2.length=(G c).2.length):=(S c).trans (by have:=I.aa.2.2;grind);have hN:N<=4000000000000:=by rw[HN.aa,w.aa];have:=hG.aa c;omega
  have H4:Hd (N%4=0):=by rw[HN.aa,w.aa];exact h4.aa c
  obtain⟨w,w,e0⟩:=dt (P.hd.aa c I.1);have c0:wr.cell? ⟨bb,c,none⟩=some (J c).1:=rowL.cell P.hd.row (by rcases Mg I.1 with rfl|rfl|rfl|rfl<;>rfl);rw[e0,<-HN.aa,Z.aa]at c0;have HX:=cV P;have w:=cV (aIn S a6);clear P e0 h4 hG j Q S a6;go_wp2_with(first|(go_at_call 47;refine(kk N (by omega) _).mono ?_;rintro e z⟨rfl,A⟩)|fail);have E:Hd (FillI O bb J c (.slice ad n b) n z.heap.size N rs wr 0 (z.alloc (.cells (mC c N).toArray (eT c)))):=⟨xs,((HX.below A).row (mC c N) _).bG.cD,(ai A _).mono HX.s,by rw[YB];rfl⟩
  rw[Z.aa]at E;clear HX A c0 hd;let⟨w0,a7⟩:=hJ wr;let⟨zb,a5⟩:=hJ z.heap.size;rw[<-a7]at E w;rw[<-a5]at E⊢;clear a7 a5;go_loopw[6] (λt wr=>∃i:Nat,i<=n/\t=iI (i:Int)/\Hd (FillI O bb J c (.slice ad n b) n zb N rs w0 i wr)) (λt _=>n-nI t);case atStart=>exact⟨0,In _,W,by rw[Z.aa];exact E⟩
  clear E;obtain⟨i,hi,rfl,E⟩:=hrel;by_cases U:i<n
  .have hd:=dN i n;obtain⟨g,b,rfl,hq,b,C⟩:=E.aa.at I.aa.1 U;have m:=C.cs;have b:=E.aa.next I.1 U;rw[Z.aa]at hq m b;simp only[cZ,mC,mW,z4,oI,CsU,Vy,Nat.reduceAdd,Ye,XN,XG]at hq m b;replace E:=cV b;clear b C;go_wp2;exact⟨⟨i+1,by omega,by go_num,by rw[Z.aa];exact E⟩,by simp[nI];omega⟩
  have hd:=dG i n;have Q:i=n:=by omega
  rw[Q]at E;have H:=cV (E.done I.1 HN);clear E Q;go_wp2;go_loopw[1,7,8] (λt1 b t3 wr=>∃i m:Nat,i<=4/\b=iI (i:Int)/\m<=n+61*i/\Hd (HandI O bb J c zb N rs w0 i m t1 wr)) (λ_ b _ _=>4-nI b);case atStart=>exact⟨0,n,by omega,W,by omega,H⟩
  clear H hd;obtain⟨i,m,b,rfl,hm,H⟩:=hrel;by_cases b:i<4;case neg=>have hd:=dF ((i:Int)<4);rw[show i=4 by omega]at H;go_wp2;refine bodyPost_end (v:=.tuple #[]) (by simp[results,go_sem]) W ⟨W,by let⟨T,q1,q2,q3⟩:=H.aa.aa;exact⟨T,q1,w.2.trans q2,λk=>by rw[q3.u k,w.aa.1 k];dsimp only;have:=I.aa.2.2;grind⟩⟩
  have hd:=dT ((i:Int)<4);obtain⟨w,p1,rfl⟩:=H.aa.sl;obtain⟨ov,v',y,r,⟨a2,n2,p2,rfl⟩,⟨a3,n3,p3,rfl⟩,L,K,F,HK⟩:=H.aa.bQ I.1 HN H4.aa b hN;obtain⟨C,l',y2,D,⟨a4,p4,rfl⟩,X⟩:=HK.mark I.1 (by omega);obtain⟨b,R⟩:∃b,Hd (y.setCell ⟨bb,c,none⟩ (.slice a3 n3 p3)=b):=⟨_,W⟩
  rw[R.aa]at C D;rw[Z.aa]at r K F L D C R;replace L:=cV L;replace D:=cV D;replace X:=cV X;replace C:=cV C;clear HK H;go_upto_region 13 with(at_builtin;refine Lib.wpList_append_run _ rfl _ _ _ _ rfl _ _ rfl rfl _ _ L ?_);rw[R.aa];clear R L r K F;have m:=C.aa.cs;simp only[mC,mW,z4,oI,Nat.reduceAdd,XN,XG]at m;go_upto_region 14 with(at_builtin;refine Lib.wpList_append_run _ rfl _ _ _ _ rfl _ _ rfl rfl _ _ D ?_);clear D m C;go_wp2;go_loopw[1,8] (λt1 t3 wr=>∃k b:Nat,k<=60/\t3=iI (k:Int)/\b<=m+1+k/\Hd (HandI O bb J c zb N rs w0 (i+1) b t1 wr)) (λ_ t3 _=>60-nI t3);case atStart=>exact⟨0,m+1,by omega,W,by omega,X⟩
  clear X;obtain⟨k,b,r,rfl,r,H⟩:=hrel;have r:((k:Int)<60/\(i:Int)=2)\/decide ((k:Int)<60)=false\/(decide ((k:Int)<60)=true/\((i:Int)==2)=false):=by
   by_cases P:k<60
   .by_cases h2:i=2
    .exact LZ (by omega)
    exact A4 (A4 ⟨OsQ (by omega),Xb.2 (by omega)⟩)
   exact A4 (LZ (W8 (by omega)))
  rcases r with⟨r,d2⟩|r|⟨r,d2⟩
  .have hk6:k<60:=by omega
   replace r:decide ((k:Int)<60)=true:=OsQ r;replace d2:((i:Int)==2)=true:=X1.2 d2;obtain⟨w,p1,rfl⟩:=H.aa.sl;obtain⟨C,l',y2,D,⟨a4,p4,rfl⟩,X⟩:=H.aa.mark I.1 (by omega);have q:=C.cs;rw[Z.aa]at D q;simp only[mC,mW,z4,oI,Nat.reduceAdd,XN,XG]at q;replace D:=cV D;replace X:=cV X;clear H C;go_wp2_with(at_builtin;refine Lib.wpList_append_run _ W _ _ _ _ W _ _ W W _ _ D ?_);exact⟨⟨k+1,b+1,by omega,by go_num,by omega,X⟩,by simp[nI];omega⟩
  all_goals
   go_wp2;exact⟨⟨i+1,b,by omega,by go_num,by omega,H⟩,by simp[nI];omega⟩
variable {e:Nat}
def mkN(k:Nat):Nat:=7+7*18446744073709551616+7*340282366920938463463374607431768211456+k*6277101735386680763835789423207666416102355444464034512896
def Sep.ap{q:List Rs}(h:Sep O (q++rs) x):Sep O rs x:=⟨λr C=>h.i r (Xn _ C),(XW.1 h.p).2.1,h.s⟩
def Qc{c':Nat}{a:Gj}(D:CF t e sz by')(h:n<=c):(Builtin.append_ #[t,t] t #[.slice a n c,.slice none 0 c']).run prog x=.ok (.slice a n c) x:=by obtain⟨G,I,i,z,H,J,J,E,C⟩:=D;cases a<;>simp[Builtin.append_,Zm G,sizeOf,typeInfo,H,Builtin.lenOf,h,Builtin.firstCells,storeCells]
def tE(h:x.ownsRow 0 e sz v n xs)(hn:0<n):∃g c,v=sL g n c/\n<=c:=by
 rcases h.2 with⟨D,C⟩|⟨g,E,C,D,_,_,C,_⟩
 .omega
 grind
theorem te:∀C:List (Nat×Nat),(io C).length=C.length*8
 |[]=>rfl
 |p::r=>by show((eU p.1++eU p.2)++io r).length=_;rw[Xm,te r,X2,YO,Nat.add_comm];rfl
def Sep.copy{Y:List (Nat×Nat)}(h:Sep O rs x)(V:SlIn x v Y)(Z:Y.length<=1000000000):∃E y,(Builtin.append_ #[32,32] 32 #[dL,v]).run prog x=.ok E y/\Sep O (fp 54 8 E Y.length (io Y)::rs) y/\Below O x y:=by
 have Q:CF 32 54 8 64:=Nw (by kernel_rfl) wg W;have I:Sep _ (fp 54 8 dL 0 []::rs) x:=h.new (Xy _ _ _ _) (dO _ _) λk Z=>(by cases Z)
 have C:=te Y;obtain⟨U,c,rfl,R⟩:=V;cases U with
 |none=>
  have e:=R.elim id λ⟨g,o,e,_⟩=>(by cases e)
  subst e;exact⟨_,x,Qc Q (DO _),I,dO _ _⟩
 |some a=>
  obtain⟨E,y,Z,Z,r3,_⟩:=I.cC Q a _ c C (λj u D=>by
   have G:=(Do.1 D).1;rw[C]at G;let⟨g,o,e,X,H⟩:=R.resolve_left (λe=>by rw[e]at G;exact absurd G (by simp));injection e with e;subst e;have P:j/8<Y.length:=by omega
   have J:j/8*8+j%8=j:=by omega
   rw[show(⟨g,o,_⟩:Addr).add j=⟨g,o+j/8*8+j%8,none⟩ by rw[ZB,J];simp[Addr.add,qag],H (j/8) Y[j/8] (iN P) (j%8) (Xs _ (by decide))];have L:=qi Y _ _ (iN P) (j%8) (Xs _ (by decide));rw[J,D]at L;exact L.symm) (λu D=>by
   let⟨p,_,Y⟩:=YF.1 D;simp[eU]at Y;rcases Y with rfl|rfl|rfl|rfl|rfl|rfl|rfl|rfl<;>rfl) (by grind[maxLen]) (by omega)
  grind
end
abbrev LT:=List (VL×Nat×Tn)
def Ltd(l:List AcE)(ts:LT):=ts.length=l.length/\∀(j:Nat) t a,ts[j]?=some t->l[j]?=some a->t.2=(a.ar.length+1,io a.ar++mC 2 1)
abbrev LM(ts:LT):Tn:=ts.map λt=>zbB t.1 (t.2.1-1)
def Ltd.snoc{l:List AcE}{E:LT}(h:Ltd l E){a:AcE}:Ltd (l++[a]) (E++[(v,a.ar.length+1,io a.ar++mC 2 1)]):=by
 refine⟨by rw[Xm,Xm,h.1];rfl,λj t b C G=>?_⟩;by_cases D:j<l.length
 .rw[Xv D]at G;rw[Xv (by rw[h.1];exact D)]at C;exact h.2 j t b C G
 rw[Xx (by omega)]at G;rw[Xx (by rw[h.1];omega),h.1]at C;grind
def LnI(O:Nat)(rs:List Rs)(l:List AcE)(x:WD)(i:Nat)(ov:VL)(y:WD):=∃ts,Ltd (l.take i) ts/\Sep O (fp 34 10 ov i (rD (l.take i) (LM ts))::(ts.map (rh 2)++rs)) y/\Below O x y
section
variable {l:List AcE}
def LnI.bel(h:LnI O rs l x i ov y){z:WD}(H:bW y z):LnI O rs l x i ov z:=by let⟨D,E,C,G⟩:=h;exact⟨D,E,C.below H,G.trans (H.mono C.s)⟩
def LnI.a(h:LnI O rs l x i ov y){a:AcE}{sl:VL}(J:SlIn y sl a.ar)(I:a.ar.length<=1000000000):∃v1 y1,(Builtin.append_ #[32,32] 32 #[dL,sl]).run prog (y.alloc (.cells (jL a.aj a.ai a.ae sl).toArray 34))=.ok v1 y1/\∃C,Ltd (l.take i) C/\Sep O (fp 54 8 v1 a.ar.length (io a.ar)::gj y.heap.size 34 (jL a.aj a.ai a.ae sl)::fp 34 10 ov i (rD (l.take i) (LM C))::(C.map (rh 2)++rs)) y1/\Below O x y1:=by let⟨C,E,D,G⟩:=h;have H:Below _ y (y.alloc (.cells (jL a.aj a.ai a.ae sl).toArray 34)):=ai (dO _ y) _;let⟨v1,y1,L,P,r3⟩:=(D.row _ 34).copy (J.below H) I;exact⟨v1,y1,L,C,E,P,(G.trans (H.mono D.s)).trans r3⟩
def LnI.b{D:LT}{a:AcE}{sl:VL}(L:Ltd (l.take i) D)(Q:Sep O (fp 54 8 v1 a.ar.length (io a.ar)::gj ab 34 (jL a.aj a.ai a.ae sl)::fp 34 10 ov i (rD (l.take i) (LM D))::(D.map (rh 2)++rs)) y)(U:Below O x y)(f:a.ar.length<=1000000000)(d:i<=1000000000)(he:l[i]?=some a):∃g2 c2 C v3 y3,(Builtin.append_ #[32,32] 32 #[v1,sL y.heap.size 1 1]).run prog (y.alloc (.cells (mC 2 1).toArray 54))=.ok (sL g2 (a.ar.length+1) c2) C/\a.ar.length+1<=c2/\rowL C ab 34 (jL a.aj a.ai a.ae sl)/\rowL (C.setCell ⟨ab,9,none⟩ (sL g2 a.ar.length c2)) ab 34 (jL a.aj a.ai a.ae (sL g2 a.ar.length c2))/\(Builtin.append_ #[35,35] 35 #[ov,sL C.heap.size 1 1]).run prog ((C.setCell ⟨ab,9,none⟩ (sL g2 a.ar.length c2)).alloc (.cells (jL a.aj a.ai a.ae (sL g2 a.ar.length c2)).toArray 34))=.ok v3 y3/\LnI O rs l x (i+1) v3 y3:=by
 have E:CF 32 54 8 64:=Nw (by kernel_rfl) wg W;have H:CF 35 34 10 104:=Oa (c:=3) (by decide);let⟨Z,C,f,s2,b2⟩:=Q.ca E (mC 2 1) W (GS (by decide) 1) (by grind[maxLen]) (by omega);obtain⟨g2,c2,rfl,I⟩:=tE s2.hd (by omega);let⟨J,V⟩:=s2.sw.set 9 (sL g2 a.ar.length c2);let⟨v3,y3,r3,X,b3⟩:=J.bG.ca H (jL a.aj a.ai a.ae (sL g2 a.ar.length c2)) W (λu P=>by simp[jL]at P;rcases P with rfl|rfl|rfl|rfl|rfl|rfl|rfl|rfl|rfl|rfl<;>rfl) (by grind[maxLen]) (by omega);have G:(C.setCell ⟨ab,9,none⟩ (sL g2 a.ar.length c2)).heap.size=C.heap.size:=by simp
 rw[G]at r3;refine⟨g2,c2,C,v3,y3,f,I,s2.tl.hd,J.hd,r3,D++[(sL g2 (a.ar.length+1) c2,a.ar.length+1,io a.ar++mC 2 1)],?_,?_,U.trans (b2.trans (V.trans b3))⟩
 .rw[Yy,he];exact L.snoc
 have Y:l.take (i+1)=l.take i++[a]:=by grind[Yy]
 have R:LM (D++[(sL g2 (a.ar.length+1) c2,a.ar.length+1,io a.ar++mC 2 1)])=LM D++[sL g2 a.ar.length c2]:=by unfold LM;rw[XP];rfl
 rw[Y,R,E6 _ _ (by rw[XH,L.1])];refine(X.sw.tl).bh (List.Perm.cons _ ?_);rw[XP,XL];exact X6.symm
def LnI.e(h:LnI O rs l x l.length ov y)(L:l.length<=1000000000):∃g c y3,(Builtin.append_ #[35,35] 35 #[ov,sL y.heap.size 1 1]).run prog (y.alloc (.cells (mC 3 2).toArray 34))=.ok (sL g (l.length+1) c) y3/\l.length+1<=c/\∃C,Ltd l C/\Sep O (fp 34 10 (sL g (l.length+1) c) (l.length+1) (rD l (LM C)++mC 3 2)::(C.map (rh 2)++rs)) y3/\Below O x y3:=by let⟨C,E,D,G⟩:=h;rw[ZK]at E D;let⟨J,I,L,s2,b2⟩:=D.ca (t:=35) (Oa (c:=3) (by decide)) (mC 3 2) W (GS (by decide) 2) (by grind[maxLen]) (by show(l.length+1)*104<=_;omega);obtain⟨g,c,rfl,H⟩:=tE s2.hd (by omega);exact⟨g,c,I,L,H,C,E,s2,G.trans b2⟩
end
def eqInt9(x y:Int)(w:WD):(Op.equalIn 9998 22 (iU x) (iU y)).run prog w=.ok (x==y) w:=run_equalIn_int w 9997 22 .u64 .u64 x y underlying22
def eq4_9(x0 x1 x2 x3 C G E D:Int)(w:WD):(Op.equalIn 9999 24 (.agg #[iU x0,iU x1,iU x2,iU x3]) (.agg #[iU C,iU G,iU E,iU D])).run prog w=.ok (x0==C&&(x1==G&&(x2==E&&x3==D))) w:=by obtain⟨i,H, -⟩:=Y1.1 (show(prog.info? 22).map (λi=>i.size)=some 1 by kernel_rfl);rw[run_equalIn_array w 9998 _ _ underlying24 H,show List.range 4=[0,1,2,3] from W,Nx];simp only[Op.eqItems,ZU,ZO,V6,V8,WO,WK,Y2,eqInt9,Sem.run_ite,ZV];cases I:(x0==C)<;>cases I:(x1==G)<;>cases I:(x2==E)<;>cases I:(x3==D)<;>rfl
def M7{C:Ys}(o:Nat)(w:WD):(part 24 C o).run prog w=.ok (.agg (C.extract o (o+4))) w:=by let⟨i,D,E⟩:=Y1.1 (show(prog.info? 24).map (λi=>i.size)=some 4 by kernel_rfl);simp[part,isAgg,Zm underlying24,D,E,sizeOf,typeInfo,go_sem]
def Ez:(prog.fieldsOf 54).toList.map (λf=>(f.name,f.type,f.offset))=[("Key",24,0),("Value",24,4)]:=by kernel_rfl
def GW:prog.underlying 54=some (.struct (prog.fieldsOf 54)):=by kernel_rfl
def LC:prog.stoodInHeld 54=false:=by kernel_rfl
abbrev Iy(k v:Nat):VL:=.agg #[.int .u64 (cX k 0),.int .u64 (cX k 1),.int .u64 (cX k 2),.int .u64 (cX k 3),.int .u64 (cX v 0),.int .u64 (cX v 1),.int .u64 (cX v 2),.int .u64 (cX v 3)]
def eqw9(a b:Nat)(w:WD):(Op.equalIn 9999 24 (wv a) (wv b)).run prog w=.ok (gN a b) w:=by rw[eq4_9,uE]
def P4(k v D C:Nat)(w:WD):(Op.equalIn 10000 54 (Iy k v) (Iy D C)).run prog w=.ok (gN k D&&gN v C) w:=by
 rw[run_equalIn_struct w 9999 _ _ _ GW LC];have P:=Ez;generalize(prog.fieldsOf 54).toList=fs at P;match fs,P with
 |[],P=>cases P
 |[_],P=>simp at P
 |_::_::_::_,P=>simp at P
 |[f1,f2],P=>
  simp only[List.map_cons,List.map_nil,List.cons.injEq,XV,and_true]at P;let⟨⟨J,H,O⟩,L,G,I⟩:=P;have E:∀k v w,(part 24 #[lu k 0,lu k 1,lu k 2,lu k 3,lu v 0,lu v 1,lu v 2,lu v 3] 0).run prog w=.ok (wv k) w:=λk v w=>(M7 0 w).trans W;have p2:∀k v w,(part 24 #[lu k 0,lu k 1,lu k 2,lu k 3,lu v 0,lu v 1,lu v 2,lu v 3] 4).run prog w=.ok (wv v) w:=λk v w=>(M7 4 w).trans W;have P:f1.name≠ "_":=by rw[J];decide
  have Q:f2.name≠ "_":=by rw[L];decide
  unfold Op.eqFields;rw[At P,H,O];simp only[ZU,E,Y2,eqw9,Sem.run_ite];unfold Op.eqFields;rw[At Q,G,I];simp only[ZU,p2,Y2,eqw9,Sem.run_ite];unfold Op.eqFields;simp only[ZV];cases gN k D<;>cases gN v C<;>rfl
def lsl_eq(b:List (Nat×Nat))(w:WD)(h:SlIn w v b)(m:SlIn w v' b)(c:b.length<=9223372036854775807):cP 73 #[v,v'] w (rT (.bool true) w):=by
 obtain⟨t,l,rfl,g⟩:=h;obtain⟨p,y,rfl,U⟩:=m;let⟨L,d⟩:=dP b.length;rw[<-d.aa];have n:L<=9223372036854775807:=by rwa[d.aa]
 clear c;have z:=cV g;have f:=cV U;clear g U;go_enter func73,ntmps73;go_wp2;go_loopw[5] (λt5 wr=>∃i:Nat,i<=L/\t5=iI (i:Int)/\Hd (bW w wr)) (λt5 _=>L-nI t5);case atStart=>exact⟨0,In _,W,dO _ _⟩
 obtain⟨j,c,rfl,D⟩:=hrel;by_cases X:j<L
 .have Z:=dN j L;have P:j<b.length:=by rwa[<-d.aa]
  obtain⟨g2,R,rfl,G,O⟩:=z.aa.resolve_left (λe=>by rw[e]at P;exact absurd P (by simp));obtain⟨I,H,rfl,C,J⟩:=f.aa.resolve_left (λe=>by rw[e]at P;exact absurd P (by simp));obtain⟨k8,V⟩:∃k8:Nat,Hd (k8=b[j].1):=⟨b[j].1,cV W⟩
  obtain⟨Q,Y⟩:∃Q:Nat,Hd (Q=b[j].2):=⟨b[j].2,cV W⟩
  have ul:=O j b[j] (iN P);have E:=J j b[j] (iN P);rw[<-V.aa,<-Y.aa]at ul E;have A:cL wr g2 (R+j*8) (lu k8 0):=(D.cell (by exact G)).trans (ul 0 (by omega));have b:cL wr g2 (R+j*8+1) (lu k8 1):=(D.cell (by exact G)).trans (ul 1 (by omega));have k:cL wr g2 (R+j*8+2) (lu k8 2):=(D.cell (by exact G)).trans (ul 2 (by omega));have b:cL wr g2 (R+j*8+3) (lu k8 3):=(D.cell (by exact G)).trans (ul 3 (by omega));have b:cL wr g2 (R+j*8+4) (lu Q 0):=(D.cell (by exact G)).trans (ul 4 (by omega));have S:cL wr g2 (R+j*8+5) (lu Q 1):=(D.cell (by exact G)).trans (ul 5 (by omega));have N:cL wr g2 (R+j*8+6) (lu Q 2):=(D.cell (by exact G)).trans (ul 6 (by omega));have T:cL wr g2 (R+j*8+7) (lu Q 3):=(D.cell (by exact G)).trans (ul 7 (by omega));have K:cL wr I (H+j*8) (lu k8 0):=(D.cell (by exact C)).trans (E 0 (by omega));have b:cL wr I (H+j*8+1) (lu k8 1):=(D.cell (by exact C)).trans (E 1 (by omega));have b:cL wr I (H+j*8+2) (lu k8 2):=(D.cell (by exact C)).trans (E 2 (by omega));have b:cL wr I (H+j*8+3) (lu k8 3):=(D.cell (by exact C)).trans (E 3 (by omega));have b:cL wr I (H+j*8+4) (lu Q 0):=(D.cell (by exact C)).trans (E 4 (by omega));have s:cL wr I (H+j*8+5) (lu Q 1):=(D.cell (by exact C)).trans (E 5 (by omega));have b:cL wr I (H+j*8+6) (lu Q 2):=(D.cell (by exact C)).trans (E 6 (by omega));have F:cL wr I (H+j*8+7) (lu Q 3):=(D.cell (by exact C)).trans (E 7 (by omega));have o:∀w,(Op.equalIn 10000 54 (Iy k8 Q) (Iy k8 Q)).run prog w=.ok true w:=λw=>by rw[P4,jg W,jg W];rfl
  clear ul E O J G C
  as_aux_lemma=>
   go_wp2;go_quiet (fail)
   as_aux_lemma=>go_wp2;exact⟨⟨j+1,by omega,by go_num,ea D _⟩,by simp[nI];omega⟩
 have Z:=dG j L;go_wp2;go_ret;exact⟨W,D⟩
def yQ(l:List AcE)(w:WD)(h:AcIn w v l)(c:AcIn w v' l)(q:l.length<=9223372036854775807)(t:∀a∈l,a.ar.length<=9223372036854775807):cP 45 #[v,v'] w (rT (.bool true) w):=by
 obtain⟨b,cp,rfl,r⟩:=h;obtain⟨b,a2,rfl,u⟩:=c;let⟨L,b⟩:=dP l.length;rw[<-b.aa];have c:L<=9223372036854775807:=by rwa[b.aa]
 have c:=cV t;clear q t;have HS:=cV r;have q:=cV u;clear r u;go_enter func45,ntmps45;go_wp2;go_loopw[5] (λt5 wr=>∃i:Nat,i<=L/\t5=iI (i:Int)/\Hd (bW w wr)) (λt5 _=>L-nI t5);case atStart=>exact⟨0,In _,W,dO _ _⟩
 obtain⟨i,u,rfl,r⟩:=hrel;by_cases z:i<L;case neg=>have u:=dG i L;go_wp2;go_ret;exact⟨W,r⟩
 have u:=dN i L;have H:i<l.length:=by rwa[<-b.aa]
 obtain⟨g,o,rfl,k,U⟩:=HS.aa.resolve_left (λe=>by rw[e]at H;exact absurd H (by simp));obtain⟨E,G,rfl,f,J⟩:=q.aa.resolve_left (λe=>by rw[e]at H;exact absurd H (by simp));obtain⟨a,n⟩:∃a,Hd (a=l[i]):=⟨l[i],cV W⟩
 let⟨sl,T,Y⟩:=U i l[i] (iN H);let⟨b,O,I⟩:=J i l[i] (iN H);rw[<-n.aa]at T Y O I;let⟨P,C,Z,q⟩:=a;dsimp only at T Y O I;have a4:q.length<=9223372036854775807:=by have u:=c.aa l[i] (Ya H);rwa[<-n.aa]at u
 have a3:Hd (∀x,bW w x->cP 73 #[sl,b] x λe y=>e=.returned (.bool true)/\bW x y):=λx Q=>lsl_eq q x (Y.below Q) (I.below Q) a4;obtain⟨A,S,rfl,c⟩:=Y;obtain⟨R,V,rfl,a5⟩:=I;let⟨F,b⟩:=dP q.length;rw[<-b.aa]at T O a3 a4;have N:Hd (cL w g (o+i*10+9) (.slice A F S)):=T 9 (by omega);have d:Hd (cL w E (G+i*10+9) (.slice R F V)):=O 9 (by omega);have b:=cV k;have m:=cV f;have u:=cV T;have p:=cV O;clear T O U J k f c a5;go_upto_region 6 with fail
 refine Gs [(0,(.slice (some ⟨g,o,none⟩) L cp)),(1,(.slice (some ⟨E,G,none⟩) L a2)),(5,(iI (i:Int)))] (nV 18 [.slice (some ⟨g,o,none⟩) L cp,iI (i:Int),pq g (o+i*10),pq g (o+i*10+9),.slice A F S,.slice (some ⟨E,G,none⟩) L a2,iI (i:Int),pq E (G+i*10),pq E (G+i*10+9),.slice R F V,.bool true]++[(some 6,.v (.bool true))]) [2,4,7,9,10] W PY r ⟨(js λs x c K q=>gK (c 18 _ W) (c 19 _ W) z q),(jc W λx Q=>(Q.cell (by exact b)).trans N),(js λs x c K q=>gK (c 23 _ W) (c 24 _ W) z q),(jc W λx Q=>(Q.cell (by exact m)).trans d),(jl W λx Q=>a3 x Q),AF⟩ λx Q=>?_;simp only[n8,sx9];have c:=cV Q;clear Q;have X:∀j,j<10->cL x g (o+i*10+j) ((jL P C Z (.slice A F S))[j]!):=λj q=>(c.cell (by exact b)).trans (u j q);have D:∀j,j<10->cL x E (G+i*10+j) ((jL P C Z (.slice R F V))[j]!):=λj q=>(c.cell (by exact m)).trans (p j q);have b:cL x g (o+i*10) (lu P 0):=X 0 (by omega);have c1:cL x g (o+i*10+1) (lu P 1):=X 1 (by omega);have c2:cL x g (o+i*10+2) (lu P 2):=X 2 (by omega);have c3:cL x g (o+i*10+3) (lu P 3):=X 3 (by omega);have c4:cL x g (o+i*10+4) (lu C 0):=X 4 (by omega);have c5:cL x g (o+i*10+5) (lu C 1):=X 5 (by omega);have c6:cL x g (o+i*10+6) (lu C 2):=X 6 (by omega);have c7:cL x g (o+i*10+7) (lu C 3):=X 7 (by omega);have b:cL x g (o+i*10+8) (.string Z):=X 8 (by omega);have b:cL x E (G+i*10) (lu P 0):=D 0 (by omega);have b:cL x E (G+i*10+1) (lu P 1):=D 1 (by omega);have d2:cL x E (G+i*10+2) (lu P 2):=D 2 (by omega);have b:cL x E (G+i*10+3) (lu P 3):=D 3 (by omega);have b:cL x E (G+i*10+4) (lu C 0):=D 4 (by omega);have b:cL x E (G+i*10+5) (lu C 1):=D 5 (by omega);have b:cL x E (G+i*10+6) (lu C 2):=D 6 (by omega);have b:cL x E (G+i*10+7) (lu C 3):=D 7 (by omega);have b:cL x E (G+i*10+8) (.string Z):=D 8 (by omega);have b:∀w,(Op.equalIn 10000 24 (wv P) (wv P)).run prog w=.ok true w:=λw=>by rw[ig,jg W]
 have b:∀w,(Op.equalIn 10000 24 (wv C) (wv C)).run prog w=.ok true w:=λw=>by rw[ig,jg W]
 clear X D u p N d
 as_aux_lemma=>
  go_wp2;go_quiet (fail)
  as_aux_lemma=>go_wp2;exact⟨⟨i+1,by omega,by go_num,ea c _⟩,by simp[nI];omega⟩
theorem VZ:∀(L:List LogE)(tv:Tn),qM L tv=(L.zip tv).flatMap λp=>wI p.1 p.2
 |[],tv=>by cases tv<;>rfl
 |a::l,[]=>rfl
 |a::l,s::r=>by show wI a s++qM l r=_;rw[VZ l r];rfl
def P9{L:List LogE}(h:tv.length=L.length)(D:i<L.length)(j:Nat)(C:j<6):(qM L tv)[i*6+j]?=(wI L[i] (tv[i]'(h▸D)))[j]? :=by rw[VZ,oW (f:=λp:LogE×VL=>wI p.1 p.2) (λ_=>W) (L.zip tv) i (by rw[List.length_zip];omega) j C,List.getElem_zip]
def V4{L:List LogE}(h:Low x 0 (.slice ad n cp) tv L)(i:Nat)(C:i<L.length):∃g t,ad=some ⟨g,0,none⟩/\g<x.heap.size/\(∀j u,j<6->(wI L[i] t)[j]?=some u->cL x g (i*6+j) u)/\Wds x 0 t L[i].aM:=by let⟨G,E,I⟩:=h;obtain⟨-,g,rfl,J,O, -⟩:=fH E i C;exact⟨g,_,W,J,λj u D H=>O j u D ((P9 G C j D).trans H),I i L[i] _ (iN C) (iN (by omega))⟩
def SO{c:Tn}(l:List LogE)(w:WD)(h:Low w 0 v tv l)(b:Low w 0 v' c l)(e:l.length<=9223372036854775807)(F:∀a∈l,a.aM.length<=9223372036854775807):cP 42 #[v,v'] w (rT (.bool true) w):=by
 obtain⟨ad,cp,rfl⟩:=dt h.2.1;obtain⟨c,c,rfl⟩:=dt b.2.1;let⟨L,c⟩:=dP l.length;rw[<-c.aa]at h b⊢;have r:L<=9223372036854775807:=by rwa[c.aa]
 have r:=cV F;clear e F;have HS:=cV h;have e:=cV b;clear h b;go_enter func42,ntmps42;go_wp2;go_loopw[5] (λt5 wr=>∃i:Nat,i<=L/\t5=iI (i:Int)/\Hd (bW w wr)) (λt5 _=>L-nI t5);case atStart=>exact⟨0,In _,W,dO _ _⟩
 obtain⟨i,b,rfl,J⟩:=hrel;by_cases hlt:i<L;case neg=>have b:=dG i L;go_wp2;go_ret;exact⟨W,J⟩
 have b:=dN i L;have A:i<l.length:=by rw[<-c.aa];exact hlt
 obtain⟨g,t,rfl,T,s,c⟩:=V4 HS.aa i A;obtain⟨Y,b,rfl,p,Z,O⟩:=V4 e.aa i A;obtain⟨a,S⟩:∃a,Hd (a=l[i]):=⟨l[i],cV W⟩
 rw[<-S.aa]at s Z c O;let⟨I,U,Q⟩:=a;have e:U.length<=9223372036854775807:=by have b:=r.aa l[i] (Ya A);rwa[<-S.aa]at b
 dsimp only at c O;obtain⟨r,b,rfl⟩:=dt c;obtain⟨m,o,rfl⟩:=dt O;let⟨P,K⟩:=dP U.length;rw[<-K.aa]at s Z e c O;have z:Hd (g<w.heap.size/\∀j u,j<6->(wI ⟨I,U,Q⟩ (.slice r P b))[j]?=some u->cL w g (i*6+j) u):=⟨T,s⟩
 have V:Hd (Y<w.heap.size/\∀j u,j<6->(wI ⟨I,U,Q⟩ (.slice m P o))[j]?=some u->cL w Y (i*6+j) u):=⟨p,Z⟩
 have HW:=cV c;have e:=cV O;clear s Z T p c O;have H:Hd (∀x,bW w x->∀j u,j<6->(wI ⟨I,U,Q⟩ (.slice r P b))[j]?=some u->cL x g (i*6+j) u):=λx c j u k N=>(c.cell (by exact z.1)).trans (z.2 j u k N);have D:Hd (∀x,bW w x->∀j u,j<6->(wI ⟨I,U,Q⟩ (.slice m P o))[j]?=some u->cL x Y (i*6+j) u):=λx c j u k N=>(c.cell (by exact V.1)).trans (V.2 j u k N);clear z V;have c0:cL wr g (i*6) (lu I 0):=H.aa wr J 0 _ (by omega) W;have c1:cL wr g (i*6+1) (lu I 1):=H.aa wr J 1 _ (by omega) W;have c2:cL wr g (i*6+2) (lu I 2):=H.aa wr J 2 _ (by omega) W;have c3:cL wr g (i*6+3) (lu I 3):=H.aa wr J 3 _ (by omega) W;have c4:cL wr g (i*6+4) (.slice r P b):=H.aa wr J 4 _ (by omega) W;have c5:cL wr g (i*6+5) (.string Q):=H.aa wr J 5 _ (by omega) W;have d0:cL wr Y (i*6) (lu I 0):=D.aa wr J 0 _ (by omega) W;have d1:cL wr Y (i*6+1) (lu I 1):=D.aa wr J 1 _ (by omega) W;have d2:cL wr Y (i*6+2) (lu I 2):=D.aa wr J 2 _ (by omega) W;have d3:cL wr Y (i*6+3) (lu I 3):=D.aa wr J 3 _ (by omega) W;have d4:cL wr Y (i*6+4) ((.slice m P o)):=D.aa wr J 4 _ (by omega) W;have d5:cL wr Y (i*6+5) (.string Q):=D.aa wr J 5 _ (by omega) W;have c:∀w,(Op.equalIn 10000 24 (wv I) (wv I)).run prog w=.ok true w:=λw=>by rw[ig,jg W]
 as_aux_lemma=>
  go_wp2;go_quiet (fail)
  as_aux_lemma=>
   go_wp2;have C:Hd (bW w (wr.drewN nq)):=ea J nq;clear c0 c1 c2 c3 c4 c5 d0 d1 d2 d3 d4 d5 c;go_loopw[6] (λc wr=>∃j:Nat,j<=P/\c=iI (j:Int)/\Hd (bW w wr)) (λc _=>P-nI c);case atStart=>exact⟨0,In _,W,C⟩
   clear C;obtain⟨j,k,rfl,C⟩:=hrel;have c4:cL wr g (i*6+4) (.slice r P b):=H.aa wr C 4 _ (by omega) W;have d4:cL wr Y (i*6+4) (.slice m P o):=D.aa wr C 4 _ (by omega) W;by_cases b:j<P
   .have r:=dN j P;have y:j<U.length:=by rwa[<-K.aa]
    obtain⟨-,g2,rfl,X,b, -⟩:=fH HW j y;obtain⟨-,d,rfl,G,R, -⟩:=fH e j y;obtain⟨k8,c⟩:∃k8:Nat,Hd (k8=U[j]):=⟨U[j],cV W⟩
    have E:∀q u,q<4->(eU k8)[q]?=some u->(fj U)[j*4+q]?=some u:=λq u e N=>(oW (f:=eU) (λ_=>W) U j y q e).trans (by rw[<-c.aa];exact N);have c:cL wr g2 (j*4) (lu k8 0):=(C.cell (by exact X)).trans (b 0 _ (by omega) (E 0 _ (by omega) W));have c:cL wr g2 (j*4+1) (lu k8 1):=(C.cell (by exact X)).trans (b 1 _ (by omega) (E 1 _ (by omega) W));have c:cL wr g2 (j*4+2) (lu k8 2):=(C.cell (by exact X)).trans (b 2 _ (by omega) (E 2 _ (by omega) W));have c:cL wr g2 (j*4+3) (lu k8 3):=(C.cell (by exact X)).trans (b 3 _ (by omega) (E 3 _ (by omega) W));have c:cL wr d (j*4) (lu k8 0):=(C.cell (by exact G)).trans (R 0 _ (by omega) (E 0 _ (by omega) W));have c:cL wr d (j*4+1) (lu k8 1):=(C.cell (by exact G)).trans (R 1 _ (by omega) (E 1 _ (by omega) W));have c:cL wr d (j*4+2) (lu k8 2):=(C.cell (by exact G)).trans (R 2 _ (by omega) (E 2 _ (by omega) W));have c:cL wr d (j*4+3) (lu k8 3):=(C.cell (by exact G)).trans (R 3 _ (by omega) (E 3 _ (by omega) W));have c:∀w,(Op.equalIn 10000 24 (wv k8) (wv k8)).run prog w=.ok true w:=λw=>by rw[ig,jg W]
    clear b R X G E
    as_aux_lemma=>
     go_wp2;go_quiet (fail)
     as_aux_lemma=>go_wp2;exact⟨⟨j+1,by omega,by go_num,ea C _⟩,by simp[nI];omega⟩
   have r:=dG j P;go_wp2;exact⟨⟨i+1,by omega,by go_num,C⟩,by simp[nI];omega⟩
abbrev sQ(l:List AcE)(ts:LT):Tn:=rD l (LM ts)++mC 3 2
def Ltd.at{l:List AcE}{ts:LT}(h:Ltd l ts){i:Nat}{a:AcE}(ha:l[i]?=some a):∃v,ts[i]?=some (v,a.ar.length+1,io a.ar++mC 2 1):=by
 have E:=(Do.1 ha).1;have C:i<ts.length:=by rwa[h.1]
 obtain⟨t,D⟩:∃t,ts[i]?=some t:=⟨_,iN C⟩
 exact⟨_,by rw[D,<-h.2 i t a D ha]⟩
def Ltd.hl{l:List AcE}{ts:LT}(h:Ltd l ts):(LM ts).length=l.length:=by rw[XH,h.1]
theorem JN{l:List AcE}{ts:LT}(h:Ltd l ts):(rD l (LM ts)).length=l.length*10:=by
 have:∀(l:List _)(s:List _),s.length=l.length->(rD l s).length=l.length*10:=by
  intro l;induction l with
  |nil=>intro s D;rfl
  |cons a l C=>
   intro s D;cases s with
   |nil=>cases D
   |cons b s=>grind[jL,rD,Xm,X2,YO,Nat.add_comm]
 exact this l _ h.hl
theorem IC{l:List AcE}{ts:LT}(h:Ltd l ts){i:Nat}{a:AcE}{v:VL}(ha:l[i]?=some a)(D:ts[i]?=some (v,a.ar.length+1,io a.ar++mC 2 1)){j:Nat}(C:j<10):(sQ l ts)[i*10+j]?=some ((jL a.aj a.ai a.ae (zbB v a.ar.length))[j]!):=by have E:=(Do.1 ha).1;rw[Xv (by grind[JN])];exact Bg l _ h.hl i a _ ha (by grind) j C
def QX{l:List AcE}{ts:LT}(h:Ltd l ts)(j:Nat):(sQ l ts)[l.length*10+j]?=(mC 3 2)[j]? :=by grind[Xx,JN,ZL]
abbrev G4(g c:Nat)(l:List AcE)(ts:LT):Rs:=fp 34 10 (.slice (some ⟨g,0,none⟩) (l.length+1) c) (l.length+1) (sQ l ts)
section
variable {l:List AcE}{ts:LT}{a:AcE}
def Ltd.aF(h:Ltd l ts)(Q:Sep O (G4 g c l ts::((ts.drop i).map (rh 2)++rs)) y)(ha:l[i]?=some a):∃g2 c2,ts[i]?=some (sL g2 (a.ar.length+1) c2,a.ar.length+1,io a.ar++mC 2 1)/\a.ar.length+1<=c2/\cL y g (i*10+9) (sL g2 a.ar.length c2)/\(∀j u,j<8->(mC 2 1)[j]?=some u->cL y g2 (a.ar.length*8+j) u)/\Sep O (rh 2 (sL g2 (a.ar.length+1) c2,a.ar.length+1,io a.ar++mC 2 1)::G4 g c l ts::((ts.drop (i+1)).map (rh 2)++rs)) y:=by
 let⟨v,G⟩:=h.at ha;have P:=(Do.1 ha).1;have hd:ts.drop i=(v,a.ar.length+1,io a.ar++mC 2 1)::ts.drop (i+1):=by grind[YT,iN,hV]
 have C:Sep O (rh 2 (v,a.ar.length+1,io a.ar++mC 2 1)::G4 g c l ts::((ts.drop (i+1)).map (rh 2)++rs)) y:=by rw[hd]at Q;exact Q.sw
 have E:y.ownsRow 0 54 8 v (a.ar.length+1) (io _++mC 2 1):=C.hd;obtain⟨g2,c2,rfl,J⟩:=tE E (Nat.succ_pos _);refine⟨g2,c2,G,J,?_,λj u I L=>?_,C⟩
 .obtain⟨-,H,e, -,D, -⟩:=fH C.tl.hd i (by omega);injection e with e;injection e with e;subst e;exact D 9 _ (by omega) (IC h ha G (by omega))
 obtain⟨-,H,e, -,D, -⟩:=fH E a.ar.length (YS _);injection e with e;injection e with e;subst e;refine D j u I ?_;show(io a.ar++mC 2 1)[a.ar.length*8+j]?=some u;grind[Xx,te,ZL]
theorem Ltd.in(h:Ltd l ts)(hs:Sep O (G4 g c l ts::(ts.map (rh 2)++rs)) y):AcIn y (sL g l.length c) l:=by
 refine⟨_,c,rfl,A4 ⟨g,0,rfl,(hs.hd.lt g rfl).2,λi a E=>?_⟩⟩;obtain⟨v,G⟩:=h.at E;have J:=(Do.1 E).1;refine⟨zbB v a.ar.length,λj I=>?_,?_⟩
 .obtain⟨-,H,e, -,D, -⟩:=fH hs.hd i (by omega);injection e with e;injection e with e;subst e;rw[XF];grind[IC]
 have C:y.ownsRow 0 54 8 v (a.ar.length+1) (io _++mC 2 1):=(hs.i _ (IN _ (Xw _ (Xq.2 ⟨_,Xe G,rfl⟩)))).1;obtain⟨g2,c2,rfl,L⟩:=tE C (Nat.succ_pos _);refine⟨_,c2,rfl,A4 ⟨g2,0,rfl,(C.lt g2 rfl).2,λk p hp j I=>?_⟩⟩;have hk:=(Do.1 hp).1;obtain⟨-,H,e, -,D, -⟩:=fH C k (by omega);injection e with e;injection e with e;subst e;rw[XF];grind[Xv,te,qi]
end
section
variable {B:Nat}
def nz(fr Z B:Nat)(data:BA)(g:Int):VL:=.agg #[.int .u64 (cX fr 0),.int .u64 (cX fr 1),.int .u64 (cX fr 2),.int .u64 (cX fr 3),.int .u64 (cX Z 0),.int .u64 (cX Z 1),.int .u64 (cX Z 2),.int .u64 (cX Z 3),.int .u64 (cX B 0),.int .u64 (cX B 1),.int .u64 (cX B 2),.int .u64 (cX B 3),.string data,.int .i64 g]
def Bz(fr Z B:Nat)(data:BA)(g:Int)(h:¬(data.size<=500/\0<=g/\g<=100000))(w:WD):cP 30 #[nz fr Z B data g] w (rT (.bool false) w):=by
 unfold nz;by_cases I:data.size<=500
 .have D:=dT ((data.size:Int)<=500);by_cases E:0<=g
  .have C:decide (0<=g)=true:=OsQ E;have G:=dF (g<=100000);have H:¬g<=100000:=by omega
   clear h;go_enter func30,ntmps30;go_wp2;exact IE W W ⟨W,ai (dO _ w) _⟩
  have C:decide (0<=g)=false:=W8 E;clear h;go_enter func30,ntmps30;go_wp2;exact IE W W ⟨W,ai (dO _ w) _⟩
 have D:=dF ((data.size:Int)<=500);clear h;go_enter func30,ntmps30;go_wp2;exact IE W W ⟨W,ai (dO _ w) _⟩
def Re(fr Z:Nat)(g:Int)(h:¬(data.size<=500/\0<=g/\g<=100000))(w:WD):cP 13 #[pt gb,nz fr Z B data g] w (rT (.tuple #[iy 0 0 ⟨#[]⟩ dL,iI 1]) w):=by
 have D:=cV (λw=>Bz fr Z B data g h w);clear h;unfold nz at D⊢;go_enter func13,ntmps13;go_wp2_with fail
 refine(D _).mono ?_;rintro e x⟨rfl,V⟩;obtain⟨⟨k0,G,R,E⟩,I,J,Q,U⟩:ResAt x (w.heap.size+1) 0 0 ⟨#[]⟩ dL:=ResAt.below (by unfold ResAt;simp[go_sem]) V;have L:Hd (bW w x):=(ai (ai (dO _ w) _) _).trans (V.mono (by simp;omega));unfold dL at E;clear V;have P:=cV (show ResAt x (w.heap.size+1) 0 0 ⟨#[]⟩ dL from⟨⟨k0,G,R,E⟩,I,J,Q,U⟩);go_wp2;have C:bW w (gB x (w.heap.size+1) 0 0 ⟨#[]⟩ dL):=kr (kr (kr (kr L (by simp)) (by simp)) (by simp)) (by simp);let⟨⟨H,V,X,O⟩,_⟩:=P.aa.put (st:=0) (gs:=0) (aa:=⟨#[]⟩) (lv:=dL);change bodyPost _ _ _ _ _ (gB x (w.heap.size+1) 0 0 ⟨#[]⟩ dL);generalize gB x (w.heap.size+1) 0 0 ⟨#[]⟩ dL=y at*;exact sp (v:=.tuple #[iy 0 0 ⟨#[]⟩ dL,iI 1]) (by simp[results,results13,go_sem,iy,dL,H,V,X,O]) W ⟨W,C⟩
variable {nx:Nat}
section
variable {c:BA}{st:Tl}
def ox{α:Type}{L:List α}{l:List α}(h:o+l.length<=L.length):(splice L o l).length=L.length:=by unfold splice;simp only[Xm,XB,X8];omega
end
def dd:Tl->Tl
 |[]=>[]
 |k::r=>if k∈dd r then dd r else k::dd r



section
open Go.RowKit Go.Lib Go.Maps Go.WideMaps
end
section
open Go.RowKit Go.Lib Go.Maps
end
section
open Go.RowKit Go.Lib Go.Maps
end

section
open Go.RowKit Go.Lib Go.Maps
end

def AcOwn.kb{l:List AcE}(h:AcOwn O v l x)(P:Kb S x y)(L:∀k∈S,k<O):AcOwn O v l y:=by
 let⟨C,G,E,H⟩:=h.ex;have N:∀{e size n:Nat}{u:VL}{xs:Tn},x.ownsRow O e size u n xs->y.ownsRow O e size u n xs:=λD=>P.aD D λk P I=>by have:=(D.lt k P).1;have:=L k I;omega
 exact⟨C,G,N E,λi a Q J P=>N (H i a Q J P)⟩
def Accs.blk(h:Accs ab n A sb x)(he:∀k,fZ ab A sb k->y.heap[k]?=x.heap[k]?):Accs ab n A sb y:=by
 refine⟨?_,λm D=>?_,h.inj,h.aO⟩
 .obtain⟨f,C,E⟩:=h.map;exact⟨f,C.block (he _ (LZ W)),E⟩
 rcases h.aK m D with C|⟨b,e,C,G⟩
 .exact LZ C
 exact A4 ⟨b,e,C,G.block (he b (A4 ⟨m,D,e⟩))⟩
structure HoI(gb ab n:Nat)(A:Nat->Acc)(sb:Vp)(w:WD):Prop where
 row:w.rowIs gb 91 3 (yk ab)
 aw:Accs ab n A sb w
def fN(gb ab n:Nat)(A:Nat->Acc)(sb:Vp):Rs:=⟨λk=>k=gb\/fZ ab A sb k,HoI gb ab n A sb,λ{x k} h hk=>by
 rcases hk with rfl|hk
 .exact h.row.lt
 exact h.aw.lt hk,λ{x y} h hs he=>⟨World.rowIs.of_block h.row (he gb (LZ rfl)),h.aw.blk λk hk=>he k (A4 hk)⟩⟩
def Zr.bq(h:Zr x)(C:0<O)(D:Below O x y):Zr y:=⟨⟨(D.cell C).trans h.1.1,(D.cell C).trans h.1.2.1,(D.cell C).trans h.1.2.2.1,(D.cell C).trans h.1.2.2.2⟩,Xg h.2 D.size⟩
theorem Sep.add{q:List Rs}(h:Sep O rs y)(G:O<=m)(E:∀r∈rs,∀k,r.F k->k<m)(H:∀r∈q,r.I y)(L:q.Pairwise λr s=>∀k,r.F k->¬s.F k)(C:∀r∈q,∀k,r.F k->m<=k):Sep O (q++rs) y:=by
 refine⟨λr J=>?_,XW.2 ⟨L,h.p,λr J s L k L D=>?_⟩,h.s⟩
 .rcases Xr.1 J with J|J
  .grind
  exact h.i r J
 grind
def Sep.lts(h:Sep O rs x):∀r∈rs,∀k,r.F k->k<x.heap.size:=λr D k C=>r.lt (h.i r D).1 C
theorem E5(A:Nat->Acc):∀(ts:Tl)(sls:Tn),sls.length=ts.length->∀(i:Nat) s,sls[i]?=some s->(Jl A ts sls)[i*10+9]?=some s
 |[],[],_,i,s,h=>by cases h
 |[],_::_,h,_,_,_=>by cases h
 |_::_,[],h,_,_,_=>by cases h
 |t::ts,a::sls,h,0,s,hs=>by obtain rfl:=hV hs;rfl
 |t::ts,a::sls,h,i+1,s,hs=>by show(jL t (A t).ai (A t).ae a++Jl A ts sls)[(i+1)*10+9]?=some s;rw[Xx (by show 10<=_;omega),show(i+1)*10+9-(jL t _ _ a).length=i*10+9 by show _-10=_;omega];exact E5 A ts _ (by simpa using h) i s hs
def Me(h:Sep O rs y)(X:O<=m)(Q:∀r∈rs,∀k,r.F k->k<m)(D:Told m A ts v sls y):∃I:LT,I.length=ts.length/\(∀(i:Nat) t,I[i]?=some t->(Jl A ts sls)[i*10+9]?=some t.1/\t.2.1<=1000000000000)/\Sep O (fp 34 10 v ts.length (Jl A ts sls)::(I.map (rh 2)++rs)) y:=by
 have Y:∀i:Nat,∃p:Nat×List _,i<ts.length->y.ownsRow m 54 8 _ p.1 p.2/\p.1<=1000000000000:=λi=>by
  by_cases C:i<ts.length
  .have Z:sls[i]?=some (sls.getD i dL):=by rw[If,iN (by rw[D.len];exact C)];rfl
   let⟨I,G,H,V⟩:=D.sl i _ _ (iN C) Z;exact⟨(I.length,CH _ I),λ_=>⟨V,G⟩⟩
  exact⟨(0,[]),λh=>absurd h C⟩
 let⟨f,c⟩:=Classical.axiomOfChoice Y;have P:∀(i:Nat) t,((List.range _).map λi=>((sls.getD i dL,(f i).1,(f i).2)))[i]?=some t->i<ts.length/\t=(sls.getD i _,(f i).1,(f i).2):=λi t h=>by have C:=(Do.1 h).1;rw[XH,List.length_range]at C;rw[Xu,ZG C]at h;exact⟨C,(hV h).symm⟩
 refine⟨(List.range _).map λi=>(sls.getD i dL,(f i).1,(f i).2),by rw[XH,List.length_range],λi t h=>?_,?_⟩
 .obtain⟨C,rfl⟩:=P i t h;refine⟨?_,(c i C).2⟩;have Z:sls[i]?=some (sls.getD i dL):=by rw[If,iN (by rw[D.len];exact C)];rfl
  exact E5 A ts _ D.len i _ Z
 refine Sep.add (q:=fp 34 10 v _ _::((List.range _).map _).map _) h X Q (λr Z=>?_) ?_ (λr Z k b=>?_)
 .rcases IF.1 Z with rfl|Z
  .exact fO D.aD (In _)
  obtain⟨t,G,rfl⟩:=Xq.1 Z;let⟨i,H⟩:=XM G;obtain⟨C,rfl⟩:=P i t H;exact fO (c i C).1 (In _)
 .refine XT.2 ⟨λr Z k b E=>?_,?_⟩
  .obtain⟨t,G,rfl⟩:=Xq.1 Z;let⟨i,H⟩:=XM G;obtain⟨C,rfl⟩:=P i t H;exact absurd ((Ty.az D.aD b).aF (Ty.az (c i C).1 E)) (by decide)
  rw[Zd];refine Y7.2 λi j C U R k b E=>?_;rw[XH,List.length_range]at C U;simp only[List.getElem_map,List.getElem_range]at b E;have e:∀q (d:q<ts.length),sls.getD q dL=sls[q]'(by rw[D.len];exact d):=λq d=>by rw[If,iN (by rw[D.len];exact d)];rfl
  have L:(sls.getD i _).ownBlock=some k:=b;have J:(sls.getD j _).ownBlock=some k:=E;rw[e i C]at L;rw[e j U]at J;exact Y7.1 D.dj i j (by rw[D.len];exact C) (by rw[D.len];exact U) R k L J
 rcases IF.1 Z with rfl|Z
 .exact(D.aD.lt k b).1
 obtain⟨t,G,rfl⟩:=Xq.1 Z;let⟨i,H⟩:=XM G;obtain⟨C,rfl⟩:=P i t H;exact((c i C).1.lt k b).1
variable {x0:WD}{b:Nat}
section
variable {D:Td}
def Mw(x:WD)(b o k:Nat):=∀(j:Nat) u,(mW k)[j]?=some u->x.cell? ⟨b,o+j,none⟩=some u
def jm2(he:pg I D es ⟨some d,.load 24 (.tmp t),ty,pos,af,gd⟩ t=some (pq b off))(C:∀x,Jq9 x->Mw x b off 2):WL Jq9 I D es Q ⟨some d,.load 24 (.tmp t),ty,pos,af,gd⟩ (some d) (.v (.agg #[iU 7,iU 7,iU 7,iU 2])):=by
 have e:(.agg #[iU 7,iU 7,iU 7,iU 2])=wv (mkN 2):=by kernel_rfl
 rw[e];have G:(iU 7:VL)=lu (mkN 2) 0:=by kernel_rfl
 have H:(iU 7:VL)=lu (mkN 2) 1:=by kernel_rfl
 have L:(iU 7:VL)=lu (mkN 2) 2:=by kernel_rfl
 have J:(iU ((2:Nat)):VL)=lu (mkN 2) 3:=by kernel_rfl
 exact jw he λx E=>⟨G▸C x E 0 _ W,H▸C x E 1 _ W,L▸C x E 2 _ W,J▸C x E 3 _ W⟩
def JT(h:tG s t (pq b off))(E:cL x b off (iU 7))(U:cL x b (off+1) (iU 7))(U:cL x b (off+2) (iU 7))(L:cL x b (off+3) (iU 1))(G:cL x b (off+4) (iU 0))(P:cL x b (off+5) (iU 0))(H:cL x b (off+6) (iU 0))(J:cL x b (off+7) (iU 0))(C:K (s.put (some d) (.agg #[iU 7,iU 7,iU 7,iU 1,iU 0,iU 0,iU 0,iU 0])) x):Oper.wp prog ⟨some d,.load 54 (.tmp t),ty,pos,af,gd⟩ s x K Q:=by go_simp;exact C
def jms(he:pg I D es ⟨some d,.load 54 (.tmp t),ty,pos,af,gd⟩ t=some (pq b off))(C:∀x,Jq9 x->∀j u,j<8->(mC 2 1)[j]?=some u->cL x b (off+j) u):WL Jq9 I D es Q ⟨some d,.load 54 (.tmp t),ty,pos,af,gd⟩ (some d) (.v (.agg #[iU 7,iU 7,iU 7,iU 1,iU 0,iU 0,iU 0,iU 0])):=λs x h G K E=>JT (G t _ he) (C x h 0 _ (by omega) W) (C x h 1 _ (by omega) W) (C x h 2 _ (by omega) W) (C x h 3 _ (by omega) W) (C x h 4 _ (by omega) W) (C x h 5 _ (by omega) W) (C x h 6 _ (by omega) W) (C x h 7 _ (by omega) W) (kx E)
end
def InI.bel{d:Nat}{G:Nat->VL×Tn}{l:VL}{C:LT}(h:InI O bb G c d l n xs C rs x0 i wr)(P:bW wr y):InI O bb G c d l n xs C rs x0 i y:=by let⟨H,E,J,L⟩:=h;exact⟨H,E.below P,J.trans (P.mono E.s),L⟩
def NlI(O bb:Nat)(G:Nat->VL×Tn)(g c N:Nat)(rs:List Rs)(x:WD)(i:Nat)(y:WD):=∃G' xs,Sep O (eH bb G'::fp 34 10 (.slice (some ⟨g,0,none⟩) (N+1) c) (N+1) xs::rs) y/\Below O x y/\EG G G' (λk=>if k=2 then 4*N else 0)/\∀j,j<i->xs[j*10+9]?=some dL
theorem NlI.set{G:Nat->VL×Tn}(h:NlI O bb G g c N rs x i y)(R:i<N+1):(∃u,cL y g (i*10+9) u)/\y.frozen? ⟨g,i*10+9,none⟩=false/\NlI O bb G g c N rs x (i+1) (y.setCell ⟨g,i*10+9,none⟩ dL):=by let⟨H,xs,C,J,P,U⟩:=h;have Y:=C.tl.hd.1;obtain⟨-,V,e, -,E,Z⟩:=fH C.tl.hd i R;injection e with e;injection e with e;subst e;have L:Sep _ (fp 34 10 _ _ (xs.set (i*10+9) dL)::eH bb H::rs) _:=C.sw.kb (S:=[g]) (DC C.tl.hd (by omega)) ((Kb.refl _ _).setCell AI _) (λk Y=>by rw[BY.1 Y];rfl) λk Y=>LZ Y;refine⟨⟨_,E 9 _ (by omega) (iN (by omega))⟩,Z _,H,_,L.sw,J.trans ((dO _ y).setCell (C.tl.ge (k:=g) W) _),P,λj X=>?_⟩;grind
theorem ER{O:Nat}{rs:List Rs}{y:WD}(h:Sep O rs y):∀n:Nat,Sep O ((List.replicate n ((dL,0,[]):VL×Nat×Tn)).map (rh 2)++rs) y
 |0=>h
 |n+1=>(ER h n).new (r:=rh 2 (dL,0,[])) (Xy _ _ _ _) (dO _ _) λk C=>by cases C
def L4{G:Nat->VL×Tn}{l:List AcE}{C:LT}(ht:Ltd l C)(h:Sep O (eH bb G::G4 g c l C::(C.map (rh 2)++rs)) x)(hc:l.length+1<=c)(w:∀y,Sep O rs y->Below O x y->AcIn y v l)(hl:l.length<=1000000)(a9:∀a∈l,a.ar.length<=1000000000)(h4:∀k,(G k).2.length%4=0)(hG:∀k,(G k).2.length+10000000<=4000000000000):cP 38 #[pt bb,sL g l.length c,v] x λe y=>e=.returned (.bool true)/\∃E,Sep O (eH bb E::rs) y/\Below O x y/\EG G E λk=>if k=3 then 4 else if k=2 then 8*l.length+4 else 0:=by
 obtain⟨f,S,rfl,hv0⟩:=w x h.tl.tl.ap (dO _ _);have HV:=cV w;obtain⟨N,P⟩:=dP l.length;have r:N<=1000000:=by rw[P.aa];exact hl
 have r:N+1<=c:=by rw[P.aa];exact hc
 have b0:=cV a9;have V:=cV ht;have H4:=cV h4;have a8:=cV hG;have r:Hd (InI O bb G 3 2 (sL g (N+1) c) (N+1) (sQ l C) C rs x 0 x):=by show InI _ _ _ _ _ _ _ _ _ _ _ _ _;rw[P.aa];exact⟨G,h,dO _ _,λk=>by simp⟩
 rw[<-P.aa];rw[<-P.aa]at HV;clear w hv0 hl a9 h h4 hG ht hc;have b8:Hd (∀y,InI _ bb G 3 2 (.slice (some ⟨g,0,_⟩) (N+1) c) (N+1) (sQ l C) C rs x 0 y->cP 45 _ y _):=λy T=>by obtain⟨E,H,R,U⟩:=T;rw[P.aa]at H;have h1:=V.aa.in H.tl;rw[<-P.aa]at h1;exact yQ l y h1 (HV y H.tl.tl.ap R) (by rw[<-P.aa];omega) (λa w=>by have:=b0.aa a w;omega)
 go_enter func38,ntmps38;have w:(N:Int)+1<=(c:Int):=by omega
 have w:(0:Int)<=N+1:=by omega
 go_upto_region 3 with(first|(go_at_call 45;refine(b8 _ r).mono ?_;rintro e w⟨rfl,w⟩)|fail);have a5:=cV (r.bel w);clear b8 r w;have r:Hd (∀y,InI O bb G 3 2 (sL g (N+1) c) (N+1) (sQ l C) C rs x 0 y->Mw y g (N*10) 2/\y.cell? ⟨g,N*10+9,_⟩=some (.slice _ 0 0)):=λy T=>by
  obtain⟨E,H,R,U⟩:=T;obtain⟨-,w,e, -,p, -⟩:=fH H.tl.hd N (YS _);injection e with e;injection e with e;subst e;have Y:∀j,(sQ l C)[N*10+j]?=(mC 3 2)[j]? :=λj=>by rw[P.aa];exact QX V j
  refine⟨λj u hu=>?_,p 9 _ (by decide) ((Y 9).trans W)⟩;have hj:j<4:=(Do.1 hu).1;refine p j u (Nat.lt_trans hj (by decide)) ((Y j).trans ?_);show(mW 2++_)[j]?=_;rw[Xv hj];exact hu
 have X:Hd (Bc λy=>InI O bb G 3 2 (sL g (N+1) c) (N+1) (sQ l C) C rs x 0 y):=λy z h hb=>h.bel hb;have HJ:=a5;refine Gs [(2,(.slice f N S)),(7,(sL g (N+1) c)),(8,(.bool true))] (nV 21 [.bool true,.bool true,.slice _ (N+1) c,.slice f N S,iI (N:Int),pq g (N*10),.pointer _,.agg _,.agg #[iU 7,iU 7,iU 7,iU 2],.bool true,.bool true,.bool true,sL g (N+1) c,.slice f N S,iI (N:Int),.pointer _,pq g (N*10+9),.slice none 0 0,iI (0:Int),.bool true,.bool true]++[(some 8,.v (.bool true))]) [5,7,8,15,17] W X HJ ⟨(js λs x w K hK=>uv (w 23 _ W) (w 25 _ W) (YS _) hK),(jm2 W λx hx=>(r x hx).1),(jl W λx _=>kk 2 (by omega) x),(js λs x w K hK=>uv (w 33 _ W) (w 35 _ W) (YS _) hK),(jc W λx hx=>(r x hx).2),AF⟩ λy2 a7=>?_;simp only[n8,sx9];have b1:=cV a7;clear a7 a5 HJ X r;go_wp2;go_loopw[8,9] (λr t9 wr=>∃i:Nat,i<=N/\r=.bool true/\t9=iI (i:Int)/\Hd (InI O bb G 3 2 (sL g (N+1) c) (N+1) (sQ l C) C rs x i wr)) (λ_ t9 _=>N-nI t9);case atStart=>exact⟨0,In _,W,W,b1⟩
 clear b1;obtain⟨i,r,rfl,rfl,F⟩:=hrel;by_cases hlt:i<N;case neg=>
  have hd:=dG i N;obtain rfl:i=N:=by omega
  have a3:Hd (NlI O bb G g c i rs x 0 wr):=by obtain⟨E,H,R,U⟩:=F.aa;rw[Y0 (by rw[V.aa.1,P.aa];exact DO _)]at H;exact⟨E,_,H,R,U,λj hj=>absurd hj (by omega)⟩
  clear F;go_wp2;go_loopw[12] (λr wr=>∃j:Nat,j<=i+1/\r=iI (j:Int)/\Hd (NlI O bb G g c i rs x j wr)) (λr _=>i+1-nI r);case atStart=>exact⟨0,In _,W,a3⟩
  clear a3;obtain⟨j,hj,rfl,r⟩:=hrel;by_cases hjt:j<i+1;case neg=>
   have hd2:=dF ((j:Int)<((i+1:Nat):Int));obtain rfl:j=i+1:=by omega
   have HAC:Hd (cP 46 #[pt bb,sL g (i+1) c] wr λe y=>e=AG/\∃E,Sep O (eH bb E::rs) y/\Below O x y/\EG G E λk=>if k=3 then 4 else if k=2 then 8*i+4 else 0):=by
    obtain⟨E,xs,H,R,U,k4⟩:=r.aa;have A:∀k,(E k).2.length=(G k).2.length+(if k=2 then 4*i else 0):=U;have k5:Sep O (eH bb E::fp 34 10 (sL g (i+1) c) (i+1) xs::((List.replicate (i+1) ((dL,0,[]):VL×Nat×Tn)).map (rh 2)++rs)) wr:=(ER H (i+1)).bh (X6.trans (List.Perm.cons _ X6));refine(eh (A4 ⟨W,W,W,W,W⟩) k5 (Yl ..) (λq t hq=>?_) (λt ht=>?_) (λk=>?_) (λk=>?_)).mono ?_
    .rw[List.getElem?_replicate]at hq;split at hq
     .obtain rfl:=hV hq;exact k4 q (by omega)
     cases hq
    .rw[List.eq_of_mem_replicate ht];exact In _
    .have h9:=H4.aa k;rw[A k];split<;>omega
    .have h9:=a8.aa k;rw[A k];split<;>omega
    rintro e y⟨h1,G2,h2,h3,h5⟩;refine⟨h1,G2,h2,R.trans h3,λk=>?_⟩;have h6:=h5 k;rw[A k]at h6;rw[h6];by_cases L:k=3
    .subst L;simp
    by_cases m:k=2
    .subst m;simp;omega
    simp[L,m]
   clear r;go_wp2_with(first|(go_at_call 46;refine HAC.mono ?_;rintro e y9⟨rfl,Y⟩;replace Y:=cV Y)|fail);go_ret;exact⟨W,Y.aa⟩
  have hd2:=dT ((j:Int)<((i+1:Nat):Int));obtain⟨⟨u,hu⟩,hf,HE⟩:=r.aa.set hjt;replace HE:=cV HE;clear r;go_wp2;go_roundw;case rel=>exact⟨j+1,by omega,by go_num,HE⟩
  simp[nI];omega
 have hd:=dN i N;have o:i<l.length:=by rw[<-P.aa];exact hlt
 obtain⟨a,a6⟩:∃a,Hd (a=l[i]):=⟨l[i],cV W⟩
 have a0:Hd (l[i]?=some a):=by show _=_;rw[iN o,a6.aa]
 have r:a.ar.length<=1000000000:=by rw[a6.aa];exact b0 _ (Ya o)
 obtain⟨J,Z⟩:=dP a.ar.length;have hn5:J<=1000000000:=by rwa[Z.aa]
 have b6:Hd (∃g2 c2,J+1<=c2/\∀y,InI O bb G 3 2 (sL g (N+1) c) (N+1) (sQ l C) C rs x i y->cL y g (i*10+9) (sL g2 J c2)/\(∀j u,j<8->(mC 2 1)[j]?=some u->cL y g2 (J*8+j) u)/\∃E,Sep O (eH bb E::fp 54 8 (sL g2 (J+1) c2) (J+1) (io a.ar++mC 2 1)::fp 34 10 (sL g (N+1) c) (N+1) (sQ l C)::((C.drop (i+1)).map (rh 2)++rs)) y/\Below O x y/\EG G E λk=>if k=2 then 4*i else 0):=by obtain⟨E,H,R,U⟩:=F.aa;rw[P.aa]at H;obtain⟨g2,c2,r,m, -, -, -⟩:=V.aa.aF H.tl a0;clear H;refine⟨g2,c2,by rw[Z.aa];exact m,λy T=>?_⟩;obtain⟨E,H,R,U⟩:=T;rw[P.aa]at H;have k1':Sep O (G4 g c l C::((C.drop i).map (rh 2)++eH bb E::rs)) y:=H.sw.bh (List.Perm.cons _ X6.symm);obtain⟨g3,c3,L, -,e4,e5,e6⟩:=V.aa.aF k1' a0;rw[r]at L;injection L with L;injection L with L;injection L with L e7 e8;injection L with L;injection L with L;subst L e8;rw[Z.aa,P.aa];exact⟨e4,e5,E,(e6.bh ((X6.cons _).cons _)).bG,R,U⟩
 obtain⟨g2,c2,hc2,hO⟩:=b6.aa;have HO:=cV hO;have r9:=(HO wr F).1;have b7:Hd (∃gv ov av cv,f=some ⟨gv,ov,none⟩/\cL wr gv (ov+i*10+9) (.slice av J cv)):=by obtain⟨E,H,R,U⟩:=F.aa;obtain⟨ad',cp',r,h9⟩:=HV.aa wr H.tl.tl.ap R;obtain⟨gv,ov,m,A,p⟩:=h9.resolve_left (λe=>by rw[e]at o;exact absurd o (by simp));obtain⟨sl,hc,hsl⟩:=p i a a0;obtain⟨av,cv,rfl, -⟩:=hsl;injection r with r;exact⟨gv,ov,av,cv,r.trans m,by rw[Z.aa];exact hc 9 (by omega)⟩
 obtain⟨gv,ov,av,cv,rfl,v9⟩:=b7.aa;have r:(J:Int)+1<=(c2:Int):=by omega
 have r:(0:Int)<=(J:Int)+1:=by omega
 clear hO b6 b7;go_upto_region 11 with fail
 clear v9 r9;have HJ:=F;have X:Hd (Bc λy=>InI O bb G 3 2 (sL g (N+1) c) (N+1) (sQ l C) C rs x i y):=λy z h hb=>h.bel hb;have b9:Hd (∀y,InI O bb G 3 2 (sL g (N+1) c) (N+1) (sQ l C) C rs x i y->∀j u,j<8->(mC 2 1)[j]?=some u->cL y g2 (J*8+j) u):=λy T=>(HO y T).2.1;refine Gs [(8,(.bool true)),(10,(iI (J:Int))),(11,(sL g2 (J+1) c2))] (nV 70 [.bool true,.bool true,sL g2 (J+1) c2,iI (J:Int),pq g2 (J*8),.agg #[iU 7,iU 7,iU 7,iU 1,iU 0,iU 0,iU 0,iU 0],.agg #[iU 7,iU 7,iU 7,iU 1],.agg #[iU 7,iU 7,iU 7,iU 1,iU 0,iU 0,iU 0,iU 0],.bool true,.bool true]++[(some 8,.v (.bool true))]) [4,5,6] W X HJ ⟨(js λs x w K hK=>zB (w 72 _ W) (w 73 _ W) (YS _) hK),(jms W λx hx=>b9 x hx),(jl W λx _=>kk 1 (by omega) x),AF⟩ λw a4=>?_;simp only[n8,sx9];have r:Hd (cP 65 #[pt bb,sL g2 (J+1) c2] w λe y=>e=AG/\InI O bb G 3 2 (sL g (N+1) c) (N+1) (sQ l C) C rs x (i+1) y):=by
  obtain⟨-, -,E,H,R,U⟩:=HO.aa w a4;have A:∀k,(E k).2.length=(G k).2.length+(if k=2 then 4*i else 0):=U;refine(jv (A4 ⟨W,W⟩) H ?_ ?_ ?_).mono ?_
  .have h9:=H4.aa 2;rw[A 2,At W];omega
  .have h9:=a8.aa 2;rw[A 2,At W];omega
  .omega
  rintro e y⟨h1,G2,h2,h3,h5⟩;refine⟨h1,G2,h2,R.trans h3,λk=>?_⟩;have h6:=h5.u k;rw[A k]at h6;show _=_+(if k=2 then 4*(i+1)else 0);rw[h6];by_cases m:k=2
  .subst m;simp;omega
  simp[m]
 clear F HJ X b9 HO a4;go_wp2_with(first|(go_at_call 65;refine r.mono ?_;rintro e y9⟨rfl,Y⟩;replace Y:=cV Y)|fail);go_roundw;case rel=>exact⟨i+1,by omega,W,by go_num,Y.aa⟩
 simp[nI];omega
def Vj(a:AcE)(s:VL):jL (Er a).aj (Er a).ai (Er a).ae s=jL a.aj a.ai a.ae s:=by grind[jL,Er,oJ]
def Ol{L:List (Nat×Nat)}(h:SlIn x v L):SlIn x v (L.map λq=>(q.1%M,q.2%M)):=by
 let⟨H,c,E,C⟩:=h;refine⟨H,c,by rw[XH];exact E,?_⟩;rcases C with rfl|⟨g,o,I,D,G⟩
 .exact LZ W
 refine A4 ⟨g,o,I,D,λi p L j J=>?_⟩;rw[Xu]at L;obtain⟨q,P,rfl⟩:=Y1.1 L;dsimp only;rw[zbQ,zbQ];exact G i q P j J
def Ou{l:List AcE}(h:AcIn x v l):AcIn x v (l.map Er):=by
 let⟨I,c,E,C⟩:=h;refine⟨I,c,by rw[XH];exact E,?_⟩;rcases C with rfl|⟨g,o,J,D,H⟩
 .exact LZ W
 refine A4 ⟨g,o,J,D,λi p Q=>?_⟩;rw[Xu]at Q;obtain⟨q,U,rfl⟩:=Y1.1 Q;let⟨Q,L,G⟩:=H i q U;exact⟨Q,λj P=>by rw[Vj];exact L j P,Ol G⟩
def AcOwn.ml{l:List AcE}(h:AcOwn O v l x):∀a∈l,a.ar.length<=9223372036854775807:=λa D=>by
 let⟨I,L,J,G⟩:=h.ex;let⟨i,C⟩:=XM D;have H:=(Do.1 C).1;rcases(G i a _ C (iN (by omega))).2 with⟨_,e⟩|⟨g,E,cur,_,_,_,h5,h6,_⟩
 .omega
 have:maxLen=9223372036854775807:=by kernel_rfl
 omega
def xT(h:Sep O (fN gb ab n A sb::rs) x)(hz:Zr x)(hn:n<=400000000000):cP 23 #[pt gb] x λe y=>∃(v:VL)(l:List AcE)(R:Tn)(E:LT),e=.returned v/\IsList A l/\(AcOwn x.heap.size v l y/\Kb [gb] x y/\∀a∈l,a.ar.length<=9223372036854775807)/\l.length<=n/\E.length=l.length/\(∀(i:Nat) t,E[i]?=some t->R[i*10+9]?=some t.1/\t.2.1<=1000000000000)/\Sep O (fp 34 10 v l.length R::(E.map (rh 2)++fN gb ab n A sb::rs)) y/\Below O x y:=by
 refine(Ke x ⟨h.hd.row,h.hd.aw,hz⟩ (by omega)).mono ?_;rintro e y⟨v,ts,Y,rfl,P,G,U,L,I⟩;let⟨l,g,Q⟩:=U.list G;have X:l.length=ts.length:=by
  let⟨H,J,Z,_⟩:=g;rw[Z];have:H=ts:=by have C:=J.1;have D:=G.1;refine List.Perm.eq_of_pairwise (λa b _ _ P G=>absurd P (by omega)) C D ?_;refine(List.perm_ext_iff_of_nodup (C.imp λh=>Nat.ne_of_lt h) (D.imp λh=>Nat.ne_of_lt h)).2 λm=>?_;rw[J.2 m,G.2 m]
  rw[this]
 have j:Sep _ (fN gb ab n A sb::rs) y:=h.kb ⟨L.row,L.aw⟩ I (λk c=>LZ (BY.1 c)) λk c=>LZ c;let⟨E,d,V,f⟩:=Me j h.s h.lts U;refine⟨v,l,_,E,W,g,⟨Q,I,Q.ml⟩,by omega,by omega,V,by grind,I.bel (λk c=>?_) h.s⟩;rw[BY.1 c];exact h.ge (LZ W)
end
section
variable {sl:List Slt}
def pm1{α:Type}(G:List α){C:List α}(rs:List α){E R D B:α}:(G++E::(C++R::D::B::rs)).Perm (B::(C++(G++E::R::D::rs))):=by
 have I:(C++R::D::B::rs).Perm (B::(C++R::D::rs)):=by rw[show C++R::D::B::rs=(C++[R,D])++B::rs by simp,show C++R::D::rs=(C++[R,D])++rs by simp];exact X6
 have H:(G++E::B::(C++R::D::rs)).Perm (B::((G++[E])++(C++R::D::rs))):=by rw[show G++E::B::(C++R::D::rs)=(G++[E])++B::(C++R::D::rs) by simp];exact X6
 refine((I.cons E).append_left G).trans (H.trans (List.Perm.cons _ ?_));grind[List.perm_append_comm_assoc]
def KH{G:Nat->VL×Tn}(h:Sep O (gj pb 106 [pt gb,pt hb]::fN gb ab n A sb::iK hb pu sl pv lv::eH bb G::rs) x)(hz:Zr x)(h0:0<O)(hc:Cd ⟨pu,sl,[]⟩)(hr:RelW (T0 A) ⟨pu,sl,[]⟩)(hn:n<=400000000000)(hpl:pu.length<=400000000)(hsl:sl.length<=400000000)(h4:∀k,(G k).2.length%4=0)(hG:∀k,(G k).2.length+8*n+8<=4000000000000):cP 19 #[pt pb,pt bb] x λe y=>e=.returned (.bool true)/\∃H l,IsList A l/\l.length<=n/\Sep O (gj pb 106 [pt gb,pt hb]::fN gb ab n A sb::iK hb pu sl pv lv::eH bb H::rs) y/\Below O x y/\EG G H λk=>if k=3 then 8 else if k=2 then 8*l.length else 0:=by
 have hgx:=h.tl.hd.row.lt;have W1:=cV (xT h.sw hz hn);have X:Hd _:=FI hc hr;have d:Hd (∀l,IsList A l->l=(uJ _).map _):=λl hl=>hl.bU X ⟨λ_=>W,λ_=>W,λ_ _=>W⟩;let⟨L,HL⟩:=dP ((uJ ⟨pu,sl,[]⟩).map Er);rw[<-HL.aa]at X d;have r0:=rowL.cell (i:=0) h.hd W;have HZ:=cV hz;have a5:=cV h4;have N:=cV hG;clear h hz hc hr h4 hG;go_enter func19,ntmps19;go_upto_region 2 with(first|(go_at_call 23;refine W1.aa.mono ?_;rintro e y1⟨v1,l1,xs1,us1,rfl,f,⟨R,a,U⟩,hn1,m,V,E,q⟩)|fail);obtain rfl:=d.aa l1 f;obtain⟨a1,c1,rfl⟩:=dt E.hd;have W2:=cV (xT (E.bh (X6 (l₁:=_::us1.map _))) (HZ.bq h0 q) hn);replace r0:=rowL.cell (i:=0) E.tl.ap.tl.hd W;replace f:=cV f;replace R:=cV R;replace E:=cV E;replace q:=cV q;replace V:=cV V;replace m:=cV m;replace U:=cV U;clear a W1;go_upto_region 3 with(first|(go_at_call 23;refine W2.aa.mono ?_;rintro e y2⟨v2,J,xs2,a6,rfl,a7,⟨a4,S,w⟩,hn2,Z,Q,I,a0⟩)|fail);obtain rfl:=d.aa J a7;obtain⟨a2,c2,rfl⟩:=dt I.hd;have r1:=rowL.cell (i:=1) I.tl.ap.tl.ap.hd W;have W3:=cV (Ci I.tl.ap.tl.ap.tl hpl hsl);have z:=cV (R.aa.kb S (λk hk=>by grind));have T:=cV a4;have g:=cV I;have b:=cV (q.aa.trans a0);replace Q:=cV Q;replace Z:=cV Z;clear S W2 a4 I a0 a7 w r0 q R E;go_upto_region 4 with(first|(go_at_call 44;refine W3.aa.mono ?_;rintro e y3⟨v3,rfl,C,D⟩)|fail);replace C:=Ou C;rw[<-HL.aa]at C;have a9:J.length<=9223372036854775807:=by omega
 have p:Hd _:=λy F=>yQ J y (z.is.below (D.trans (F.mono D.size))) (C.below F) a9 U.aa;have K:Hd _:=λy F=>yQ J y (T.is.below (D.trans (F.mono D.size))) (C.below F) a9 U.aa;obtain⟨a3,n3,c3,rfl⟩:∃a3 n3 c3,v3=.slice a3 n3 c3:=by obtain⟨a3,c3,u, -⟩:=C;grind
 have j:=cV D;clear C D W3 r1;go_upto_region 5 with(first|(go_at_call 45;refine(p y3 (dO _ _)).mono ?_;rintro e y4⟨rfl,P⟩)|fail);replace P:=cV P;clear p;go_upto_region 6 with(first|(go_at_call 45;refine(K y4 P.aa).mono ?_;rintro e y5⟨rfl,a8⟩)|fail);have o:Hd (bW y2 y5):=by have c:=j.aa.trans (P.aa.mono j.size);exact c.trans (a8.mono c.size)
 clear K P a8 j;have W6:Hd (cP 46 #[pt bb,.slice a1 J.length c1] y5 λe y=>e=AG/\∃H,Sep O (eH bb H::fp 34 10 (.slice a2 J.length c2) J.length xs2::(a6.map (rh 2)++fN gb ab n A sb::gj pb 106 [pt gb,pt hb]::iK hb pu sl pv lv::rs)) y/\Below O x y/\EG G H λk=>if k=3 then 4 else if k=2 then 4*J.length else 0):=by
  have s5:=(g.below o).bh (pm1 (_::a6.map _) rs);refine(eh (A4 ⟨W,W,W,W,W⟩) s5 m.aa (λi t Y=>(V.aa i t Y).1) (λt Y=>?_) a5 (λk=>?_)).mono ?_
  .obtain⟨i,hi⟩:=XM Y;exact(V.aa i t hi).2
  .have:=N.aa k;omega
  rintro e y⟨c,H,q2,q3,q4⟩;exact⟨c,H,q2,(b.trans (o.mono g.s)).trans q3,q4⟩
 clear g o z T b;go_upto_region 7 with(first|(go_at_call 46;refine W6.aa.mono ?_;rintro e y6⟨rfl,G1,k1,k2,k3⟩)|fail);have W7:Hd (cP 46 #[pt bb,.slice a2 J.length c2] y6 λe y=>e=AG/\∃H l,IsList A l/\l.length<=n/\Sep O (gj pb 106 [pt gb,pt hb]::fN gb ab n A sb::iK hb pu sl pv lv::eH bb H::rs) y/\Below O x y/\EG G H λk=>if k=3 then 8 else if k=2 then 8*l.length else 0):=by
  have v:∀k,(G1 k).2.length=(G k).2.length+(if k=3 then 4 else if k=2 then 4*J.length else 0):=k3;refine(eh (A4 ⟨W,W,W,W,W⟩) k1 Z.aa (λi t Y=>(Q.aa i t Y).1) (λt Y=>?_) (λk=>?_) (λk=>?_)).mono ?_
  .obtain⟨i,hi⟩:=XM Y;exact(Q.aa i t hi).2
  .have:=a5.aa k;rw[v k];split
   .omega
   split<;>omega
  .have:=N.aa k;rw[v k];split
   .omega
   split<;>omega
  rintro e y⟨c,H,q2,q3,q4⟩;refine⟨c,H,J,X,hn2,q2.bG.bh (((List.Perm.swap _ _ _).trans ((List.Perm.swap _ _ _).cons _)).cons _),k2.trans q3,λk=>?_⟩;have h6:=q4 k;rw[v k]at h6;rw[h6];by_cases u:k=3
  .subst u;simp
  by_cases e2:k=2
  .subst e2;simp;omega
  simp[u,e2]
 clear W6 k1 k2 k3;go_wp2_with(first|(go_at_call 46;refine W7.aa.mono ?_;rintro e y7⟨rfl,r⟩;replace r:=cV r)|fail);go_ret;exact⟨W,r.aa⟩
def PA{l:List AcE}(h:Sep O rs x)(hv:∀y,Sep O rs y->Below O x y->AcIn y v l)(hl:l.length<=1000000000)(a6:∀a∈l,a.ar.length<=1000000000):cP 37 #[v] x λe y=>∃g c R,e=.returned (sL g l.length c)/\l.length+1<=c/\Ltd l R/\Sep O (fp 34 10 (sL g (l.length+1) c) (l.length+1) (rD l (LM R)++mC 3 2)::(R.map (rh 2)++rs)) y/\Below O x y:=by
 obtain⟨ad,cp,rfl,hv0⟩:=hv x h (dO _ _);have HV:=cV hv;have H0:Hd (LnI O rs l x 0 dL x):=⟨[],⟨W,λj t a ht=>by cases ht⟩,by refine(h.new (r:=fp 34 10 dL 0 []) (Xy _ _ _ _) (dO _ _) λk hk=>by cases hk),dO _ _⟩
 let⟨L,HL⟩:=dP l.length;have hL:L<=1000000000:=by rw[HL.aa];exact hl
 have HLS:=cV a6;rw[<-HL.aa];rw[<-HL.aa]at HV;clear hv hv0 hl a6 h;go_enter func37,ntmps37;go_wp2;go_loopw[3,4] (λt3 t4 wr=>∃(i:Nat)(a3:Gj)(c3:Nat),i<=L/\t4=iI (i:Int)/\t3=.slice a3 i c3/\Hd (LnI O rs l x i (.slice a3 i c3) wr)) (λ_ t4 _=>L-nI t4);case atStart=>exact⟨0,none,0,In _,W,W,H0.aa⟩
 clear H0;obtain⟨i,a3,c3,hi,rfl,rfl,HI⟩:=hrel;by_cases hlt:i<L;case neg=>
  have hd:=dG i L;obtain rfl:i=L:=by omega
  have a5:Hd (∀z,bW wr z->∃g c X,(Builtin.append_ #[35,35] 35 #[.slice a3 i c3,sL z.heap.size 1 1]).run prog (z.alloc (.cells #[iU 7,iU 7,iU 7,iU 2,iU 0,iU 0,iU 0,iU 0,.string ⟨#[]⟩,.slice none 0 0] 34))=.ok (sL g (i+1) c) X/\i+1<=c/\∃R,Ltd l R/\Sep O (fp 34 10 (sL g (i+1) c) (i+1) (rD l (LM R)++mC 3 2)::(R.map (rh 2)++rs)) X/\Below O x X):=λz u=>by have K:=HI.aa.bel u;rw[HL.aa]at K⊢;exact K.e (by rw[<-HL.aa];exact hL)
  have HM:=cV (λw=>kk 2 (by omega) w);clear HI;go_upto_region 12 with(first|(go_at_call 47;refine(HM _).mono ?_;rintro e z⟨rfl,u⟩;let⟨g,c,X,HR,hc,T⟩:=a5.aa z u;replace HR:=cV HR;replace T:=cV T)|(at_builtin;refine Lib.wpList_append_run _ rfl _ _ _ _ rfl _ _ rfl rfl _ _ HR ?_)|fail);have q1:(i:Int)<=(c:Int):=by omega
  have q0:(0:Int)<=(i:Int):=by omega
  clear HR u HM a5;go_wp2;go_ret;let⟨R,k1,S,k3⟩:=T.aa;exact⟨g,c,R,W,hc,k1,S,k3⟩
 have hd:=dN i L;have A:i<l.length:=by rw[<-HL.aa];exact hlt
 obtain⟨a,a2⟩:∃a,Hd (a=l[i]):=⟨l[i],cV W⟩
 have b6:Hd (l[i]?=some a):=by show _=_;rw[iN A,a2.aa]
 have q:a.ar.length<=1000000000:=by rw[a2.aa];exact HLS _ (Ya A)
 have b0:Hd (∃g o sl,ad=some ⟨g,o,none⟩/\(∀j,j<10->cL wr g (o+i*10+j) ((jL a.aj a.ai a.ae sl)[j]!))/\SlIn wr sl a.ar):=by let⟨R,k1,S,k3⟩:=HI.aa;let⟨ad',cp',n,K⟩:=HV.aa wr S.tl.ap k3;let⟨g,o,e2,hg,E⟩:=K.resolve_left (λe=>by rw[e]at A;exact absurd A (by simp));let⟨sl,hc,U⟩:=E i a b6;injection n with n;exact⟨g,o,sl,n.trans e2,hc,U⟩
 obtain⟨g,o,sl,rfl,E,U⟩:=b0.aa;have a7:=U;obtain⟨Q,c5,e5, -⟩:=a7;let⟨H,Y⟩:=dP a.ar.length;rw[<-Y.aa]at e5;let⟨v1,y1,V,R,a9,f,b1⟩:=HI.aa.a U q;subst e5;let⟨a1,c1,n⟩:=dt f.hd;rw[<-Y.aa]at n;subst n;let⟨ab,p⟩:=hJ wr.heap.size;rw[<-p]at f;have HT:=cV (aIn a9 (aIn f b1));clear a9 f b1 b0 U HI;let⟨D,C,P,ss9⟩:=a;dsimp only at E V HT q Y;have s0:=E 0 (by omega);have s1:=E 1 (by omega);have s2:=E 2 (by omega);have s3:=E 3 (by omega);have s4:=E 4 (by omega);have s5:=E 5 (by omega);have s6:=E 6 (by omega);have s7:=E 7 (by omega);have s8:=E 8 (by omega);have s9:=E 9 (by omega);replace s0:cL wr g (o+i*10) (iU (cX D 0)):=s0;replace s1:cL wr g (o+i*10+1) (iU (cX D 1)):=s1;replace s2:cL wr g (o+i*10+2) (iU (cX D 2)):=s2;replace s3:cL wr g (o+i*10+3) (iU (cX D 3)):=s3;replace s4:cL wr g (o+i*10+4) (iU (cX C 0)):=s4;replace s5:cL wr g (o+i*10+5) (iU (cX C 1)):=s5;replace s6:cL wr g (o+i*10+6) (iU (cX C 2)):=s6;replace s7:cL wr g (o+i*10+7) (iU (cX C 3)):=s7;replace s8:cL wr g (o+i*10+8) (.string P):=s8;replace s9:cL wr g (o+i*10+9) (.slice Q H c5):=s9;let⟨y0,m⟩:=hJ (wr.alloc (.cells #[iU (cX D 0),iU (cX D 1),iU (cX D 2),iU (cX D 3),iU (cX C 0),iU (cX C 1),iU (cX C 2),iU (cX C 3),.string P,.slice Q H c5] 34));replace V:Hd ((Builtin.append_ #[32,32] 32 #[.slice none 0 0,.slice Q H c5]).run prog y0=.ok (.slice a1 H c1) y1):=by rwa[m]
 have r9:cL y0 ab 9 (.slice Q H c5):=by rw[m,p];exact(rowL.al wr (jL D C P (.slice Q H c5)) 34).cell (i:=9) W
 clear E;go_upto_region 6 with fail
 rw[<-m,<-p];clear m p s0 s1 s2 s3 s4 s5 s6 s7 s8 s9;have HM:=cV (λw=>kk 1 (by omega) w);have a8:Hd (∀z,bW y1 z->∃g2 c2 F v3 X,(Builtin.append_ #[32,32] 32 #[.slice a1 H c1,sL z.heap.size 1 1]).run prog (z.alloc (.cells #[iU 7,iU 7,iU 7,iU 1,iU 0,iU 0,iU 0,iU 0] 54))=.ok (sL g2 (H+1) c2) F/\H+1<=c2/\rowL F ab 34 (jL D C P (.slice Q H c5))/\rowL (F.setCell ⟨ab,9,none⟩ (sL g2 H c2)) ab 34 (jL D C P (sL g2 H c2))/\
  (Builtin.append_ #[35,35] 35 #[.slice a3 i c3,sL F.heap.size 1 1]).run prog ((F.setCell ⟨ab,9,none⟩ (sL g2 H c2)).alloc (.cells (jL D C P (sL g2 H c2)).toArray 34))=.ok v3 X/\LnI O rs l x (i+1) v3 X):=λz u=>by
  let⟨k1,S,k3⟩:=HT.aa;have K:=LnI.b (a:=⟨D,C,P,ss9⟩) k1 (S.below u) (k3.trans (u.mono S.s)) q (by omega) b6;dsimp only at K;rwa[<-Y.aa]at K
 clear HT;go_upto_region 9 with(first|(go_at_call 47;refine(HM _).mono ?_;rintro e z⟨rfl,u⟩;let⟨g2,c2,F,v3,X,Z,hc2,I,G,d,T⟩:=a8.aa z u;replace Z:=cV Z;replace d:=cV d;replace T:=cV T;replace I:=cV I;replace G:=cV G)|(at_builtin;first|refine Lib.wpList_append_run _ rfl _ _ _ _ rfl _ _ rfl rfl _ _ V ?_|refine Lib.wpList_append_run _ rfl _ _ _ _ rfl _ _ rfl rfl _ _ Z ?_)|fail);have q1:(H:Int)<=(c2:Int):=by omega
 have q0:(0:Int)<=(H:Int):=by omega
 have t9:=I.aa.cell (i:=9) W;have tf:=World.rowIs.frozen I.aa 9;clear V Z a8 HM r9 u;go_upto_region 10 with fail
 let⟨N,J⟩:=hJ (F.setCell ⟨ab,9,none⟩ (sL g2 H c2));have a0:F.heap.size=N.heap.size:=by rw[J];simp
 rw[<-J]at G;have HR4:Hd ((Builtin.append_ #[35,35] 35 #[.slice a3 i c3,sL N.heap.size 1 1]).run prog (N.alloc (.cells #[iU (cX D 0),iU (cX D 1),iU (cX D 2),iU (cX D 3),iU (cX C 0),iU (cX C 1),iU (cX C 2),iU (cX C 3),.string P,sL g2 H c2] 34))=.ok v3 X):=by rwa[<-a0,J]
 rw[<-J];clear J a0 d t9 tf I;have mm:=G.aa.cs;simp only[oI,jL,XN,XG,Nat.reduceAdd]at mm;clear G;go_wp2_with(first|(at_builtin;refine Lib.wpList_append_run _ rfl _ _ _ _ rfl _ _ rfl rfl _ _ HR4 ?_)|fail);let⟨ts3,k1,S,k3⟩:=T.aa;obtain⟨a4,c4,rfl⟩:=dt S.hd;go_roundw;case rel=>exact⟨i+1,a4,c4,by omega,by go_num,W,T⟩
 simp[nI];omega
def pm2{α:Type}{T rs:List α}{C A B:α}:(C::A::(T++B::rs)).Perm (B::A::(T++C::rs)):=((X6.cons _).cons _).trans ((((List.Perm.swap B A _).cons C).trans (List.Perm.swap B C _)).trans (((List.Perm.swap A C _).cons B).trans ((X6.symm.cons A).cons B)))
def U3{G:Nat->VL×Tn}{l:List AcE}(h:Sep O (eH bb G::rs) x)(hz:Zr x)(h0:0<O)(T:∀y,Sep O rs y->Below O x y->AcIn y v l)(b:jt l=true)(h4:∀k,(G k).2.length%4=0)(hG:∀k,(G k).2.length+10000000<=4000000000000):cP 17 #[v,pt bb] x λe y=>∃u E q w n sb pv lv J,e=.returned (.tuple #[pt u,.bool true])/\n<=40/\Sep O (gj u 106 [pt E,pt q]::fN E w n (jO l) sb::iK q (l.map uD) (l.flatMap ic) pv lv::eH bb J::rs) y/\Below O x y/\EG G J λk=>if k=3 then 4 else if k=2 then 8*l.length+4 else 0:=by
 obtain⟨V,hp⟩:=pY b;have W1:=cV (PA h (λy d q=>T y d.tl q) (by omega) λa K=>by grind);obtain⟨u,u,u, -⟩:=T x h.tl (dO _ _);obtain⟨L,HL⟩:=dP l.length;have HV:=cV T;have HZ:=cV hz;have H4:=cV h4;have i:=cV hG;have HR:=cV b;have o:=cV V;have H:=cV (λa K=>(hp a K).2.1);rw[<-HL.aa]at u;subst u;clear h hz T h4 hG hp b V;go_enter func17,ntmps17;go_upto_region 2 with(first|(go_at_call 37;refine W1.aa.mono ?_;rintro e b⟨g,c,ts,rfl,D,X,C,u⟩)|fail);replace X:=cV X;replace C:=cV C;replace u:=cV u;replace D:=cV D;go_upto_region 3 with(first|(go_at_call 29;refine(cV (Rh l b (X.in C) (HZ.bq h0 u) HR)).aa.mono ?_;rintro e y2⟨E,rfl,w,n,sb,hn,t,P,A,hf2⟩)|fail);have b:Hd (Sep _ (eH bb G::G4 g c l ts::(ts.map _++fN E w n _ sb::rs)) y2):=(C.aa.new (r:=fN E w n _ sb) ⟨t.row,t.aw⟩ P (λk hk=>by
  rcases hk with rfl|hk
  .exact A
  grind)).bh (pm2)
 have f:Hd _:=u.aa.trans (P.mono C.aa.s);have W3:=cV (L4 X.aa b D.aa (λy d q=>HV y d.tl (f.trans q)) (by have:=o.aa;omega) (λa K=>by have:=H.aa a K;omega) H4.aa i);clear t P A hf2 C u D X;go_upto_region 4 with(first|(go_at_call 38;refine W3.aa.mono ?_;rintro e y3⟨rfl,J,U,b,u⟩)|fail);have m:=cV (f.trans b);have Z:=cV U;have q:=cV u;have b:=cV (Ee l y3 (HV y3 U.tl.tl m));rw[HR.aa]at b;go_upto_region 5 with(first|(go_at_call 39;refine b.aa.mono ?_;rintro e R⟨rfl,S⟩)|fail);have Q:=cV (Z.below S);have p:=cV (m.trans (S.mono Z.s));have W5:=cV (GT l R (HV R Q.tl.tl p) o H);have b:Hd (∀I,NwI R _ _ _ I->∃Y z j N n' u pv lv J,(Ending.returned (.tuple #[pt I.heap.size,.bool _])=.returned (.tuple #[pt Y,.bool true]))/\n'<=40/\Sep _ (gj Y _ [pt z,pt j]::fN z N n' _ u::iK j (l.map uD) (l.flatMap ic) pv lv::eH bb J::rs) (I.alloc (.cells _ 106))/\Below _ x (I.alloc (.cells #[pt E,pt R.heap.size] 106))/\EG G J _):=λI d=>by obtain⟨pv,lv,u,k2⟩:=d;have s5:=Q.aa.new u.hd k2 (λk hk=>u.ge hk);refine⟨_,E,R.heap.size,w,n,sb,pv,lv,J,W,hn,?_,(p.trans (k2.mono Q.s)).trans ((ai (dO _ I) _).mono s5.s),q⟩;exact(s5.row [pt E,pt R.heap.size] 106).bh (((((List.Perm.swap _ _ _).cons _).trans (List.Perm.swap _ _ _))).cons _)
 go_wp2_with(first|(go_at_call 40;refine W5.aa.mono ?_;rintro e I⟨rfl,F⟩;replace b:=cV (b I F))|fail);refine Kg W W ?_;exact b
theorem adj{α:Type}{f:α->Nat}:∀(l:List α),(∀i (h:i+1<l.length),f l[i]<f l[i+1])->l.Pairwise λa b=>f a<f b
 |[],_=>List.Pairwise.nil
 |[a],_=>XO _ _
 |a::b::r,h=>by have C:=adj _ (λi E=>h (i+1) (by grind));refine XT.2 ⟨λx G=>?_,C⟩;have D:f a<f b:=h 0 (by simp);grind[Nat.lt_trans,XT]
def D8{l:List AcE}(h:jt l=true):l.Pairwise λa b=>a.aj%M<b.aj%M:=by let⟨H,E⟩:=(Xo _ _).mp h;refine adj l λi C=>?_;have D:=Xp.1 E _ (XS.2 C);unfold rA at D;let⟨G,_⟩:=(Xo _ _).mp D;rw[ZQ,gE l _ C,gE l _ (Nat.lt_of_succ_lt C),xm]at G;grind[iX]
def Ds{l:List AcE}(h:jt l=true):∀a∈l,a.ar.Pairwise λp q=>p.1%M<q.1%M:=λa P=>by let⟨Q,J⟩:=(Xo _ _).mp h;obtain⟨i,G,rfl⟩:=XU P;have D:=Xp.1 J i (XS.2 G);unfold rA at D;rw[gE l _ G]at D;let⟨_,L⟩:=(Xo _ _).mp D;let⟨_,H⟩:=(Xo _ _).mp L;unfold kA at H;let⟨_,O⟩:=(Xo _ _).mp H;refine adj _ λj E=>?_;have I:=Xp.1 O _ (XS.2 E);unfold rS at I;let⟨C,_⟩:=(Xo _ _).mp I;rw[ZQ,gE _ _ E,gE _ _ (Nat.lt_of_succ_lt E),xm]at C;grind[iX]
theorem Ao(a:Nat):∀(l:List AcE)(A:Nat->Acc),(l.Pairwise λa b=>a.aj%M<b.aj%M)->l.foldl (λA e=>fQ A e.aj (ri e)) A a=((l.find? λe=>gN e.aj a).map ri).getD (A a)
 |[],A,_=>rfl
 |e::r,A,h=>by
  let⟨D,C⟩:=XT.1 h;rw[Xa,Ao a r _ C,X0];by_cases G:e.aj%M=a%M
  .have H:r.find? (λe=>gN e.aj a)=none:=Zn.2 λx E I=>by have:=D x E;have:=Xd I;omega
   grind[gN,OsQ,jC]
  grind[gN,W8,iV]
theorem Eu(k:Nat):∀(l:List (Nat×Nat))(s:Vq),(l.Pairwise λa b=>a.1%M<b.1%M)->l.foldl (λs p=>lE s p.1 p.2) s k=((l.find? λe=>gN e.1 k).map (·.2)).getD (s k)
 |[],A,_=>rfl
 |e::r,A,h=>by
  let⟨E,D⟩:=XT.1 h;rw[Xa,Eu k r _ D,X0];by_cases C:e.1%M=k%M
  .have H:r.find? (λe=>gN e.1 k)=none:=Zn.2 λx G I=>by have:=E x G;have:=Xd I;omega
   rw[H,show gN _ k=true from OsQ C];exact At C.symm
  grind[gN,Option.getD,lE]
theorem zbi(a k:Nat):∀(l:List AcE),(l.Pairwise λa b=>a.aj%M<b.aj%M)->(l.flatMap ic).find? (ly false a k)=(l.find? λe=>gN e.aj a).bind λe=>(e.ar.find? λq=>gN q.1 k).map λq=>⟨e.aj,q.1,q.2,false⟩
 |[],_=>rfl
 |e::r,h=>by
  let⟨E,D⟩:=XT.1 h;rw[Z3,List.find?_append,zbi a k r D,X0];by_cases C:e.aj%M=a%M
  .have H:r.find? (λe=>gN e.aj a)=none:=Zn.2 λx G J=>by have:=E x G;have:=Xd J;omega
   rw[H,show gN _ a=true from OsQ C];unfold ic;rw[List.find?_map];have I:(ly false a k ∘ λq:Nat×Nat=>(⟨e.aj,q.1,q.2,false⟩))=λq=>gN q.1 k:=by funext q;show((false==false)&&(gN e.aj a&&gN q.1 k))=_;grind[gN]
   grind
  grind[gN,ic,ly]
def Sj{l:List AcE}(h:jt l=true)(I:∀a∈l,a.ai<M):RelW (T0 (jO l)) ⟨l.map uD,l.flatMap ic,[]⟩:=by
 have E:=D8 h;have C:∀a,jO l a=((l.find? _).map _).getD _:=λa=>Ao a l _ E;have D:∀a,ks a ⟨_,l.flatMap ic,[]⟩=((l.find? λe=>gN e.aj a).map _).getD _:=λa=>by unfold ks;show((l.map uD).find? _).getD _=_;rw[List.find?_map];rfl
 refine⟨λa=>?_,λa=>?_,λa k=>?_,λa k=>?_,W,λa=>?_⟩
 .show(jO l a).ai=_;rw[C,D];cases l.find? λe=>gN e.aj a<;>rfl
 .show(jO l a).ae=_;rw[C,D];cases l.find? λe=>gN e.aj a<;>rfl
 .show(jO l a).ar k=fu false a k _;unfold fu;rw[C,show(⟨_,l.flatMap _,[]⟩:RW).sl=l.flatMap _ from W,zbi a k l E];cases H:l.find? λe=>gN e.aj a with
  |none=>rfl
  |some e=>have G:=Zt H;show pe e.ar k=_;unfold pe;rw[Eu k _ _ (Ds h e G)];dsimp only[Option.bind];cases e.ar.find? λq=>gN q.1 k<;>rfl
 .show 0=fu true a k _;grind[fu,uD,ic,ly]
 show(jO l a).ai<M;rw[C];cases H:l.find? λe=>gN e.aj a with
 |none=>show 0<M;simp
 |some e=>exact I e (Zt H)
def new_cd{l:List AcE}(h:jt l=true):Cd ⟨l.map uD,l.flatMap ic,[]⟩:=by
 have E:=D8 h;let⟨_,I⟩:=pY h;refine⟨λp G=>?_,?_,?_⟩
 .obtain⟨a,C,rfl⟩:=Xq.1 G;exact(I a C).1
 .show((l.map uD).map _).Pairwise _;rw[Zd];refine YJ.2 (E.imp λ{a b} D=>W8 (show¬a.aj%M=b.aj%M by omega))
 show((l.flatMap ic).map skey).Pairwise _;refine YJ.2 (List.pairwise_flatMap.2 ⟨λa C=>?_,E.imp λ{a b} D q I r J=>?_⟩)
 .unfold ic;refine YJ.2 ((Ds h a C).imp λ{p q} H=>?_);show((false==false)&&(gN a.aj a.aj&&gN p.1 q.1))=false;rw[show gN p.1 _=false from W8 (by omega)];simp
 unfold ic at I J;obtain⟨p,_,rfl⟩:=Xq.1 I;obtain⟨s,_,rfl⟩:=Xq.1 J;show((false==false)&&(gN a.aj b.aj&&gN p.1 s.1))=false;rw[show gN _ _=false from W8 (by omega)];simp
variable {a:Nat}
def eO(F:Fz)(P:RW):RS:=⟨F.ae,F.data,F.ret,F.ak,F.ax,F.value,F.ac,F.depth,F.nx,0,F.ro,F.st,F.mem,F.aa,P⟩
structure Ok(F:Fz):Prop where
 aT:F.mem.length%32=0
 aV:F.st.length<=1024
 st:F.aE=0
 en:F.aG=false
def Sy{α:Type}(K:α->RS->RS):=∀a R,R.ao=3->(K a R).ao=3
def ResU(P:RW)(r:Option (Unit×Fz))(R':RS):Prop:=match r with
 |none=>R'.ao=3
 |some (_,F')=>Ok F'/\R'=eO F' P
def mP(T:TS)(r:Option (Fz×TS))(R':RS):Prop:=match r with
 |none=>R'.ao=3
 |some (F',T')=>Un T T'/\∃P',RelW T' P'/\((F'.aG=false/\Ok F'/\R'=eO F' P')\/(F'.aG=true/\F'.aE<=1/\R'={eO F' P' with ao:=F'.aE+1}))
def ResU.bq{P:RW}{r:Option (Unit×Fz)}{T:TS}(h:ResU P r R')(C:RelW T P):mP T (kP r T) R':=by
 cases r with
 |none=>exact h
 |some y=>exact⟨Un.refl T,P,C,LZ ⟨h.1.en,h.1,h.2⟩⟩
theorem fi(h:R.ao=3):(dA R).2.ao=3:=(ee R).ov h
theorem Ay(h:R.ao=3):(dU n R).ao=3:=(kI n R).ov h
theorem yo(h:R.ao=3):(eN n R).ao=3:=(iQ n R).ov h
theorem bf(a n:Nat)(h:R.ao=3):(dJ a n R).2.ao=3:=(gy a n R).ov h
def pp{A:RS}(h:R.ao=3):(if R.ao=0 then A else R).ao=3:=by grind
theorem ir{s:Tl}(h:F.st=n::s):db F=some (n,{F with st:=s}):=by grind[db]
def nE(h:F.st=[]):db F=none:=by grind[db]
def gu{s:Tl}(h:F.st=n::s):dA (eO F P)=(n,eO {F with st:=s} P):=by grind[dA,fA,eO]
def iz(h:F.st=[]):(dA (eO F P)).2.ao=3:=by grind[dA,fA,eO]
theorem ki(h:Ok F){s:Tl}(e:F.st=n::s):Ok {F with st:=s}:=⟨h.aT,by have:=h.aV;grind,h.st,h.en⟩
theorem qw{F:Fz}(h:Ok F)(c:Nat):Ok (eG F c):=⟨h.aT,h.aV,h.st,h.en⟩
def vE{k:Option (Unit×Fz)}{K:Nat->RS->RS}(h:Ok F)(C:Sy K)(D:∀n s,F.st=n::s->db F=some (n,{F with st:=s})->Ok {F with st:=s}->ResU P k (K n (eO {F with st:=s} P))):ResU P (dX (db F) k) (du (dA (eO F P)) K):=by
 cases D:F.st with
 |nil=>rw[nE D];exact C _ _ (iz D)
 |cons n s=>rw[gu D,dW,ed (by grind[ir])];grind[ir,ki]
def mI(h:Ok F)(n:Nat):ResU P (dB n F) (eN n (eO F P)):=by
 have C:=h.aV;unfold dB eN;by_cases e:F.st.length=1024
 .rw[At e,At (by show 1024<=F.st.length;omega)];rfl
 rw[iF e,iF (by show¬1024<=F.st.length;omega)];exact⟨⟨h.aT,by grind,h.st,h.en⟩,W⟩
def r_if{r:Option (Unit×Fz)}{A:RS}(h:ResU P r A):ResU P r (if (eO F P).ao=0 then A else eO F P):=by grind[eO]
def uK(h:F.ac<c):dU c (eO F P)=fA (eO F P):=At h
def vd(h:¬F.ac<c):dU c (eO F P)=eO {F with ac:=F.ac-c} P:=iF h
def Ws{K:RS->RS}(C:∀R,R.ao=3->(K R).ao=3)(D:c<=F.ac->mP T (vW wk J (eG F c) T) (K (eO (eG F c) P))):mP T (if F.ac<c then none else vW wk J (eG F c) T) (K (dU c (eO (si F) P))):=by
 by_cases e:F.ac<c
 .rw[At e,uK (F:=si F) e];exact C _ W
 rw[iF e,vd (F:=si F) e];exact D (by omega)
def rk(p n m:Nat):Nat:=if n%M=0 then 0 else dw (p%M+n%M)-dw m
def rq(p n:Nat):Nat×Nat:=if n%M=0 then(0,0)else(p%M,n%M)
abbrev vM(p n:Nat):=n%M=0\/jp p n 65536
def py(k:Nat)(F:Fz):Fz:={F with ac:=F.ac-3*k,mem:=F.mem++List.replicate (32*k) 0}
def gr0(F:Fz):py 0 F=F:=by unfold py;simp
theorem fS(p n:Nat)(F:Fz):dC p n F=if vM p n/\3*rk p n F.mem.length<=F.ac then some (rq p n,py (rk p n F.mem.length) F)else none:=by
 unfold dC vM rk rq;by_cases C:n%M=0
 .simp only[C,qad,true_or,true_and,Nat.mul_zero,In,gr0]
 simp only[C,Zw,Za];by_cases G:jp p n 65536
 .rw[At G];unfold jH;by_cases D:dw (p%M+n%M)<=dw F.mem.length
  .rw[At D,show dw _-dw _=0 by omega,gr0,At ⟨G,In _⟩]
  rw[iF D];unfold im;by_cases E:F.ac<3*(dw (p%M+n%M)-dw F.mem.length)
  .grind
  rw[iF E,At ⟨G,by omega⟩];rfl
 grind
theorem Ew(h:Ok F)(k:Nat):Ok (py k F):=⟨by show(F.mem++List.replicate (32*k) 0).length%32=0;rw[Xm,Yl];have:=h.aT;omega,h.aV,h.st,h.en⟩
theorem zU(C:Nat):∀(f:Nat)(F:Fz),F.mem.length%32=0->dw C-dw F.mem.length<=f->(3*(dw C-dw F.mem.length)<=F.ac->jI f C (eO F P)=eO (py (dw C-dw F.mem.length) F) P)/\(F.ac<3*(dw C-dw F.mem.length)->(jI f C (eO F P)).ao=3)
 |0,F,h1,h2=>by rw[show dw C-dw _=0 by omega,gr0];exact⟨λ_=>W,λh=>by omega⟩
 |f+1,F,h1,h2=>by
  rw[jI];by_cases V:F.mem.length<C
  .rw[At ⟨V,W⟩];have U:1<=dw C-dw F.mem.length:=by grind[dw]
   unfold Hz;by_cases I:F.ac<3
   .rw[uK I];refine⟨λh=>by omega,λ_=>?_⟩;refine(Bv C f _).ov W
   rw[vd I];rw[show({eO _ P with mem:=(eO F P).mem++List.replicate 32 0}:RS)=eO (py 1 F) P from W];have D:(py 1 F).mem.length=F.mem.length+32:=by show(F.mem++List.replicate (32*1) 0).length=_;rw[Xm,Yl]
   have X:dw C-dw (py 1 F).mem.length=dw C-dw F.mem.length-1:=by rw[D];unfold dw;omega
   obtain⟨G,H⟩:=zU C f _ (by rw[D];omega) (by omega);rw[X]at G H;have L:(py 1 F).ac=F.ac-3:=rfl;refine⟨λh=>?_,λh=>H (by omega)⟩;rw[G (by omega)];congr 1;obtain⟨k,E⟩:∃k,dw C-dw F.mem.length=k+1:=⟨_,(Nat.succ_pred_eq_of_pos U).symm⟩
   rw[E,ZQ];unfold py;have O:F.ac-3*1-3*k=F.ac-3*(k+1):=by omega
   have Q:F.mem++List.replicate (32*1) 0++List.replicate (32*k) 0=F.mem++List.replicate (32*(k+1)) 0:=by rw[XL,List.replicate_append_replicate];congr 2;omega
   rw[O,Q]
  rw[iF (λh=>V h.1)];have U:dw C-dw F.mem.length=0:=by unfold dw;omega
  rw[U,gr0];exact⟨λ_=>W,λh=>by omega⟩
theorem mf(a m:Nat):ec a m=if a%M<m then a%M else m:=rfl
def oG(h:Ok F)(p n:Nat):(vM p n/\3*rk p n F.mem.length<=F.ac->dJ p n (eO F P)=(rq p n,eO (py (rk p n F.mem.length) F) P))/\(¬(vM p n/\3*rk p n F.mem.length<=F.ac)->(dJ p n (eO F P)).2.ao=3):=by
 unfold dJ vM rk rq;by_cases E:n%M=0
 .have e:ec n 70000=0:=by grind[mf]
  simp only[E,e,true_or,qad,Nat.mul_zero,In,and_self,gr0,not_true,true_implies,false_implies]
 have e:ec n 70000≠0:=by grind[mf]
 have I:¬(ec n _=0\/(eO F P).ao=3):=λh=>h.elim e (by show¬(0:Nat)=3;decide);simp only[E,Zw,Za];rw[iF I];by_cases O:jp p n 65536
 .have D:=O;unfold jp at D;have H:ec p 70000=p%M:=by rw[mf];exact AV
  have Q:ec n 70000=n%M:=by rw[mf];exact AV
  rw[H,Q,AQ];let⟨G,L⟩:=zU (P:=P) (p%M+n%M) 2049 F h.aT (by unfold dw;omega);refine⟨λC=>?_,λC=>?_⟩
  .rw[G C.2,iF (by show¬(0:Nat)=3;decide)]
  have:=L (Zc λh=>C ⟨O,h⟩);rw[At this];exact this
 have Q:65536<ec p 70000+ec n 70000:=by unfold jp at O;rw[mf,mf];split<;>split<;>omega
 rw[At Q];exact⟨λC=>absurd C.1 O,λ_=>W⟩
def sH{α:Type}{G:Option α->RS->Prop}(H:∀R,R.ao=3->G none R){r:Option α}{K:Nat×Nat->RS->RS}(p n:Nat)(h:Ok F)(D:Sy K)(E:dC p n F=none->r=none)(L:∀F1,dC p n F=some (rq p n,F1)->Ok F1->F1=py (rk p n F.mem.length) F->G r (K (rq p n) (eO F1 P))):G r (du (dJ p n (eO F P)) K):=by
 let⟨I,C⟩:=oG (P:=P) h p n;have L:=fS p n F;by_cases c:vM p n/\3*rk p n F.mem.length<=F.ac
 .rw[At c]at L;grind[dW,Ew]
 rw[iF c]at L;rw[E L];exact H _ (D _ _ (C c))
def uU(R:RS)(h:R.ao=3):ResU P none R:=h
def uQ(p n:Nat)(G:vM p n)(h:Ok F):(rq p n).1+(rq p n).2<=(py (rk p n F.mem.length) F).mem.length/\(rq p n).2<=65536/\(rq p n).2=n%M:=by
 have D:(py (rk p n F.mem.length) F).mem.length=F.mem.length+32*rk p n F.mem.length:=by show(F.mem++List.replicate _ 0).length=_;simp
 have E:=h.aT;rw[D];unfold rq rk;by_cases C:n%M=0
 .grind
 rw[iF C,iF C];rcases G with G|G
 .omega
 unfold jp at G;unfold dw;omega
def xF{q:Nat×Nat}(h:dC p n F=some (q,F1)):vM p n:=by grind[fS]
def FW(h:Ok F){m:Vf}(C:m.length=F.mem.length):Ok {F with mem:=m}:=⟨by show m.length%32=0;rw[C];exact h.aT,h.aV,h.st,h.en⟩
def qr(l:Vf):bl (dI l)=l:=by rfl
theorem VW(ae:BA)(n:Nat):∀(f i:Nat)(D:List Bool),D.length=ae.size+1->(jdF ae f i D).getD n false=(D.getD n false||CC ae n f i)
 |0,i,D,_=>by simp[jdF,CC]
 |f+1,i,D,hl=>by
  rw[jdF,CC];by_cases C:i<ae.size
  .rw[At C,At C,VW _ n f _ _ (by grind)];grind
  grind
def Pt(h:Ok F)(L:F.ae.size<=1000)(p:Nat):ResU P (lV p F) (ek p (eO F P)):=by
 have N:(SY F.ae).getD (p%M) false=CC F.ae (p%M) F.ae.size 0:=by unfold SY;rw[VW _ _ _ _ _ (by simp)];grind
 unfold lV ek LQ;show ResU P _ (if (0:Nat)=0/\CC F.ae (ec p 70000) F.ae.size 0=true then _ else _);rw[N];by_cases E:CC F.ae (ec p 70000) F.ae.size 0=true
 .have D:=GX _ _ _ _ E;have H:ec p 70000=p%M:=by rw[mf]at D⊢;grind
  have C:0=0/\CC _ _ _ 0=true:=⟨W,E⟩
  rw[At C];rw[H]at E D⊢;have O:(decide (p%M<=F.ae.size)&&CC F.ae (p%M) F.ae.size 0)=true:=by grind
  rw[At O];exact⟨⟨h.aT,h.aV,h.st,h.en⟩,W⟩
 have C:¬(0=0/\CC _ _ _ 0=true):=λG=>E G.2;have O:¬(decide (p%M<=F.ae.size)&&CC F.ae (p%M) F.ae.size 0)=true:=by intro G;rw[Xo]at G;have I:=Xd G.1;rw[show ec p _=p%M by rw[mf];grind]at E;grind
 rw[iF C,iF O];rfl
theorem Ge(h:R.ao=3):(ek a R).ao=3:=by unfold ek;rw[iF (λC=>by omega)];rfl
variable {b:Nat}
def fb{s:Tl}(h:db F=some (n,{F with st:=s})):dV (db F)=n/\da (db F)={F with st:=s}:=by rw[h];exact⟨W,W⟩
def Qf{k:Option (Unit×Fz)}{K:Nat->Nat->RS->RS}(h:Ok F)(C:∀a,Sy (K a))(Q:∀a b s,F.st=a::b::s->eP F=a->eV F=b->eb F={F with st:=s}->Ok {F with st:=s}->ResU P k (K a b (eO {F with st:=s} P))):ResU P (dX (db F) (dX (db (da (db F))) k)) (du (dA (eO F P)) λa R=>du (dA R) (K a)):=by refine vE h (λa R H=>C a _ _ (fi H)) λa s J E D=>?_;have G:=fb E;rw[G.2];refine vE D (C a) λb r L O I=>?_;grind[dV,db,da]
def Mz{k:Option (Unit×Fz)}{K:Nat->Nat->Nat->RS->RS}(h:Ok F)(C:∀a b,Sy (K a b))(Q:∀a b c s,eP F=a->eV F=b->pX F=c->mU F={F with st:=s}->Ok {F with st:=s}->ResU P k (K a b c (eO {F with st:=s} P))):ResU P (Kr F k) (du (dA (eO F P)) λa R=>du (dA R) λb R=>du (dA R) (K a b)):=by refine Qf h (λa b R E=>C a b _ _ (fi E)) λa b s L J H t3 D=>?_;rw[t3];refine vE D (C a b) λc r O G I=>?_;have t4:=fb G;grind
def Wv{K:Nat×Nat->RS->RS}:Sy (λ(q:Nat×Nat) R=>if R.ao=0 then K q R else R):=λq R h=>pp h
def R9(h:Ok F):ResU P (ie F) (du (dA (eO F P)) λa R=>du (dJ a 32 R) λq R=>if R.ao=0 then eN (lK (dM R.mem q.1 q.2)) R else R):=by unfold ie;refine vE h (λa R G=>Wv (K:=λq R=>eN (lK (dM _ q.1 _)) R) _ _ (bf _ _ G)) λa s J I H=>?_;have C:=fb I;rw[C.1,C.2];refine sH uU a 32 H Wv (λe=>by rw[e];rfl) λL D E _=>?_;rw[D];exact r_if (mI E _)
def DB(p n:Nat)(F:Fz)(s:Tl):dC p n {F with st:=s}=(dC p n F).map λy=>(y.1,{y.2 with st:=s}):=by
 rw[fS,fS];by_cases c:vM p n/\3*rk p n F.mem.length<=F.ac
 .rw[At c,At c];rfl
 grind
def Hu(h:Ok F)(n:Nat)(f:Nat->Vf){g:Nat->BA}(Q:∀v,bl (g v)=f v)(Y:∀v,(f v).length=n%M):ResU P (dX (db F) (dX (db (da (db F))) (dX (dC (eP F) n (eb F)) (some ((),kN (dC (eP F) n (eb F)) (f (eV F))))))) (du (dA (eO F P)) λa R=>du (dJ a n R) λq R=>du (dA R) λv R=>if R.ao=0 then gT q.1 (g v) R else R):=by
 have H:∀q:Nat×Nat,Sy (λv R=>if R.ao=0 then gT q.1 (g v) R else R):=λq v R h=>pp h;refine vE h (λa R E=>H _ _ _ (fi (bf _ _ E))) λa s V U I=>?_;have O:=fb U;simp only[eP,eV,eb,O.1,O.2];cases s with
 |nil=>rw[nE W];refine sH uU a n I (λq R E=>H q _ _ (fi E)) (λ_=>W) λD J L G=>?_;exact H _ _ _ (iz (by rw[G];rfl))
 |cons v r=>
  rw[ir W];show ResU P (dX (dC a n {F with st:=r}) (some ((),kN (dC a n {F with st:=r}) (f v)))) _;have X:=DB a n {F with st:=v::r} r;have X:dC a n {F with st:=r}=(dC a n _).map λy=>(y.1,{y.2 with st:=r}):=X;rw[X];refine sH uU a n I (λq R E=>H q _ _ (fi E)) (λe=>by rw[e];rfl) λD J L G=>?_;rw[J,gu (show D.st=v::r by rw[G];rfl),dW,At (by rfl)];have C:=uQ a n (xF J) I;rw[<-G]at C;refine⟨FW (ki L (by rw[G];rfl)) (ox ?_),?_⟩
  .show(rq a n).1+(f v).length<=D.mem.length;rw[Y];have:=C.1;have:=C.2.2;omega
  show gT (rq a n).1 (g v) _=eO {D with st:=r,mem:=splice D.mem (rq a n).1 (f v)} P;unfold gT;rw[Q];rfl
theorem qB(h:n%M<m:=by omega):ec n m=n%M:=At h
def yS{s:BA}(f:Nat)(C:s.size<=70000):dH s (ec f 70000) k=dH s (f%M) k:=by
 by_cases h:f%M<70000
 .rw[qB h]
 rw[show ec f _=70000 from iF h,rV s k C,rV s k (by omega)]
def zS(h:vM p n):n%M<=65536:=by omega
def xw(p n:Nat):(rq p n).2=n%M:=by unfold rq;grind
def uV(h:Ok F)(c p n:Nat):(vM p n/\3*rk p n F.mem.length+c<=F.ac->dJ p n (dU c (eO F P))=(rq p n,eO {py (rk p n F.mem.length) F with ac:=F.ac-3*rk p n F.mem.length-c} P))/\(¬(vM p n/\3*rk p n F.mem.length+c<=F.ac)->(dJ p n (dU c (eO F P))).2.ao=3):=by
 by_cases C:F.ac<c
 .rw[uK C];exact⟨λh=>by omega,λ_=>bf p n W⟩
 rw[vd C];let⟨E,D⟩:=oG (F:={F with ac:=F.ac-c}) (P:=P) ⟨h.aT,h.aV,h.st,h.en⟩ p n;grind[rk,py]
def Pf(s:BA)(aD strict:Bool)(f:Nat)(q:Nat×Nat):vZ s aD strict f q (eO F P)=BC q.1 q.2 (ec f 70000) (if aD=true then dI F.mem else s) strict (eO F P):=At W
def Hc(s:BA)(aD strict:Bool){f:Nat}:Sy (vZ s aD strict f):=λq R h=>pp h
def E7(t f n:Nat)(C:¬(vM t n/\3*rk t n F.mem.length+3*dw (n%M)<=F.ac)):ez src t f n F=none:=by
 unfold ez;rw[fS];by_cases c:vM t n/\3*rk t n F.mem.length<=F.ac
 .rw[At c];show(if F.ac-3*rk t n F.mem.length<3*dw (rq t n).2 then none else _)=none;rw[xw,AV]
 grind
def r_copy(h:Ok F)(src:BA)(U:src.size<=70000)(t f n:Nat):ResU P (if strict=true/\n%M≠0/\src.size<f%M+n%M then none else ez src t f n F) (du (dJ t n (dU ((ec n 70000+31)/32*3) (eO F P))) (vZ src false strict f)):=by
 let⟨G,p2⟩:=uV (P:=P) h ((ec n 70000+31)/32*3) t n;by_cases O:vM t n
 .have L:=zS O;have Q:ec n 70000=n%M:=qB;rw[Q]at G p2⊢;have I:(n%M+31)/32*3=3*dw (n%M):=by grind[dw]
  rw[I]at G p2⊢;by_cases H:3*rk t n F.mem.length+3*dw (n%M)<=F.ac
  .rw[G ⟨O,H⟩,dW,Pf,iF (show¬(false=true) by decide),xw];unfold BC;have E:(strict=true/\n%M≠0/\src.size<f%M+n%M)↔(strict=true/\0<n%M/\src.size<ec f 70000+n%M):=by
    by_cases J:f%M<70000
    .grind[qB]
    grind[ec]
   by_cases C:strict=true/\n%M≠0/\src.size<f%M+n%M
   .rw[At C,At (E.1 C)];rfl
   rw[iF C,iF (λh=>C (E.2 h))];unfold ez;rw[fS,At ⟨O,by omega⟩];show ResU P (if F.ac-3*rk t n F.mem.length<3*dw (rq t n).2 then none else some ((),{py (rk t n F.mem.length) F with ac:=F.ac-3*rk t n F.mem.length-3*dw (rq t n).2,mem:=splice (py (rk t n F.mem.length) F).mem (rq t n).1 (dH src (f%M) (rq t n).2)})) _;rw[xw,AQ];have D:=(uQ t n O h).1;rw[xw]at D;refine⟨FW (F:={py _ F with ac:=F.ac-3*rk t n _-3*dw _}) ?_ (ox ?_),?_⟩
   .have:=Ew h (rk t n F.mem.length);exact⟨this.aT,this.aV,this.st,this.en⟩
   .rw[jk];exact D
   unfold gT;rw[qr,yS f U];rfl
  rw[E7 t f n (λh=>H h.2),ite_self];exact Hc _ _ _ _ _ (p2 λh=>H h.2)
 rw[E7 t f n (λh=>O h.1),ite_self];exact Hc _ _ _ _ _ (p2 λh=>O h.1)
def KV{l:Vf}(h:a+b<=l.length):dH (dI (l++List.replicate k 0)) a b=dM l a b:=by unfold dH dM;rw[qr,show(dI _).size=l.length+k by grind[dI,ByteArray.size],show b-(l.length+k-a)=0 by omega,List.replicate_zero,YQ,List.drop_append_of_le_length (by omega),YV (by grind)]
theorem S6(h:Ok F)(t f n:Nat):ResU P (zam t f n F) (du (dJ t n (dJ f n (dU ((ec n 70000+31)/32*3) (eO F P))).2) (vZ ⟨#[]⟩ true false f)):=by
 let⟨J,p2⟩:=uV (P:=P) h ((ec n 70000+31)/32*3) f n;by_cases d:vM f n
 .have H:=zS d;have g:ec n 70000=n%M:=qB;rw[g]at J p2⊢;have Z:(n%M+31)/32*3=3*dw (n%M):=by grind[dw]
  rw[Z]at J p2⊢;by_cases R:3*rk f n F.mem.length+3*dw (n%M)<=F.ac
  .rw[J ⟨d,R⟩];dsimp only;have G:=Ew h (rk f n F.mem.length);let⟨C,Q⟩:=hJ (py (rk f n F.mem.length) F);have D:=(uQ f n d h).1;rw[<-Q]at G D⊢;have X:C.ac=F.ac-3*rk f n F.mem.length:=by rw[Q];rfl
   rw[<-X];have V:Ok {C with ac:=C.ac-3*dw (n%M)}:=⟨G.aT,G.aV,G.st,G.en⟩
   let⟨Y,U⟩:=oG (P:=P) V t n;unfold zam;rw[fS f,At ⟨d,by omega⟩,<-Q];show ResU P (match dC t n C with
    |none=>none
    |some ((a2,b2),F2)=>if F2.ac<3*dw (rq f n).2 then none else some ((),{F2 with ac:=F2.ac-3*dw (rq f n).2,mem:=splice F2.mem a2 (dM C.mem (rq f n).1 (rq f n).2)})) _
   rw[fS t,xw]at*;by_cases c:vM t n/\3*rk t n C.mem.length<=C.ac-3*dw (n%M)
   .rw[Y c,dW,At ⟨c.1,by omega⟩];show ResU P (if C.ac-3*rk t n C.mem.length<3*dw (n%M)then none else some ((),{py (rk t n C.mem.length) C with ac:=C.ac-3*rk t n C.mem.length-3*dw (n%M),mem:=splice (C.mem++List.replicate (32*rk t n C.mem.length) 0) (rq t n).1 (dM C.mem (rq f n).1 (n%M))})) _;rw[AQ];rw[Pf,At (rfl)];unfold BC;rw[iF (λh=>by cases h.1)];have E:=(uQ t n c.1 G).1;refine⟨FW (F:={py _ C with ac:=C.ac-3*rk t n _-3*dw _}) ?_ (ox ?_),?_⟩
    .have:=Ew G (rk t n C.mem.length);exact⟨this.aT,this.aV,this.st,this.en⟩
    .rw[xw]at E;refine By (Nat.add_le_add_left (mQ) _) E
    unfold gT;rw[qr,xw];have L:dH (dI (C.mem++List.replicate (32*rk t n C.mem.length) 0)) (ec f 70000) (n%M)=dM C.mem (rq f n).1 (n%M):=by
     by_cases I:n%M=0
     .rw[I];unfold dH dM;simp
     have g:rq f n=(f%M,n%M):=iF I;have O:=d.resolve_left I;unfold jp at O;rw[qB,g];rw[g]at D;exact KV D
    show({eO (py (rk t n C.mem.length) {C with ac:=C.ac-3*dw (n%M)}) P with mem:=splice (C.mem++List.replicate (32*rk t n C.mem.length) 0) (rq t n).1 (dH (dI (C.mem++List.replicate (32*rk t n C.mem.length) 0)) (ec f 70000) (n%M))}:RS)=_;rw[L];show({eO {py (rk t n C.mem.length) C with ac:=C.ac-3*dw (n%M)-3*rk t n C.mem.length} P with mem:=_}:RS)=_;rw[show C.ac-3*dw _-3*rk t n _=C.ac-3*rk t n C.mem.length-3*dw (n%M) by omega];rfl
   have H:(match(if vM t n/\3*rk t n C.mem.length<=C.ac then some (rq t n,py (rk t n C.mem.length) C)else none)with
    |none=>none
    |some ((a2,b2),F2)=>if F2.ac<3*dw (n%M)then none else some ((),{F2 with ac:=F2.ac-3*dw (n%M),mem:=splice F2.mem a2 (dM C.mem (rq f n).1 (n%M))}):Option _)=none:=by
    by_cases c2:vM t n/\3*rk t n C.mem.length<=C.ac
    .rw[At c2];show(if C.ac-3*rk t n C.mem.length<3*dw (n%M)then none else _)=none;rw[At (by have:=Zc λh=>c ⟨c2.1,h⟩;omega)]
    rw[iF c2]
   rw[H];exact Hc _ _ _ _ _ (U c)
  have H:zam t f n F=none:=by
   unfold zam;rw[fS f];by_cases c:vM f n/\3*rk f n F.mem.length<=F.ac
   .rw[At c];show(match dC t n (py (rk f n F.mem.length) F)with
     |none=>none
     |some ((a2,b2),F2)=>if F2.ac<3*dw (rq f n).2 then none else some ((),{F2 with ac:=F2.ac-3*dw (rq f n).2,mem:=splice F2.mem a2 (dM (py (rk f n F.mem.length) F).mem (rq f n).1 (rq f n).2)}))=none
    rw[fS t,xw];by_cases c2:vM t n/\3*rk t n (py (rk f n F.mem.length) F).mem.length<=(py (rk f n F.mem.length) F).ac
    .rw[At c2];show(if F.ac-3*rk f n F.mem.length-3*rk t n (py (rk f n F.mem.length) F).mem.length<3*dw (n%M)then none else _)=none;rw[AV]
    rw[iF c2]
   rw[iF c]
  rw[H];exact Hc _ _ _ _ _ (bf _ _ (p2 λh=>R h.2))
 have H:zam t f n F=none:=by unfold zam;rw[fS f,iF (λh=>d h.1)]
 rw[H];exact Hc _ _ _ _ _ (bf _ _ (p2 λh=>d h.1))
theorem uH:∀(n:Nat)(F:Fz),eM n F=if n<=F.st.length then some (F.st.take n,{F with st:=F.st.drop n})else none
 |0,F=>rfl
 |n+1,F=>by
  rw[eM,uH n F];by_cases h:n<=F.st.length
  .rw[At h];dsimp only;by_cases C:n<F.st.length
   .rw[AV,ir (YT C)];simp
   rw[AQ,nE (ZX (by omega))]
  grind
theorem uO:∀(n:Nat)(C:Tl)(F:Fz),(n<=F.st.length->nR n C (eO F P)=(C++F.st.take n,eO {F with st:=F.st.drop n} P))/\(¬n<=F.st.length->(nR n C (eO F P)).2.ao=3)
 |0,C,F=>⟨λ_=>by rw[Y3,YQ];rfl,λh=>absurd (In _) h⟩
 |n+1,C,F=>by
  rw[nR];cases G:F.st with
  |nil=>exact⟨λh=>by simp at h,λ_=>(tS n _ _).ov (iz G)⟩
  |cons x r=>rw[gu G];let⟨D,E⟩:=uO n (C++[x]) {F with st:=r};grind
def kR3(J a b:Nat)(R:RS):RS:=du (if J=8\/J=9 then dA R else(0,R)) λc R=>mM J a b c (if J=10 then dU (10*(GM (pw b)).size) R else R)
def kR2(J a:Nat)(R:RS):RS:=du (if J=21\/J=25 then(0,R)else dA R) (kR3 J a)
def sy3(J a:Nat):Sy (kR3 J a):=λb R h=>by unfold kR3 du;refine pp ?_;grind[dA,fi,Ay]
def sy2(J:Nat):Sy (kR2 J):=λa R h=>by
 unfold kR2;split
 .exact sy3 J a _ _ h
 exact sy3 J a _ _ (fi h)
def pR(J:Nat)(l:Tl)(G:Fz):Option (Unit×Fz):=match(if J=10 then im (10*(pl (l.getD 1 0) 0).length) G else some ((),G))with
 |none=>none
 |some (_,G2)=>dB (ep J (l.getD 0 0%M) (l.getD 1 0%M) (l.getD 2 0%M)) G2
def Tu(h:pA J=true):ny J=0:=by grind[pA,ny]
def lst_pl(n:Nat):(GM (pw n)).size=(pl n 0).length:=by rfl
def r_R4(h:Ok F)(E:pA J=true){l:Tl}:ResU P (pR J l F) (mM J (l.getD 0 0) (l.getD 1 0) (l.getD 2 0) (if J=10 then dU (10*(GM (pw (l.getD 1 0))).size) (eO F P)else eO F P)):=by
 have N:∀{G:Fz},Ok G->ResU P _ (mM J (l.getD 0 0) (l.getD 1 0) (l.getD 2 0) _):=λ{G} H=>by unfold mM;rw[At (show(eO G P).ao=0 from W),At (Tu E)];exact mI H _
 unfold pR;by_cases C:J=10
 .rw[At C,At C,lst_pl];unfold im;by_cases D:F.ac<10*(pl (l.getD 1 0) 0).length
  .rw[At D,uK D];rfl
  rw[iF D,vd D];exact N ⟨h.aT,h.aV,h.st,h.en⟩
 grind
def r_reck(h:Ok F)(I:pA J=true):ResU P (re J F) (du (dA (eO F P)) (kR2 J)):=by
 have L:re J F=match eM _ F with
  |none=>none
  |some (l,G)=>pR J l G:=rfl
 rw[L,uH];have c1:1<=fY J:=by grind[fY]
 match O:F.st with
 |[]=>rw[iF (by grind)];exact sy2 J _ _ (iz O)
 |a::r=>
  rw[gu O,dW];have D:=ki h O;unfold kR2;by_cases E:J=21\/J=25
  .rw[show fY J=1 from At E,At (by simp),At E,dW];unfold kR3;rw[AQ,dW];exact r_R4 D I
  rw[iF E];match r,O,D with
  |[],O,D=>
   rw[iF]
   .exact sy3 J a _ _ (iz W)
   grind[fY]
  |b::r,O,D=>
   rw[gu W,dW];have C:=ki D W;unfold kR3;by_cases H:J=8\/J=9
   .rw[show fY J=3 by unfold fY;rw[iF E,At H],At H];match r,O,C with
    |[],O,C=>rw[iF (by simp)];have:=iz (F:={F with st:=[]}) (P:=P) W;refine pp ?_;rw[AQ];exact this
    |c::r,O,C=>rw[At (by simp),gu (F:={F with st:=c::r}) W,dW];exact r_R4 (ki C W) I
   rw[show fY J=2 by unfold fY;rw[iF E,iF H],iF H,At (by simp),dW];exact r_R4 C I
def U7(h:Ok F)(hn:F.nx<=1200):ResU P (fF k F) (xD k (eO F P)):=by
 have E:F.nx%M=F.nx:=WZ (by grind);unfold fF xD;rw[E];have:=mI (P:=P) h (lK (dH F.ae F.nx k));show ResU P _ {eN (lK (dH F.ae F.nx k)) (eO F P)with pc:=F.nx+k};cases H:dB (lK (dH F.ae F.nx k)) F with
 |none=>rw[H]at this;exact this
 |some y=>
  rw[H]at this;let⟨C,D⟩:=this;refine⟨⟨C.aT,C.aV,C.st,C.en⟩,?_⟩;rw[D];have G:y.2.nx=F.nx:=by
   unfold dB at H;split at H
   .cases H
   rw[<-hV H]
  show eO {y.2 with nx:=F.nx+k} P=eO {y.2 with nx:=y.2.nx+k} P;rw[G]
def r_dup(h:Ok F):ResU P (vR k F) (CI k (eO F P)):=by
 unfold vR CI;by_cases C:k<=F.st.length
 .rw[At C,iF (show¬(eO F P).st.length<k by show¬F.st.length<k;omega)];exact mI h _
 rw[iF C,At (show(eO F P).st.length<k by show F.st.length<k;omega)];rfl
def r_swap(h:Ok F):ResU P (nv k F) (qW (k+1) (eO F P)):=by
 unfold nv qW;by_cases C:k<F.st.length
 .rw[At C,iF (show¬(eO F P).st.length<k+1 by show¬F.st.length<k+1;omega)];refine⟨⟨h.aT,?_,h.st,h.en⟩,W⟩;show(pC k F.st).length<=1024;unfold pC;rw[XE,XE];exact h.aV
 rw[iF C,At (show(eO F P).st.length<k+1 by show F.st.length<k+1;omega)];rfl
def Nr(h:Ok F)(L:RelW T P)(I:Bool):ResU P (nk (if I=true then 2 else 1) F T) (du (dA (eO F P)) λk R=>if R.ao=0 then eN (fu I R.ak k R.w) R else R):=by
 unfold nk;refine vE h (λa R D=>pp D) λa s H G E=>?_;have C:=fb G;rw[C.1,C.2];have:xX T (if I=true then 2 else 1) F.ak a=fu I F.ak a P:=by
  cases I
  .exact L.aK _ a
  exact L.aP _ a
 rw[this];exact r_if (mI E _)
def Jj(h:Ok F)(U:RelW T P)(Q:fB T)(L:Bool):mP T (iP (if L=true then 2 else 1) F T) (du (dA (eO F P)) λk R=>du (dA R) λv R=>v7 L k v (if R.aR=true then fA R else R)):=by
 have D:∀k,Sy (λv R=>v7 L k v (if R.aR=true then fA R else R)):=λk v R H=>by
  refine pp ?_;split
  .rfl
  omega
 unfold iP;by_cases O:F.ro=true
 .rw[At O];show RS.ao _=3;match I:F.st with
  |[]=>exact D _ _ _ (fi (iz I))
  |[a]=>rw[gu I,dW];exact D _ _ _ (iz W)
  |a::b::r=>rw[gu I,dW,gu W,dW,At (show(eO {F with st:=r} P).aR=true from O)];rfl
 rw[iF O];match I:F.st with
 |[]=>rw[nE I];exact D _ _ _ (fi (iz I))
 |[a]=>have C:=fb (ir I);rw[gu I,dW,C.2,nE (F:={F with st:=[]}) W,ed (by rw[ir I];simp)];exact D _ _ _ (iz W)
 |a::b::r=>have C:=fb (ir I);have E:=fb (F:={F with st:=b::r}) (ir W);rw[gu I,dW,gu W,dW,ed (by rw[ir I];simp),C.2,ed (by rw[ir W];simp)];simp only[eP,eV,eb,C.1,C.2,E.1,E.2];rw[iF (show¬(eO {F with st:=r} P).aR=true from O)];unfold v7;rw[At (show(eO _ P).ao=0 from W)];have G:=ki (ki h I) W;exact⟨Un.set (U.aO Q) _ _ _ _,_,U.put Q L _ a b,LZ ⟨G.en,G,W⟩⟩
theorem r_log(h:Ok F)(f:RelW T P)(n:Nat):mP T (lY (rJ n F T)) (du (dA (QO (eO F P))) λa R=>du (dA R) λs R=>du (dJ a s (dU (8*ec s 70000) R)) λq R=>du (nR n [] R) (DH q)):=by
 have V:∀q:Nat×Nat,Sy (DH q):=λq Z R I=>pp I;have D:Sy (λq R=>du _ (DH q)):=λq R I=>V q _ _ ((tS n [] R).ov I);have E:∀a:Nat,Sy (λs R=>du (dJ a s (dU (8*ec s 70000) R)) λq R=>du (nR n [] R) (DH q)):=λa s R I=>D _ _ (bf _ _ (Ay I));unfold rJ QO;by_cases d:F.ro=true
 .rw[At d,At (show(eO F P).aR=true from d)];exact E _ _ _ (fi (fi W))
 rw[iF d,iF (show¬(eO F P).aR=true from d)];match d:F.st with
 |[]=>rw[nE d];exact E _ _ _ (fi (iz d))
 |[a]=>have H:=fb (ir d);rw[gu d,dW,H.2,nE (F:={F with st:=[]}) W,ed (by rw[ir d];simp)];exact E _ _ _ (iz W)
 |a::b::r=>
  have H:=fb (ir d);have Q:=fb (F:={F with st:=b::r}) (ir W);rw[gu d,dW,gu W,dW,ed (by rw[ir d];simp),H.2,ed (by rw[ir W];simp)];simp only[eP,eV,eb,H.1,H.2,Q.1,Q.2];have L:=ki (ki h d) W;clear H Q d;let⟨G,Y⟩:=hJ ({F with st:=r});rw[<-Y]at L⊢;let⟨U,p2⟩:=uV (P:=P) L (8*ec b 70000) a b;unfold xL;rw[uH];by_cases O:n<=G.st.length
  .rw[At O];show mP T (lY (yP G.ak a b (G.st.take n) {G with st:=G.st.drop n} T)) _;unfold yP;rw[DB,fS];by_cases d:vM a b
   .have hb:=zS d;have g:ec b 70000=b%M:=qB;rw[g]at U p2⊢;by_cases X:3*rk a b G.mem.length+8*(b%M)<=G.ac
    .rw[U ⟨d,X⟩,dW,At ⟨d,by omega⟩];show mP T (lY (if G.ac-3*rk a b G.mem.length<8*(rq a b).2 then none else some ({T with ay:=T.ay++[⟨G.ak,G.st.take n,dI (dM (py (rk a b G.mem.length) G).mem (rq a b).1 (rq a b).2)⟩]},{py (rk a b G.mem.length) G with st:=G.st.drop n,ac:=G.ac-3*rk a b G.mem.length-8*(rq a b).2}))) _;rw[xw,AQ];let⟨g,_⟩:=uO (P:=P) n [] {py (rk a b G.mem.length) G with ac:=G.ac-3*rk a b G.mem.length-8*(b%M)};rw[g O,dW];unfold DH;rw[At (show RS.ao _=0 from W),xw];have C:=Ew L (rk a b G.mem.length);refine⟨⟨[],_,by simp,W,W,W⟩,{P with lg:=P.lg++[⟨G.ak,G.st.take n,dI (dM (py _ G).mem _ _)⟩]},⟨f.ai,f.ae,f.aK,f.aP,by show T.ay++_=P.lg++_;rw[f.lg],f.lt⟩,LZ ⟨C.en,⟨C.aT,?_,C.st,C.en⟩,W⟩⟩;show(G.st.drop n).length<=1024;rw[X8];have:=L.aV;omega
    have f:=D (dJ a b (dU (8*(b%M)) (eO G P))).1 _ (p2 λh=>X h.2);by_cases c:vM a b/\3*rk a b G.mem.length<=G.ac
    .rw[At c];show mP T (lY (if G.ac-3*rk a b G.mem.length<8*(rq a b).2 then none else some ({T with ay:=T.ay++[⟨G.ak,G.st.take n,dI (dM (py (rk a b G.mem.length) G).mem (rq a b).1 (rq a b).2)⟩]},{py (rk a b G.mem.length) G with st:=G.st.drop n,ac:=G.ac-3*rk a b G.mem.length-8*(rq a b).2}))) _;rwa[xw,AV]
    rwa[iF c]
   rw[iF (λh=>d h.1)];exact D _ _ (p2 λh=>d h.1)
  rw[iF O];show RS.ao _=3;by_cases c:vM a b/\3*rk a b G.mem.length+8*ec b 70000<=G.ac
  .rw[U c,dW];exact V _ _ _ ((uO n [] _).2 O)
  exact D _ _ (p2 c)
def Fj(l:Tl):l=[]\/(∃a,l=[a])\/∃a b r,l=a::b::r:=match l with
 |[]=>LZ W
 |[a]=>A4 (LZ ⟨a,W⟩)
 |a::b::r=>A4 (A4 ⟨a,b,r,W⟩)
def Wn(h:Ok F)(U:RelW T P)(J:Nat)(L:J≠0):mP T (kP (sV J F) T) (yi (if J=253 then 2 else 1) (eO F P)):=by
 unfold sV yi;rw[iF L];have C:∀{t:(Nat×Nat)×RS}{k:Nat},t.2.ao=3->(Jg k t).ao=3:=λI=>pp I;rcases Fj F.st with Q|⟨a,Q⟩|⟨a,b,r,Q⟩
 .rw[nE (F:={F with aG:=true}) Q];exact C (bf _ _ (fi (iz Q)))
 .rw[ir (F:={F with aG:=true}) Q,gu Q];rfl
 rw[ir (F:={F with aG:=true}) Q,gu Q];dsimp only;rw[ir W,gu W];dsimp only;have H:=ki (ki h Q) W;let⟨O,G⟩:=oG (P:=P) H a b;rw[fS];by_cases c:vM a b/\3*rk a b F.mem.length<=F.ac
 .rw[At c,O c];unfold Jg;rw[At (show RS.ao _=0 from W)];refine⟨Un.refl T,P,U,A4 ?_⟩;have D:=h.st;by_cases E:J=253
  .simp only[At E];exact⟨W,DO 1,W⟩
  simp only[iF E];refine⟨W,?_,?_⟩
  .show F.aE<=1;rw[D];exact In _
  show _=({eO _ P with ao:=F.aE+1}:RS);rw[D];rfl
 rw[iF c];exact C (G c)
variable {aa:BA}
def WN(T:TS)(y:Res×TS)(S:RS):=(y.1.st=2/\S.ao=3/\y.1.ac=0/\y.1.aa=⟨#[]⟩/\y.2=T)\/(y.1.ac=S.ac/\y.1.aa=S.aa/\((y.1.st=1/\S.ao=2/\y.2=T)\/(y.1.st=0/\S.ao=1/\Un T y.2/\RelW y.2 S.w)))
def o_chg(v:Nat)(h:R.ao=3):(vV v R).ao=3:=(GI v R).ov h
def o_val(J:Nat)(h:R.ao=3):(uS J R).2.ao=3:=(Gt J R).ov h
def B8(run:RS->RS)(J gs Z v:Nat)(q:Nat×Nat):Sy (Bu run J gs Z v q):=λo R h=>pp h
def Ox{asked:Nat}(C:F.ac<=100000):kB asked (eO F P)=eA F asked:=by unfold kB eA sD;show(if ec asked 200000<F.ac-F.ac/64 then ec asked 200000 else F.ac-F.ac/64)=_;grind[mf]
def Gx(aa:BA)(d:Nat):bl (dI (dH aa 0 (min d aa.size)))=(bl aa).take d:=by rw[qr];unfold dH;rw[List.drop_zero,show min d _-(aa.size-0)=0 by omega,List.replicate_zero,YQ,<-ik _];simp
def vO{m:Vf}(h:c+d<=m.length):(splice m c ((bl aa).take d)).length=m.length:=ox (by grind)
def TY(h:Ok F)(j:RelW T P)(l:F.ret=⟨#[]⟩)(c d:Nat)(U:g<=F.ac)(E:c+d<=F.mem.length){y:Res×TS}{S:RS}(J:WN T y S):mP T (lY ((ji {F with ac:=F.ac-g} y.1.st y.1.ac y.1.aa c d).map λz=>(y.2,z.2))) (FR (c,d) S {eO F P with ac:=F.ac-g}):=by
 have N:∀{G:Fz}{Q:RW}{n:Nat}{C:TS},Ok G->Un T C->RelW C Q->mP T (lY ((dB n G).map λz=>(C,z.2))) _:=λ{G Q n C} L I H=>by
  have V:=mI (P:=Q) L n;cases X:dB n G with
  |none=>rwa[X]at V
  |some z=>rw[X]at V;exact⟨I,Q,H,LZ ⟨V.1.en,V.1,V.2⟩⟩
 unfold ji FR;rcases J with⟨X,V,Y,Z,f⟩|⟨Y,Z,⟨X,V,f⟩|⟨X,V,m,m⟩⟩
 .rw[At V,X,Y,Z,f,iF (by decide)];have e:qa {F with ac:=F.ac-g} 0 ⟨#[]⟩ c d={F with ac:=F.ac-g}:=by unfold qa;show({F with ac:=F.ac-g+0,ret:=⟨#[]⟩,mem:=splice F.mem c (List.take d [])}:Fz)=_;rw[List.take_nil,oS,Ye,<-l]
  rw[e];exact N ⟨h.aT,h.aV,h.st,h.en⟩ (Un.refl T) j
 all_goals
  rw[iF (show¬S.ao=3 by omega),X,Y,Z];have D:Ok (qa {F with ac:=F.ac-g} S.ac S.aa c d):=⟨by show(splice F.mem c _).length%32=0;rw[vO E];exact h.aT,h.aV,h.st,h.en⟩
  have O:gT c (dI (dH S.aa 0 (min d S.aa.size))) {({eO F P with ac:=F.ac-g})with ac:=F.ac-g+S.ac,aI:=S.aa}=eO (qa {F with ac:=F.ac-g} S.ac S.aa c d) P:=by unfold gT;rw[Gx];rfl
 .rw[iF (show¬1=0 by decide),f,iF (show¬S.ao=1 by rw[V];decide)];show mP T _ (eN (jM (S.ao==1)) (gT c (dI (dH S.aa 0 (min d S.aa.size))) {({eO F P with ac:=F.ac-g}:RS)with ac:=F.ac-g+S.ac,aI:=S.aa}));rw[O,V];exact N D (Un.refl T) j
 grind[mP,eN,jM,gT,dI,dH,min,eO]
def RK(J C Z v:Nat){q:Nat×Nat}(h:Ok F)(o:RelW T P)(p:fB T)(U:J≠241->v=0)(Bp:F.depth<=16)(Y:F.ac<=100000)(f:c+d<=F.mem.length)(A:data=dI (dM F.mem q.1 q.2))(X:jV F T v=true->∀Q,RelW (fU T v F.ak Z) Q->WN T (wk (eu J C Z v data {F with ret:=⟨#[]⟩} T) T v F.ak Z) (run (eO (eu J C Z v data {F with ret:=⟨#[]⟩} T) Q))):mP T (lY (um wk J C Z v data c d {F with ret:=⟨#[]⟩} T)) (Bu run J C Z v q (c,d) (eO F P)):=by
 have L:Ok {F with ret:=⟨#[]⟩}:=⟨h.aT,h.aV,h.st,h.en⟩
 have H:mP T (lY ((dB 0 {F with ret:=⟨#[]⟩}).map λy=>(T,y.2))) (eN 0 (eO {F with ret:=⟨#[]⟩} P)):=by
  have l:=mI (P:=P) L 0;cases u:dB 0 {F with ret:=⟨#[]⟩}with
  |none=>rwa[u]at l
  |some z=>rw[u]at l;exact⟨Un.refl T,P,o,LZ ⟨l.1.en,l.1,l.2⟩⟩
 unfold Bu;rw[At (show(eO F P).ao=0 from W)];unfold um;by_cases O:F.depth=16
 .grind[eO,jV]
 rw[iF (show¬(eO F P).depth=16 from O),Ox Y];show mP T _ (D3 run J Z v q (c,d) (eA F C) (eO {F with ret:=⟨#[]⟩} P));unfold D3;have I:=o.bX Z;have G:(mB (bc Z (eO {F with ret:=⟨#[]⟩} P).w).2 (bc Z (eO {F with ret:=⟨#[]⟩} P).w).1).ae=(T.aw Z).ae:=by show(mB (bc Z P).2 (bc Z P).1).ae=_;rw[mi,o.ae]
 rw[G];have E:=I.move p F.ak Z v;have j:(ow J Z v (eO {F with ret:=⟨#[]⟩} P)).1=jV {F with ret:=⟨#[]⟩} T v/\(jV {F with ret:=⟨#[]⟩} T v=true->RelW (fU T v F.ak Z) (ow J Z v (eO {F with ret:=⟨#[]⟩} P)).2):=by
  unfold ow jV;rw[OsQ (by show F.depth<16;omega),YG];by_cases V:J=241
  .rw[At V];exact⟨E.1,λh=>E.2 (E.1.trans h)⟩
  rw[iF V,U V];exact⟨(OsQ (by rw[ZS];exact In _)).symm,λ_=>I.move0 p _ Z 0 (ZS _)⟩
 rw[j.1];by_cases D:jV {F with ret:=⟨#[]⟩} T v=true
 .rw[At D,At D];have l:=X D _ (j.2 D);have m:uT J Z v q (eA F C) (eO {F with ret:=⟨#[]⟩} P) (T.aw Z).ae (ow J Z v (eO {F with ret:=⟨#[]⟩} P)).2=eO (eu J C Z v data {F with ret:=⟨#[]⟩} T) (ow J Z v (eO {F with ret:=⟨#[]⟩} P)).2:=by rw[A];rfl
  rw[m];exact TY L o W c d (qg F _) f l
 rwa[iF D,iF D]
def LH{l:Vf}(h:a+b<=l.length):dM (l++List.replicate k 0) a b=dM l a b:=by grind[dM]
def zE{β:Type}{C:Option (β×Fz)->RS->Prop}(E:∀R,R.ao=3->C none R){F:Fz}{k:Option (β×Fz)}{K:Nat->RS->RS}(D:F'.st=F.st)(G:Sy K)(H:∀n s,F.st=n::s->db F=some (n,{F with st:=s})->C k (K n (eO {F' with st:=s} P))):C (dX (db F) k) (du (dA (eO F' P)) K):=by
 cases H:F.st with
 |nil=>rw[nE H];exact E _ (G _ _ (iz (by grind)))
 |cons n s=>rw[gu (D.trans H),dW,ed (by grind[ir])];grind[ir]
def BE{β:Type}{F:Fz}{k:Option (β×Fz)}(D:∀n s,db F=some (n,{F with st:=s})->k=none):dX (db F) k=none:=by
 cases C:F.st with
 |nil=>rw[nE C];rfl
 |cons n s=>exact dE (A4 (D n s (ir C)))
def Kz(h:Ok F)(v:Nat):(∃F',Ok F'/\F'.st=F.st/\F'.mem=F.mem/\F'.ac<=F.ac/\F'.depth=F.depth/\F'.ak=F.ak/\vV v (eO F P)=eO F' P/\∀s,pd v {F with st:=s}=some ((),{F' with st:=s}))\/((vV v (eO F P)).ao=3/\∀s,pd v {F with st:=s}=none):=by
 unfold vV pd QO;by_cases D:v%M=0
 .grind
 rw[iF D];by_cases C:F.ac<900
 .rw[uK C];refine A4 ⟨?_,λs=>?_⟩
  .split<;>rfl
  grind[im]
 rw[vd C];by_cases E:F.ro=true
 .rw[At (show(eO {F with ac:=F.ac-900} P).aR=true from E)];exact A4 ⟨W,λs=>by grind⟩
 rw[iF (show¬(eO {F with ac:=F.ac-900} P).aR=true from E)];refine LZ ⟨{F with ac:=F.ac-900},⟨h.aT,h.aV,h.st,h.en⟩,W,W,ZF _ _,W,W,W,λs=>?_⟩;rw[iF D,iF (E)];unfold im;exact iF C
theorem Sy.take{K:Nat->RS->RS}(h:Sy K)(C:R.ao=3):(du (dA R) K).ao=3:=h _ _ (fi C)
def c7(run:RS->RS)(J gs Z v a n oa on:Nat)(R:RS):RS:=du (dJ a n R) λq R=>du (dJ oa on R) (Bu run J gs Z v q)
def c6(run:RS->RS)(J gs Z v a n oa:Nat)(R:RS):RS:=du (dA R) (c7 run J gs Z v a n oa)
def c5(run:RS->RS)(J gs Z v a n:Nat)(R:RS):RS:=du (dA R) (c6 run J gs Z v a n)
def c4(run:RS->RS)(J gs Z v a:Nat)(R:RS):RS:=du (dA R) (c5 run J gs Z v a)
def c3(run:RS->RS)(J gs Z v:Nat)(R:RS):RS:=du (dA (vV v R)) (c4 run J gs Z v)
def c2(run:RS->RS)(J gs Z:Nat)(R:RS):RS:=du (uS J R) (c3 run J gs Z)
def c1(run:RS->RS)(J gs:Nat)(R:RS):RS:=du (dA R) (c2 run J gs)
section
variable {v:Nat}
def sc7:Sy (c7 run J gs Z v a n oa):=λon R C=>B8 run J gs Z v (dJ a n R).1 (dJ oa on (dJ a n R).2).1 _ (bf _ _ (bf _ _ C))
def sc6:Sy (c6 run J gs Z v a n):=λoa R C=>Sy.take (K:=c7 run J gs Z v a n oa) sc7 C
def sc5:Sy (c5 run J gs Z v a):=λn R C=>Sy.take (K:=c6 run J gs Z v a n) sc6 C
def sc4:Sy (c4 run J gs Z v):=λa R C=>Sy.take (K:=c5 run J gs Z v a) sc5 C
def sc3:Sy (c3 run J gs Z):=λv R C=>Sy.take (K:=c4 run J gs Z v) sc4 (o_chg v C)
def Sy.val{K:Nat->RS->RS}(h:Sy K)(C:R.ao=3):(du (uS J R) K).ao=3:=h _ _ (o_val J C)
def sc2:Sy (c2 run J gs):=λZ R C=>Sy.val (K:=c3 run J gs Z) sc3 C
def sc1:Sy (c1 run J):=λgs R C=>Sy.take (K:=c2 run J gs) sc2 C
end
def r_call{run:RS->RS}(J:Nat)(h:Ok F)(hw:RelW T P)(hT:fB T)(Bp:F.depth<=16)(b:F.ac<=100000)(z:∀G Z v data O Q,O.depth=F.depth->O.ac<=F.ac->data.size<=65536->jV O T v=true->RelW (fU T v O.ak Z) Q->WN T (wk (eu J G Z v data O T) T v O.ak Z) (run (eO (eu J G Z v data O T) Q))):mP T (lY (jj wk J F T)) (du (dA (eO F P)) (c1 run J)):=by
 obtain⟨D,A⟩:∃D:Option _->RS->Prop,D=λr R=>mP T (lY r) R:=⟨_,W⟩
 have H:∀R,R.ao=3->D none R:=λR S=>by rwa[A]
 suffices hs:D (jj wk J F T) (du (dA (eO F P)) (c1 run J)) by rw[A]at hs;exact hs
 unfold jj;refine zE H W sc1 λgs b b c=>?_;have s:=fb c;simp only[eP,eV,eb,oK,s.1,s.2];unfold c1;refine zE H W sc2 λZ V c p2=>?_;unfold c2;have N:=fb p2;have f:=ki (ki h b) c;simp only[N.1,N.2];have X:(∃v C,(J≠241->v=0)/\eZ J {F with st:=V}=some (v,{F with st:=C})/\uS J (eO {F with st:=V} P)=(v,eO {F with st:=C} P)/\Ok {F with st:=C})\/(eZ J {F with st:=V}=none/\(uS J (eO {F with st:=V} P)).2.ao=3):=by
  unfold eZ uS;by_cases Y:J=241
  .rw[At Y,At Y];match V,f with
   |[],f=>exact A4 ⟨nE W,iz W⟩
   |v::C,f=>exact LZ ⟨v,C,λh=>absurd Y h,ir W,gu W,ki f W⟩
  rw[iF Y,iF Y];exact LZ ⟨0,V,λ_=>W,W,W,f⟩
 rcases X with⟨v,C,l,b,c,u⟩|⟨b,c⟩;case inr=>rw[b];exact H _ ((show Sy (c3 run J gs Z) from sc3) _ _ c)
 rw[b,c,dW];simp only[show∀k:Option _,dX (some (v,({F with st:=C}))) k=k from λ_=>W,show dV (some (v,({F with st:=C})))=v from W,show da (some (v,({F with st:=C})))={F with st:=C} from W];rcases Kz (P:=P) u v with⟨c,k4,w,b,q3,q4,b,u,x⟩|⟨u,x⟩;case inr=>
  have hn:dX (db {F with st:=C}) (dX (db (da (db {F with st:=C}))) (dX (db (da (db (da (db {F with st:=C}))))) (dX (db (da (db (da (db (da (db {F with st:=C}))))))) (CP wk J gs Z v (dV (db {F with st:=C})) (dV (db (da (db {F with st:=C})))) (dV (db (da (db (da (db {F with st:=C})))))) (dV (db (da (db (da (db (da (db {F with st:=C})))))))) (da (db (da (db (da (db (da (db {F with st:=C})))))))) T))))=none:=by refine BE λa u4 p4=>?_;rw[(fb p4).2];refine BE λn u5 g=>?_;rw[(fb g).2];refine BE λoa u6 j=>?_;rw[(fb j).2];refine BE λon U b=>?_;rw[(fb b).2];unfold CP;rw[x U]
  exact(Xl (λr=>D r _) hn).mpr (H _ (Sy.take (K:=c4 run J gs Z v) sc4 u))
 unfold c3;rw[u];refine zE H w sc4 λa u4 u p4=>?_;unfold c4;simp only[(fb p4).1,(fb p4).2];refine zE H W sc5 λn u5 e5 g=>?_;unfold c5;simp only[(fb g).1,(fb g).2];refine zE H W sc6 λoa u6 e6 j=>?_;unfold c6;simp only[(fb j).1,(fb j).2];refine zE H W sc7 λon U e7 b=>?_;unfold c7;simp only[(fb b).1,(fb b).2];have p:Ok {c with st:=U}:=ki (ki (ki (ki k4 (w.trans u)) e5) e6) e7;unfold CP;rw[x U];show D (mF wk J gs Z v a n oa on {c with st:=U} T) _;obtain⟨E,o⟩:∃E:Fz,E={c with st:=U}:=⟨_,W⟩
 have t:E.depth=F.depth:=by rw[o];exact q4
 have b:E.ac<=F.ac:=by rw[o];exact q3
 rw[<-o]at p⊢;unfold mF;refine sH H a n p (λq R S=>B8 _ J gs Z v q _ _ (bf _ _ S)) (λe=>by rw[e]) λm b i L=>?_;rw[b];dsimp only;refine sH H oa on i (B8 _ J gs Z v _) (λe=>by rw[e]) λd u x I=>?_;rw[u];dsimp only;rw[A];have y:=uQ a n (xF b) p;rw[<-L]at y;have c:=uQ oa on (xF u) i;rw[<-I]at c;have g2:m.ac<=E.ac:=by rw[L];exact ZF _ _
 have b:d.ac<=m.ac:=by rw[I];exact ZF _ _
 have b:d.depth=E.depth:=by rw[I,L];rfl
 refine RK J gs Z v x hw hT l (by rw[b,t];exact Bp) (by omega) c.1 ?_ λl Q c=>?_
 .rw[show d.mem=m.mem++List.replicate _ 0 by rw[I];rfl,LH y.1]
 refine z gs Z v _ _ Q (by show d.depth=_;rw[b,t]) (by show d.ac<=_;omega) ?_ l c;show(dM m.mem (rq a n).1 (rq a n).2).toArray.size<=_;rw[YU];exact By (mQ) y.2.1
def OW:((List.range 256).all λJ=> !pA J||(eF J==some (if J=10 then 10 else 5)))=true:=by kernel_rfl
def Uk(D:J<256)(h:pA J=true):eF J=some (if J=10 then 10 else 5):=by have C:=Xp.1 OW J (XS.2 D);rw[h]at C;simpa using C
def Py(J:Nat)(h:Ok F)(E:12<=J)(D:J<=15):(Nh J (eO F P)).ao=3:=by
 show(du (dA (dU (if J=10 then 10 else 5) (eO F P))) (kR2 J)).ao=3;by_cases C:F.ac<(if J=10 then 10 else 5)
 .rw[uK C];exact Sy.take (sy2 J) W
 rw[vd C];rcases Fj F.st with H|⟨a,H⟩|⟨a,b,r,H⟩
 .exact sy2 J _ _ (iz H)
 .rw[gu (F:={F with ac:=F.ac-if J=10 then 10 else 5}) H,dW];unfold kR2;rw[AQ];exact sy3 J a _ _ (iz W)
 rw[gu (F:={F with ac:=F.ac-if J=10 then 10 else 5}) H,dW];unfold kR2;rw[AQ,gu (F:={F with ac:=F.ac-if J=10 then 10 else 5,st:=b::r}) W,dW];unfold kR3;rw[AQ,dW,AQ];unfold mM;rw[At (show RS.ao _=0 from W),iF (by unfold ny;rw[AQ];decide)];exact yo W
def M2:((List.range 256).all λJ=>(eF J).isSome||decide (12<=J/\J<=15)||(decide (30<=J/\J<63)&& !([48,49,51,52,53,54,55,56,57,61,62]:Tl).contains J)||decide (63<=J/\J<80)||(decide (165<=J)&& !([241,243,244,250,253]:Tl).contains J))=true:=by kernel_rfl
def Dr(D:30<=J/\J<63)(h:J∉([48,49,51,52,53,54,55,56,57,61,62]:Tl))(R:RS):lU J R=fA R:=by
 simp only[IF,Xk,XI,not_or]at h;have C:J=30\/J=31\/J=32\/J=33\/J=34\/J=35\/J=36\/J=37\/J=38\/J=39\/J=40\/J=41\/J=42\/J=43\/J=44\/J=45\/J=46\/J=47\/J=50\/J=58\/J=59\/J=60:=by omega
 rcases C with rfl|rfl|rfl|rfl|rfl|rfl|rfl|rfl|rfl|rfl|rfl|rfl|rfl|rfl|rfl|rfl|rfl|rfl|rfl|rfl|rfl|rfl;all_goals rfl
def UJ(E:J<256)(H:eF J=none)(h:Ok F):(eE run J p (eO F P)).ao=3:=by
 have C:=Xp.1 M2 J (XS.2 E);rw[H]at C;simp only[Option.isSome_none,Z8,YR,Xo,Yz,YK,Zf,YN]at C;unfold eE;rcases C with((C|⟨C,D⟩)|C)|⟨C,D⟩
 .rw[AQ,AV];exact Py J h C.1 C.2
 .rw[AQ,AQ,AV,Dr C D];rfl
 .rw[AQ,AQ,AQ,AQ,AQ,AQ,AQ,AQ,AQ,AQ,AQ,AQ,AQ,AQ,AQ];rfl
 simp only[IF,Xk,XI,not_or]at D;rw[AQ,AQ,AQ,AQ,AQ,AQ,AQ,AQ,AQ,AQ,AQ,AQ,AQ,AQ,AQ];rfl
def IB(n:Nat):bl (pw n)=qc n 0:=by rfl
def Hy(n:Nat):bl ((pw n).extract (32-32) 32)=qc n 0/\bl ((pw n).extract (32-1) 32)=[xA n]:=by
 have C:(qc n 0).length=32:=by rfl
 refine⟨?_,?_⟩
 .rw[AX,IB,Nat.sub_self,List.drop_zero,XA (by omega)]
 rw[AX,IB,Ot n 0 (by decide),List.drop_append_of_le_length (by unfold qc;simp),ZX (by unfold qc;simp),XG];grind[UInt8.ofNat,vY,xA]
def Qv(wk:Wk)(run:RS->RS)(F:Fz)(T:TS)(P:RW)(J:Nat):=∀c,eF J=some c->mP T (if F.ac<c then none else vW wk J (eG F c) T) (eE run J F.nx (eO (si F) P))
def CG{K:RS->RS}{r:Fz->Option (Unit×Fz)}(H:eF J=some c)(L:eE run J F.nx (eO (si F) P)=K (dU c (eO (si F) P)))(D:∀R,R.ao=3->(K R).ao=3)(I:vW wk J (eG F c) T=kP (r (eG F c)) T)(O:RelW T P)(h:c<=F.ac->ResU P (r (eG F c)) (K (eO (eG F c) P))):Qv wk run F T P J:=λc' C=>by obtain rfl:c=c':=hV (H.symm.trans C);rw[L];exact Ws D λE=>by rw[I];exact(h E).bq O
def Oo{K:RS->RS}(E:eF J=some c)(H:eE run J F.nx (eO (si F) P)=K (dU c (eO (si F) P)))(D:∀R,R.ao=3->(K R).ao=3)(h:c<=F.ac->mP T (vW wk J (eG F c) T) (K (eO (eG F c) P))):Qv wk run F T P J:=λc' C=>by obtain rfl:c=c':=hV (E.symm.trans C);rw[H];exact Ws D h
def Cy(s:BA)(aD strict:Bool)(R:RS):RS:=du (dA R) λZ R=>du (dA R) λfr R=>du (dA R) λn R=>du (dJ Z n (if aD=true then(dJ fr n (dU ((ec n 70000+31)/32*3) R)).2 else dU ((ec n 70000+31)/32*3) R)) (vZ s aD strict fr)
def nT{s:BA}{aD:Bool}(R:RS)(h:R.ao=3):(Cy s aD strict R).ao=3:=by have C:=fi (fi (fi h));refine Hc s aD strict _ _ (bf _ _ ?_);grind[bf,Ay]
def Iv{s:BA}(strict:Bool)(O:s.size<=70000)(h:Ok G)(C:Nat->Nat->Nat->Fz->Option (Unit×Fz))(E:∀a b c u,C a b c {G with st:=u}=if strict=true/\c%M≠0/\s.size<b%M+c%M then none else ez s a b c {G with st:=u}):ResU P (Kr G (C (eP G) (eV G) (pX G) (mU G))) (Cy s false strict (eO G P)):=by
 refine Mz (K:=λZ Q n R=>du _ _) h (λa b n R L=>?_) λa b c u I D t3 t4 H=>?_
 .exact Hc s _ _ _ _ (bf _ _ (Ay L))
 rw[I,D,t3,t4,iF (show¬false=true by decide),E];exact r_copy H s O a b c
def MZ{s:BA}(C:s.size<=70000)(h:Ok G):ResU P (gi s G) (Cy s false false (eO G P)):=Iv false C h (ez s) λa b c u=>by rfl
def ro_ret(C:G.ret.size<=65536)(h:Ok G):ResU P (fW G) (Cy G.ret false true (eO G P)):=Iv true (by omega) h kJ λa b c u=>by unfold kJ LN;grind
def ro_own(h:Ok G):ResU P (gZ G) (Cy ⟨#[]⟩ true false (eO G P)):=by
 refine Mz (K:=λZ I n R=>du _ _) h (λa b n R E=>?_) λa b c u D C t3 t4 H=>?_
 .exact Hc _ _ _ _ _ (bf _ _ (bf _ _ (Ay E)))
 rw[D,C,t3,t4,At (rfl)];grind[S6]
def UE(h:R.ao=3):(du (dA R) λa R=>du (dJ a 32 R) λq R=>if R.ao=0 then eN (lK (dM R.mem q.1 q.2)) R else R).ao=3:=pp (bf _ _ (fi h))
def Iz(n:Nat)(h:R.ao=3):(du (dA R) λa R=>du (dJ a n R) λq R=>du (dA R) λv R=>if R.ao=0 then gT q.1 ((pw v).extract (32-n) 32) R else R).ao=3:=pp (fi (bf _ _ (fi h)))
def JR{v:Nat}(h:R.ao=3):(v7 br k v (if R.aR=true then fA R else R)).ao=3:=by
 refine pp ?_;split
 .rfl
 omega
def Wi(h:R.ao=3):(if b%M=0 then R else ek a R).ao=3:=by grind[Ge]
def r_bal(h:Ok F)(E:RelW T P)(C:G=F):mP T (kP (dX (db F) (dB (T.aw (dV (db F))).ai (da (db F)))) T) (du (dA (eO F P)) λa R=>if R.ao=0 then eN (mB (bc a R.w).2 (bc a R.w).1).mo {R with w:=(bc a R.w).2}else R):=by
 cases D:F.st with
 |nil=>rw[nE D];exact pp (iz D)
 |cons a s=>have t:=fb (ir D);rw[ed (by rw[ir D];simp),t.1,t.2,gu D,dW,At (show RS.ao _=0 from W)];show mP T _ (eN (mB (bc a P).2 (bc a P).1).mo (eO {F with st:=s} (bc a P).2));rw[mi,<-E.ai];exact(mI (ki h D) _).bq (E.bX a)
theorem N4(U:Ok F)(d:RunF F)(Z:RelW T P)(I:J∈([48,49,51,52,53,54,55,56,57,61,62]:Tl)):Qv wk run F T P J:=by
 have k:=qw U;have X:=d.ds;have d2:=d.cs;have L:=d.rs;have C:∀{J c:Nat}(g:Fz->Nat)(E:RS->Nat),eF J=some c->(∀G,E (eO G P)=g G)->eE run J _ _=eN _ _->vW wk J _ T=kP _ T->Qv wk _ F T P J:=λ{J c} g E D O V Q=>CG (K:=λR=>eN (E R) R) D V (λR h=>yo h) Q Z λ_=>by rw[O];exact mI (k _) _
 simp only[IF,Xk,XI]at I;rcases I with rfl|rfl|rfl|rfl|rfl|rfl|rfl|rfl|rfl|rfl|rfl
 .exact C _ _ W (λ_=>W) W W
 .exact Oo (K:=λR=>du _ λa R=>if R.ao=0 then eN (mB (bc a R.w).2 (bc a R.w).1).mo {R with w:=(bc a R.w).2}else R) W W (λR h=>pp (fi h)) λ_=>r_bal (k _) Z W
 .exact C _ _ W (λ_=>W) W W
 .exact C _ _ W (λ_=>W) W W
 .refine CG (K:=λR=>du _ λa R=>eN (lK (dH R.data (ec a _) 32)) R) (r:=λG=>dX _ _) W W (λR h=>yo (fi h)) W Z λ_=>?_;refine vE (k _) (λa R h=>yo h) λa s Y H D=>?_;rw[(fb H).1,(fb H).2,<-yS _ (show(eG F 3).data.size<=70000 by show F.data.size<=_;omega)];exact mI D _
 .exact C _ (λR=>R.data.size) W (λ_=>W) W W
 .exact CG (K:=Cy F.data false false) W W (nT) W Z λ_=>MZ (show F.data.size<=70000 by omega) (k _)
 .exact C _ (λR=>R.ae.size) W (λ_=>W) W W
 .exact CG (K:=Cy F.ae false false) W W (nT) W Z λ_=>MZ (show F.ae.size<=70000 by omega) (k _)
 .exact C _ (λR=>R.aI.size) W (λ_=>W) W W
 exact CG (K:=Cy F.ret false true) W W (nT) W Z λ_=>ro_ret L (k _)
theorem PP(Q:Ok F)(d:RunF F)(f:fB T)(Z:RelW T P)(C:80<=J)(H:J<95):Qv wk run F T P J:=by
 have k:=qw Q;have d2:=d.cs;have D:∀{J c:Nat}(g:Fz->Nat)(E:RS->Nat),eF J=some c->(∀G,E (eO G P)=g G)->eE run J _ _=eN _ _->vW wk J _ T=kP _ T->Qv wk _ F T P J:=λ{J c} g E C H V O=>CG (K:=λR=>eN (E R) R) C V (λR h=>yo h) O Z λ_=>by rw[H];exact mI (k _) _
 have X:J=80\/J=81\/J=82\/J=83\/J=84\/J=85\/J=86\/J=87\/J=88\/J=89\/J=90\/J=91\/J=92\/J=93\/J=94:=by omega
 rcases X with rfl|rfl|rfl|rfl|rfl|rfl|rfl|rfl|rfl|rfl|rfl|rfl|rfl|rfl|rfl
 .refine CG (r:=yj) W W (λR h=>fi h) W Z λ_=>?_;unfold yj;cases d:(eG F 2).st with
  |nil=>rw[nE d];exact iz d
  |cons a s=>rw[ir d,gu d];exact⟨ki (k _) d,W⟩
 .exact CG W W (λR h=>UE h) W Z λ_=>R9 (k _)
 .exact CG (r:=hE) W W (λR h=>Iz 32 h) W Z λ_=>Hu (k _) 32 _ (λv=>(Hy v).1) (λv=>by rfl)
 .exact CG (r:=hH) W W (λR h=>Iz 1 h) W Z λ_=>Hu (k _) 1 (λv=>[xA v]) (λv=>(Hy v).2) (λv=>by rfl)
 .exact CG (K:=λR=>du _ λk R=>if R.ao=0 then eN (fu _ R.ak k R.w) R else R) (r:=λG=>nk 1 G T) W W (λR h=>pp (fi h)) W Z λ_=>Nr (k _) Z false
 .exact Oo (K:=λR=>du _ λk R=>du (dA R) λv R=>v7 _ k v (if R.aR=true then fA R else R)) W W (λR h=>JR (fi (fi h))) λ_=>Jj (k _) Z f false
 .exact CG (K:=λR=>du _ ek) (r:=nG) W W (λR h=>Ge (fi h)) W Z λ_=>by refine vE (k _) (λa R h=>Ge h) λa s Y I C=>?_;rw[(fb I).1,(fb I).2];exact Pt C d2 a
 .exact CG (K:=λR=>du _ λa R=>du (dA R) λb R=>if b%M=0 then R else ek a R) (r:=kL) W W (λR h=>Wi (fi (fi h))) W Z λ_=>by
   refine Qf (k _) (λa b R h=>Wi h) λa b s e U L t3 C=>?_;rw[U,L,t3];split
   .exact⟨C,W⟩
   exact Pt C d2 a
 .exact D _ (λR=>F.nx) W (λ_=>W) W W
 .exact D _ (λR=>R.mem.length) W (λ_=>W) W W
 .exact D _ _ W (λ_=>W) W W
 .exact CG (r:=λG=>some _) W W (λR h=>h) W Z λ_=>⟨k _,W⟩
 .exact CG (K:=λR=>du _ λk R=>if R.ao=0 then eN (fu _ R.ak k R.w) R else R) (r:=λG=>nk 2 G T) W W (λR h=>pp (fi h)) W Z λ_=>Nr (k _) Z true
 .exact Oo (K:=λR=>du _ λk R=>du (dA R) λv R=>v7 _ k v (if R.aR=true then fA R else R)) W W (λR h=>JR (fi (fi h))) λ_=>Jj (k _) Z f true
 exact CG (K:=Cy ⟨#[]⟩ true false) W W (nT) W Z λ_=>ro_own (k _)
def J4:((List.range 256).all λJ=> !(decide (95<=J/\J<160))||(eF J==some 3))=true:=by kernel_rfl
def NM(C:95<=J)(D:J<160):eF J=some 3:=by have h:=Xp.1 J4 J (XS.2 (by omega));rw[OsQ ⟨C,D⟩]at h;simpa using h
theorem OB(h:30<=J):pA J=false:=by grind[pA]
def Ps(C:95<=J)(D:J<160):eE run J p R=uI J R:=by grind[eE]
def do_mid(C:95<=J)(D:J<160):vW wk J G T=kP (if J<128 then fF (J-95) G else if J<144 then vR (J-128+1) G else nv (J-144+1) G) T:=by unfold vW;rw[iF (by grind[OB]),AQ,AQ,AQ];grind
def o_stk(J:Nat)(R:RS)(h:R.ao=3):(if J<128 then xD (J-95) R else if J<144 then CI (J-127) R else qW (J-142) R).ao=3:=by
 split
 .exact yo h
 split
 .unfold CI;split
  .rfl
  grind[yo]
 unfold qW;split
 .rfl
 exact h
theorem Vk(E:Ok F)(I:RunF F)(L:RelW T P)(D:95<=J)(C:J<160):Qv wk run F T P J:=by
 refine CG (r:=λG=>if J<128 then fF _ G else if J<144 then vR _ G else nv _ G) (NM D C) (Ps D C) (o_stk J) (do_mid D C) L λH=>?_;have k:=qw E 3;by_cases c1:J<128
 .rw[At c1,At c1];exact U7 k (by show F.nx+1<=1200;have:=I.nx;omega)
 rw[iF c1,iF c1];by_cases c2:J<144
 .rw[At c2,At c2,show J-128+1=J-127 by omega];exact r_dup k
 rw[iF c2,iF c2,show J-142=J-144+1+1 by omega];exact r_swap k
theorem Sq(E:Ok F)(I:RelW T P)(H:160<=J)(D:J<=164):Qv wk run F T P J:=by
 obtain⟨n,rfl⟩:∃n,J=n+160:=⟨J-160,by omega⟩
 have I:∀R,eE run (n+160) F.nx R=Gf n R:=λR=>by grind[eE]
 have L:vW wk (n+160) (eG F 300) T=lY (rJ n (eG F 300) T):=by unfold vW;rw[iF (by grind[OB]),AQ,AQ,AQ,AQ,AQ,AQ,AV,ZQ]
 have C:eF (n+160)=some 300:=by
  have:n=0\/n=1\/n=2\/n=3\/n=4:=by omega
  rcases this with rfl|rfl|rfl|rfl|rfl<;>rfl
 refine Oo (K:=λR=>du (dA _) _) C (I _) (λR h=>pp ((tS n [] _).ov (bf _ _ (Ay (fi (fi ((E8 R).ov h))))))) λ_=>?_;grind[r_log,qw]
theorem Oy(O:Ok F)(g:RunF F)(b:fB T)(l:RelW T P)(d:F.ac<=100000)(H:J=241\/J=244\/J=250)(E:∀C Z v data D Q,D.depth=F.depth->D.ac+100<=F.ac->data.size<=65536->jV D T v=true->RelW (fU T v D.ak Z) Q->WN T (wk (eu J C Z v data D T) T v D.ak Z) (run (eO (eu J C Z v data D T) Q))):Qv wk run F T P J:=by
 have j:∀R,eE run J F.nx R=RR run J R:=λR=>by rcases H with rfl|rfl|rfl<;>rfl
 have c:vW wk J (eG F 100) T=lY (jj wk J (eG F 100) T):=by rcases H with rfl|rfl|rfl<;>rfl
 have Y:eF J=some 100:=by rcases H with rfl|rfl|rfl<;>rfl
 refine Oo (K:=λR=>du (dA R) (c1 run J)) Y ((j _).trans W) (λR h=>Sy.take sc1 h) λf=>?_;rw[c];refine r_call J (qw O _) l b g.dp (show F.ac-100<=_ by omega) λC Z v data D Q U I V X L=>?_;have I:D.ac<=F.ac-100:=I;exact E _ Z v _ D Q U (by omega) V X L
theorem Ro(C:Ok F)(I:RelW T P)(E:J=0\/J=243\/J=253):Qv wk run F T P J:=λc H=>by
 have D:c=0:=by rcases E with rfl|rfl|rfl<;>exact(hV H).symm
 subst D;rw[iF (Nat.not_lt_zero _)];have k:Ok (si F):=⟨C.aT,C.aV,C.st,C.en⟩
 rcases E with rfl|rfl|rfl
 .refine⟨Un.refl T,P,I,A4 ⟨W,?_,?_⟩⟩
  .show F.aE<=1;rw[C.st];omega
  show({eO (si F) P with ao:=1}:RS)={eO (si F) P with ao:=F.aE+1};rw[C.st]
 .exact Wn (F:=si F) k I 243 (by decide)
 exact Wn (F:=si F) k I 253 (by decide)
def Pp(E:Ok F)(V:RunF F)(V:fB T)(X:RelW T P)(U:F.ac<=100000)(O:∀J C Z v data D Q,D.depth=F.depth->D.ac+100<=F.ac->data.size<=65536->jV D T v=true->RelW (fU T v D.ak Z) Q->WN T (wk (eu J C Z v data D T) T v D.ak Z) (run (eO (eu J C Z v data D T) Q))):mP T (mh wk F T) (eE run (kv F) F.nx (eO (si F) P)):=by
 have I:=WI F;unfold mh;cases V:eF (kv F)with
 |none=>exact UJ I V ⟨E.aT,E.aV,E.st,E.en⟩
 |some c=>
  suffices hs:Qv wk run F T P (kv F) from hs c V;have L:eF (kv F)≠none:=by grind
  generalize kv F=J at*;by_cases c1:pA J=true
  .refine CG (Uk I c1) ?_ (λR h=>Sy.take (sy2 J) h) (At c1) X λ_=>r_reck (qw E _) c1;have H:J≠0/\J<30:=by grind[pA,c1]
   unfold eE;rw[iF H.1,At H.2];rfl
  grind[c1,pA,c2,Ro,Io,c3,N4,vi,c4,PP,c5,Vk,c6,Sq,IW,Oy]
variable {B:Nat}
def LoR(T:TS)(y:Option Fz×TS)(S:RS):=(y.1=none/\S.ao=3/\Un T y.2)\/∃F',y.1=some F'/\F'.aE<=1/\S.ao=F'.aE+1/\F'.ac=S.ac/\F'.aa=S.aa/\Un T y.2/\RelW y.2 S.w
def O4(wk:Wk)(run:RS->RS)(aS:Nat):=∀G T v fr Z Q,Ok G->RunF G->aS<G.depth->G.ac<=100000->GoodT T->T.ch.length+T.ay.length+2+G.ac<=1000000->CongX T->RelW (fU T v fr Z) Q->WN T (wk G T v fr Z) (run (eO G Q))
def opR_eq(F:Fz)(P:RW):FL (eO F P)=kv F:=by
 unfold FL kv;show((bl F.ae).getD F.nx 0).toNat=_;rw[<-xU];by_cases h:F.nx<F.ae.size
 .grind
 rw[iF h,xU,If,Ym (by grind[ik])];rfl
theorem xj(h:R.ao≠0):∀k,lH run k R=R
 |0=>rfl
 |k+1=>iF h
theorem Fg{I:Wk}{run:RS->RS}{A b:Nat}(hA:2<=A)(V:ET I A b)(d:O4 I run b):∀(n k:Nat)(F:Fz)(T:TS)(P:RW),Ok F->RunF F->b<=F.depth->F.ac<=100000->GoodT T->T.ch.length+T.ay.length+F.ac<=1000000->RelW T P->F.ac+2<=n->F.ac+1<=k->LoR T (fw I n F T) (lH run k (eO F P))
 |0,_,F,T,P,_,_,_,_,_,_,_,hn,_=>by omega
 |_,0,F,T,P,_,_,_,_,_,_,_,_,hk=>by omega
 |n+1,k+1,F,T,P,hO,hr,hd,hg,hT,hb,hw,hn,hk=>by
  rw[fw,iF (by rw[hO.en];decide),lH,At (show(eO F P).ao=0 from W),opR_eq];show LoR T _ (lH run k (eE run (kv F) F.nx (eO (si F) P)));have c:=Pp hO hr hT.aO hw hg λJ C Z v data L Q N S j o g=>by have p:=qg L C;exact d _ T v _ Z Q ⟨W,In _,W,W⟩ (uw j o hT) (by show b<L.depth+1;omega) (by show eA L C<=_;omega) hT (by show T.ch.length+T.ay.length+2+eA L C<=_;omega) (hw.aO hT.aO) g
  let⟨K,s2⟩:=uY hA V hr hd hg hT hb;cases b:mh I F T with
  |none=>rw[b]at c;have c:RS.ao _=3:=c;rw[xj (by omega)];exact LZ ⟨W,c,Un.refl T⟩
  |some y=>
   let⟨O,Y⟩:=y;rw[b]at c;let⟨U,z,H,E⟩:=c;have h:=s2 O Y b;have X:=h.cf;have D:=h.fx;dsimp only;rcases E with⟨E,b,c⟩|⟨E,u,c⟩
   .rw[c];have f:=h.lt E;have m:=Fg hA V d n k O Y z b ⟨by rw[D.ae];exact hr.cs,by rw[D.data];exact hr.ds,h.rs,by rw[D.depth];exact hr.dp,h.nx E,h.pc,h.os,h.st⟩ (by rw[D.depth];exact hd) (by omega) (hT.ext h.ext h.aO) (by omega) H (by omega) (by omega);rcases m with⟨b,l,q⟩|⟨G,b,l,q,t,r,s,i⟩
    .exact LZ ⟨b,l,U.trans q⟩
    exact A4 ⟨G,b,l,q,t,r,U.trans s,i⟩
   rw[c,xj (by simp)];cases n with
   |zero=>omega
   |succ n=>rw[fw,At E];exact A4 ⟨O,W,u,W,W,W,U,H⟩
theorem Ht:∀d,d<=16->O4 (dc d) (iR d) (16-d)
 |0,_=>λG T v fr Z Q _ c b=>by have:=c.dp;omega
 |d+1,h16=>λG T v fr Z Q O c b L b l C l=>by
  have Y:=Ht d (by omega);have J:=BI d (by omega);let⟨X,U,f,g⟩:=sN b.aO v fr Z;have E:=b.ext X U;have H:Un T (fU T v fr Z):=by
   have V:=Un.set C 0 fr 0 (ep 3 ((T.aw fr).ai%M) (v%M) 0);have c1:CongX (nN T v fr):=⟨(qS b.aO 0 fr 0 _).2,λa k j e=>?_,C.aP⟩
   .exact V.trans (Un.set c1 0 Z 0 _)
   show(fQ T.aw fr {T.aw fr with ai:=_} a).ar k=(fQ T.aw fr {T.aw fr with ai:=_} a).ar j;by_cases I:a%M=fr%M
   .rw[jC I];exact C.aK fr k j e
   rw[iV I];exact C.aK a k j e
  have h:=Fg (by omega) J Y _ _ G _ Q O c (by omega) L E (by grind) l (DO _) (DO _);show WN T (outM (fw (dc d) (G.ac+2) G (fU T v fr Z)).1,lD T (fw (dc d) (G.ac+2) G (fU T v fr Z)).2 (sT (fw (dc d) (G.ac+2) G (fU T v fr Z)).1)) (EH (lH (iR d) (G.ac+1) (eO G Q)));generalize fw (dc d) (G.ac+2) G (fU T v fr Z)=y at*;generalize lH (iR d) (G.ac+1) (eO G Q)=S at*;unfold EH lD;rcases h with⟨c,l,m⟩|⟨b,c,l,m,p,q,o,u⟩
  .rw[At l,c];refine LZ ⟨W,l,W,W,?_⟩;show(if 2=0 then y.2 else _)=T;rw[iF (by decide)];exact(H.trans m).aI
  rw[iF (show¬S.ao=3 by omega),c];refine A4 ⟨p,q,?_⟩;show(b.aE=1/\S.ao=2/\(if b.aE=0 then y.2 else _)=T)\/(b.aE=0/\S.ao=1/\Un T (if b.aE=0 then y.2 else _)/\RelW (if b.aE=0 then y.2 else _) S.w);by_cases D:b.aE=0
  .rw[At D];exact A4 ⟨D,by omega,H.trans o,u⟩
  rw[iF D];exact LZ ⟨by omega,by omega,(H.trans o).aI⟩
def O2{Q:RW}(D:GoodT (T0 A))(G:RelW (T0 A) P)(E:RelW (fU (T0 A) B fr Z) Q)(H:data.size<=500)(C:ac<=100000):WN (T0 A) (jZ (T0 A) fr Z B data ac) (iR 16 (eO (rY (A Z).ae fr Z B data ac) Q)):=Ht 16 (DO _) (rY (A Z).ae fr Z B data ac) (T0 A) B fr Z Q ⟨W,In _,W,W⟩ ⟨D.cs Z,(by show data.size<=65536;omega),In _,(by show 1<=16;omega),In _,In _,In _,In _⟩ (by show 16-16<1;omega) C D (by show 0+0+2+ac<=_;omega) (G.aO D.aO) E
def Qi{G:RS}(h:(iR (d+1) G).ao=3):(iR (d+1) G).ac=0/\(iR (d+1) G).aa=⟨#[]⟩:=by grind[iR,EH,absurd]
def RelW.clear(h:RelW T P):RelW (T0 T.aw) ⟨P.pu,P.sl.filter λs=> !s.br,[]⟩:=by
 have D:∀a k,(P.sl.filter λs=> !s.br).find? (ly false a k)=P.sl.find? (ly false a k):=λa k=>by rw[List.find?_filter];congr 1;grind[ly]
 have C:∀a k,(P.sl.filter λs=> !s.br).find? (ly true a k)=none:=λa k=>Zn.2 λs D D=>by grind[ly]
 refine⟨h.ai,h.ae,λa k=>?_,λa k=>?_,W,h.lt⟩
 .show(T.aw a).ar k=_;rw[h.aK a k];grind[fu,ly]
 show 0=_;grind[fu,ly]
def Cd.clear(h:Cd P):Cd ⟨P.pu,P.sl.filter λs=> !s.br,[]⟩:=⟨h.1,h.2.1,h.2.2.sublist (List.filter_sublist.map _)⟩
theorem Stp.halt{S:RS}(h:Pot R S)(C:S.ao≠0):Stp R S:=⟨h,λe=>absurd e C,λe=>absurd e C⟩
def LU{c:Prop}[Decidable c]{p q:Nat×RS}(D:Sm R p.2)(C:Sm R q.2):Sm R (if c then p else q).2:=by grind
theorem iW{α:Type}{p:α×RS}{k:α->RS->RS}(h:Sm R p.2)(C:∀a S,Sm S (k a S)):Sm R (du p k):=h.trans (C _ _)
def ky{α:Type}{p:α×RS}{k:α->RS->RS}(h:Sm (dU n R) p.2)(C:∀a S,Sm (dU n R) S->Stp R (k a S)):Stp R (du p k):=C _ _ h
def EC{C:Nat}(D:C≠0):Stp R (yi C R):=by
 unfold yi;generalize H:dJ (dA R).1 (dA (dA R).2).1 (dA (dA R).2).2=q;have E:q.1.2<=70000:=by grind[uC]
 have G:=(show Sm R q.2 by rw[<-H];exact((ee R).trans (ee _)).trans (gy _ _ _)).bj;unfold Jg;split
 .refine Stp.halt ⟨G.ae,G.data,G.depth,G.ac,G.pu,G.sl,G.lg,G.bp,G.ct,G.aI,λ_=>?_⟩ D;show(dM q.2.mem q.1.1 q.1.2).length<=_;grind[By,mQ]
 grind[Stp.halt]
def SQ{s:BA}{aD:Bool}{q:Nat×Nat}:Sm R (vZ s aD strict fr q R):=by unfold vZ BC;exact nK (nK (hM _) (EE)) (Sm.refl _)
theorem oy{s:BA}{aD:Bool}:Stp R (lA s aD strict R):=by unfold lA;exact Sm.bk (iW (ee _) λ_ _=>iW (ee _) λ_ _=>iW (ee _) λ_ _=>iW ((nK ((kI _ _).trans (gy _ _ _)) (kI _ _)).trans (gy _ _ _)) λ_ _=>SQ) (by omega)
def Mv:Sm R (mM J a b c R):=nK ((nK (Sm.refl _) (hM _)).trans (iQ _ _)) (Sm.refl _)
def QL:Stp R (Nh J R):=by unfold Nh;exact Sm.bk (iW (ee _) λ_ _=>iW (LU (Sm.refl _) (ee _)) λ_ _=>iW (LU (ee _) (Sm.refl _)) λ_ _=>(nK (kI _ _) (Sm.refl _)).trans (Mv)) (by grind)
def US(R:RS):Stp R (balR R):=by
 unfold balR;refine ky (ee _) λa S h=>?_;split
 .rename_i C;exact h.cA (by omega) C (By (iG _ _).2 (by omega)) (by grind[kK]) (by grind[kK]) qp (by grind[lh]) (iQ _ _)
 exact h.bk (by omega)
def J9(R:RS):Stp R (FO R):=by grind[FO,Sm.bk,iW,ee,iQ]
def OS:Stp R (lU J R):=by
 unfold lU;split
 .grind[Sm.bk,iQ]
 .exact US R
 .grind[Sm.bk,iQ]
 .grind[Sm.bk,iQ]
 .exact J9 R
 .grind[Sm.bk,iQ]
 .grind[oy]
 .grind[Sm.bk,iQ]
 .grind[oy]
 .grind[Sm.bk,iQ]
 .grind[oy]
 exact Stp.halt (hM R).bj (by show(3:Nat)≠0;omega)
def UG(br:Bool)(a k v:Nat)(P:RW):(mT br a k v P).sl.length<=P.sl.length+1/\(mT br a k v P).pu=P.pu/\(mT br a k v P).lg=P.lg:=by grind[mT,List.set]
def SU{v:Nat}(h:Cd P):Cd (mT br a k v P):=by
 unfold mT;cases H:P.sl.findIdx? (ly br a k)with
 |some i=>refine⟨h.1,h.2.1,?_⟩;have e:(P.sl.set i {P.sl.getD i ⟨0,0,0,false⟩with val:=v}).map skey=P.sl.map _:=map_set W;show((P.sl.set i _).map _).Pairwise _;rw[e];exact h.2.2
 |none=>refine⟨h.1,h.2.1,?_⟩;show((P.sl++[_]).map _).Pairwise _;rw[XP];refine XW.2 ⟨h.2.2,XO _ _,λb E c D=>?_⟩;obtain⟨p,G,rfl⟩:=Xq.1 E;rw[BY.1 D];exact Bool.eq_false_iff.2 λC=>by have:=Y9.1 H p G;rw[show ly br a k p=true from C]at this;grind
theorem TI(br:Bool)(a k v:Nat)(P:RW):gF (mT br a k v P)<=gF P+if br=true then 0 else 1:=by
 unfold mT gF;cases D:P.sl.findIdx? (ly br a k)with
 |some i=>have C:=(YE.1 D).1;grind
 |none=>grind
theorem JY(br:Bool)(c:Nat)(H:100<=c)(E:br=false->200<=c)(R:RS):Stp R (wi br c R):=by
 unfold wi;refine ky (ee _) λk S h=>ky (h.trans (ee _)) λv S h=>?_;have C:Sm _ (if S.aR=true then fA S else S):=h.trans (nK (hM _) (Sm.refl _));generalize(if S.aR=true then fA S else S)=T at C⊢;unfold v7;split
 .rename_i G;let⟨D,I,L⟩:=UG br T.ak k v T.w;exact C.cA H G (by grind) D (by grind) SU (by grind[TI]) (Sm.refl _)
 exact C.bk (by omega)
theorem Qg(br:Bool)(c:Nat)(C:100<=c)(R:RS):Stp R (BL br c R):=by unfold BL;exact Sm.bk (iW (ee _) λ_ _=>nK (iQ _ _) (Sm.refl _)) (by omega)
def Ka:Stp R (rK J R):=by unfold rK;grind[Qg,JY]
def Oz:Stp R (I1 J p R):=by
 unfold I1;split
 .exact Ff (ee _) (by omega)
 .refine ky (ee _) λa S h=>ky (h.trans (ee _)) λb S h=>?_;split
  .exact h.bk (by omega)
  grind[Ff]
 .grind[Sm.bk,iQ]
 .grind[Sm.bk,iQ]
 .grind[Sm.bk,iQ]
 grind[Sm.bk,Sm.refl]
def Kv(C:J<=159):Stp R (uI J R):=by
 unfold uI;split
 .unfold xD;refine(Sm.bk (iQ _ _) (by omega)).cM λ_=>LZ ?_;have:(dU 3 R).pc=R.pc:=by have:=Xl RS.pc (vb 3 R);exact this
  omega
 split
 .exact Sm.bk (nK (hM _) (iQ _ _)) (by omega)
 exact Sm.bk (nK (hM _) ⟨W,DO _,id,W⟩) (by omega)
def Tt:Stp R (Gf n R):=by
 unfold Gf;refine ky ((E8 _).trans (ee _)) λa S h=>ky (h.trans (ee _)) λs S h=>ky (h.trans ((kI _ _).trans (gy _ _ _))) λq S h=>ky (h.trans (tS _ _ _)) λC S h=>?_;unfold DH;split
 .rename_i D;exact h.cA (P:={S.w with lg:=S.w.lg++[⟨_,C,dI _⟩]}) (by omega) D (X7 _ _) (X7 _ _) (by simp) id (X7 _ _) (Sm.refl _)
 exact h.bk (by omega)
def J6:Stp R (AD R):=by unfold AD;exact Sm.bk (iW (ee _) λ_ _=>iW (gy _ _ _) λ_ _=>nK (iQ _ _) (Sm.refl _)) (by omega)
def zY:Stp R (va n R):=by unfold va;exact Sm.bk (iW (ee _) λ_ _=>iW (gy _ _ _) λ_ _=>iW (ee _) λ_ _=>nK (EE) (Sm.refl _)) (by omega)
def DD(E:∀G,Pot G (run G))(p:Nat)(R:RS)(D:J≠0):Stp R (eE run J p R):=by
 unfold eE;rw[iF D];by_cases C:J<30
 .rw[At C];exact QL
 rw[iF C];by_cases C:J<63
 .rw[At C];exact OS
 rw[iF C];by_cases C:J=80
 .rw[At C];exact Sm.bk (ee _) (by omega)
 rw[iF C];by_cases C:J=81
 .rw[At C];exact J6
 rw[iF C];by_cases C:J=82
 .rw[At C];exact zY
 rw[iF C];by_cases C:J=83
 .rw[At C];exact zY
 rw[iF C];by_cases C:J=84\/J=85\/J=92\/J=93
 .rw[At C];exact Ka
 rw[iF C];by_cases C:86<=J/\J<=91
 .rw[At C];exact Oz
 rw[iF C];by_cases C:J=94
 .rw[At C];exact oy
 rw[iF C];by_cases C:95<=J/\J<=159
 .rw[At C];exact Kv C.2
 rw[iF C];by_cases C:160<=J/\J<=164
 .rw[At C];exact Tt
 rw[iF C];by_cases C:J=241\/J=244\/J=250
 .rw[At C];exact Px E
 rw[iF C];by_cases C:J=243
 .rw[At C];exact EC (by omega)
 rw[iF C];by_cases C:J=253
 .rw[At C];exact EC (by omega)
 rw[iF C];exact Stp.halt (hM R).bj (by show(3:Nat)≠0;omega)
def stp_at(L:∀G,Pot G (run G))(R:RS)(O:R.pc<=2000)(I:R.ae.size<=1000):Pot R (eE run (FL R) R.pc {R with pc:=R.pc+1})/\((eE run (FL R) R.pc {R with pc:=R.pc+1}).ao=0->(eE run (FL R) R.pc {R with pc:=R.pc+1}).ac<R.ac/\(eE run (FL R) R.pc {R with pc:=R.pc+1}).pc<=2000):=by
 by_cases C:FL R=0
 .rw[C];exact⟨⟨W,W,W,DO _,DO _,DO _,DO _,id,DO _,id,id⟩,λe=>(by cases e)⟩
 have h:=DD L R.pc {R with pc:=R.pc+1} C;have D:R.pc<R.ae.size:=by apply Zc;intro E;apply C;unfold FL;rw[If,Ym (by grind[ik])];rfl
 refine⟨⟨h.bj.ae,h.bj.data,h.bj.depth,h.bj.ac,h.bj.pu,h.bj.sl,h.bj.lg,h.bj.bp,h.bj.ct,h.bj.aI,h.bj.aa⟩,λe=>⟨h.dn e,?_⟩⟩;have H:=h.pc e;grind
def Oj(D:∀G,Pot G (run G))(R:RS):Pot R (eE run (FL R) R.pc {R with pc:=R.pc+1}):=by
 by_cases C:FL R=0
 .rw[C];exact⟨W,W,W,DO _,DO _,DO _,DO _,id,DO _,id,id⟩
 have h:=(DD D R.pc {R with pc:=R.pc+1} C).bj;exact⟨h.ae,h.data,h.depth,h.ac,h.pu,h.sl,h.lg,h.bp,h.ct,h.aI,h.aa⟩
theorem CX{run:RS->RS}(C:∀G,Pot G (run G)):∀(k:Nat)(R:RS),Pot R (lH run k R)
 |0,R=>Pot.refl R
 |k+1,R=>by
  unfold lH;split
  .exact(Oj C R).trans (CX C k _)
  exact Pot.refl R
theorem sU:∀(d:Nat)(R:RS),Pot R (iR d R)
 |0,R=>Pot.refl R
 |d+1,R=>by
  show Pot R (EH _);refine(CX (sU d) (R.ac+1) R).trans ?_;generalize lH (iR d) (R.ac+1) R=S;unfold EH;split
  .exact⟨W,W,W,In _,by simp,by simp,by simp,id,by simp,id,λ_=>In _⟩
  exact Pot.refl S
end
section
variable {b b2:Nat}
def BF(x:WD){T:Nat}:rowL (x.alloc (.cells cs.toArray T)) x.heap.size T cs:=World.rowIs_alloc x cs.toArray T _ (λi D=>by grind)
def PW.sl{O:Nat}{V:DV}{y:WD}(h:PW O P V y)(U:O<=y.heap.size):∃D c1 E c2 a3 c3,V.pv=.slice D P.pu.length c1/\V.lv=.slice E P.sl.length c2/\V.gv=.slice a3 P.lg.length c3:=by have Q:=h _ _ (BF y) (ai (dO _ y) _) U;let⟨D,c1,G⟩:=dt Q.pu;let⟨E,c2,J⟩:=dt Q.sl;let⟨a3,c3,I⟩:=dt Q.lg;grind
structure GoodR(R:RS):Prop where
 ae:R.ae.size<=1000
 data:R.data.size<=70000
 aI:R.aI.size<=70000
 aa:R.aa.size<=70000
 pc:R.pc<=2000
 aS:R.depth<=16
 bp:Cd R.w
 pu:50*R.w.pu.length+R.ac<=44000000000
 sl:100*R.w.sl.length+R.ac<=90000000000
 lg:R.w.lg.length+R.ac<=900000000
def WQ.copy{O Y:Nat}{V V':DV}{l:hZ}{x y:WD}(h:DW O Y P V x)(f:∀p∈l,rowL x p.1 p.2.1 p.2.2/\¬vu Y V p.1)(hn:(l.map (·.1)).Nodup)(e:V'.tv=V.tv)(Z:PW x.heap.size P V' y)(c:bW x y):WQ x.heap.size y.heap.size P l (y.alloc (.cells #[V'.pv,V'.lv,V'.gv] 146)):=by
 have E:Below _ y (y.alloc (.cells #[V'.pv,V'.lv,V'.gv] 146)):=ai (dO _ y) _;have d:=Z _ _ (BF y) E c.size;have G:=c.trans (E.mono c.size);refine⟨V',d,λp Z=>⟨(f p Z).1.below G,λg=>?_⟩,hn,G.size⟩;have I:=World.rowIs.lt (f p Z).1;have N:∀{e s n:Nat}{v:VL}{U:List _},(y.alloc (.cells #[V'.pv,V'.lv,V'.gv] 146)).ownsRow x.heap.size e s v n U->v.ownBlock≠some p.1:=λQ j=>by have:=(Q.lt _ j).1;omega
 rcases g with D|D|D|D|⟨t,J,D⟩
 .have:=c.size;omega
 .exact N d.pu D
 .exact N d.sl D
 .exact N d.lg D
 exact(f p Z).2 (A4 (A4 (A4 (A4 ⟨t,e▸J,D⟩))))
def WQ.frame{O Y:Nat}{l:hZ}{x:WD}(h:WQ O Y P l x)(G:RS)(e:G.w=P)(U:G.st=[])(J:G.mem=[])(I:G.ac<=1000000):DQ O x.heap.size Y G l (x.alloc (.cells (yt G Y dL dL).toArray 159)):=by
 have D:Below _ x (x.alloc (.cells (yt G Y dL dL).toArray 159)):=ai (dO _ x) _;let⟨V,f,Z,Q,c⟩:=h;refine⟨_,_,V,⟨BF x,?_,?_,?_,λt _ k _ d=>(by cases d),c,By c D.size,I,by grind,by grind⟩,λp c=>⟨(Z p c).1.below D,λd=>?_⟩,Q⟩
 .rw[U];exact Xy _ _ _ _
 .rw[J];exact Xy _ _ _ _
 .rw[e];exact f.cB (Kb.h (S:=[]) D) (by simp)
 have E:=World.rowIs.lt (Z p c).1;rcases d with e|e|e|e|e
 .omega
 .exact(Z p c).2 (LZ e)
 .cases e
 .cases e
 exact(Z p c).2 (A4 e)
def Ho{x y:WD}{p:Addr}(h:Below b x y){v:VL}:Below b (x.setCell p v) (y.setCell p v):=⟨h.os,h.tape,h.output,by simpa[World.setCell]using h.size,λk D=>by simp only[World.setCell,Zq];rw[h.block k D]⟩
def DX(O H Y:Nat)(R:RS)(X C:VL)(V:DV)(l:hZ)(x:WD):=DA O H Y R X C V x/\(∀p∈l,rowL x p.1 p.2.1 p.2.2/\¬vU H Y X C V p.1)/\(l.map (·.1)).Nodup
section
variable {V:DV}
def DX.q(h:DX O H Y R X C V l x):DQ O H Y R l x:=⟨_,_,_,h⟩
def DX.below(h:DX O H Y R X C V l x)(D:Below x.heap.size x y):DX O H Y R X C V l y:=⟨h.1.below D,λp E=>⟨(h.2.1 p E).1.below D,(h.2.1 p E).2⟩,h.2.2⟩
theorem DX.aX(h:DX O H Y R X C V l x)(E:DA O H Y R' X C V y)(J:Kb S x y)(G:∀k∈S,vU H Y X C V k):DX O H Y R' X C V l y:=⟨E,λp I=>⟨J.row (h.2.1 p I).1 λD=>(h.2.1 p I).2 (G _ D),(h.2.1 p I).2⟩,h.2.2⟩
theorem DX.set(h:DX O H Y R X C V l x)(e:(yt R Y X C).set o v=yt R' Y X C)(D:R'.st=R.st)(I:R'.mem=R.mem)(E:R'.w=R.w)(G:R'.ac<=1000000):DX O H Y R' X C V l (x.setCell ⟨H,o,none⟩ v):=h.aX (S:=[H]) (h.1.set e D I E G) ((Kb.refl _ _).setCell AI v) λk J=>LZ (BY.1 J)
def DX.rows(h:DX O H Y R X C V l x):∃L:hZ,(∀k,X.ownBlock=some k->∃p∈L,p.1=k)/\(∀p∈L++l,rowL x p.1 p.2.1 p.2.2/\¬vu Y V p.1)/\((L++l).map (·.1)).Nodup/\∀p∈L,X.ownBlock=some p.1:=by -- hL3
 let⟨h,f,G⟩:=h;let⟨Q,D,s2,I,U⟩:=wL h.st;refine⟨Q,s2,λp Z=>?_,?_,λp Z=>(D p Z).1⟩
 .rcases Xr.1 Z with Z|Z
  .refine⟨(D p Z).2.2,λd=>?_⟩;have c:=Ty.aB (D p Z).2.2;rw[(D p Z).2.1]at c;rcases d with e|e|e|e|⟨t,E,e⟩
   .exact absurd (c.aF (e▸Ty.aB h.wa.row)) (by decide)
   .exact absurd (c.aF (Ty.az h.wa.pu e)) (by decide)
   .exact absurd (c.aF (Ty.az h.wa.sl e)) (by decide)
   .exact absurd (c.aF (Ty.az h.wa.lg e)) (by decide)
   exact h.tk t E _ e (D p Z).1
  exact⟨(f p Z).1,λd=>(f p Z).2 (d.elim (λe=>A4 (LZ e)) λe=>A4 (A4 (A4 (A4 e))))⟩
 rw[XP,X5];refine⟨I,G,λa J b c e=>?_⟩;obtain⟨p,Z,rfl⟩:=Xq.1 J;obtain⟨q,d,rfl⟩:=Xq.1 c;exact(f q d).2 (e▸A4 (A4 (LZ (D p Z).1)))
def DX.aY{E:DV}(h:DX O H Y R X C V l x)(Z:DW b2 xb P E x)(U:Kb S x y)(I:∀k∈S,k=H\/C.ownBlock=some k):DW b2 xb P E y:=Z.kb U λk G=>by
 have U:∀T,Ty x k T->T=159\/T=5:=λT U=>by
  rcases I k G with rfl|e
  .exact LZ (U.aF (Ty.aB h.1.row))
  exact A4 (U.aF (Ty.az h.1.me e))
 refine⟨λT Q=>?_,λt J e=>?_⟩
 .grind[OH]
 let⟨q,c⟩:=Z.tm J;rcases U _ (Ty.az c e)with D|D<;>exact absurd D (by decide)
end
def DX.adopt{O H Y D:Nat}{R G:RS}{X C:VL}{V E:DV}{l:hZ}{x:WD}(h:DX O H Y R X C V l x)(q:DW D xb G.w E x)(hb:O<=D)(K:∀p∈L++l,∀t∈E.tv,t.ownBlock≠some p.1)(N:∀k,X.ownBlock=some k->∃p∈L,p.1=k)(Z:∀k,vU H Y X C V k->k<D)(z:∀p∈l,p.1<D):DQ O H Y {R with w:=G.w} l (((x.setCell ⟨Y,0,none⟩ E.pv).setCell ⟨Y,1,none⟩ E.lv).setCell ⟨Y,2,none⟩ E.gv):=by
 let⟨h,F,T⟩:=h;let⟨y,A⟩:=hJ (((x.setCell ⟨Y,0,none⟩ E.pv).setCell ⟨Y,1,none⟩ E.lv).setCell ⟨Y,2,none⟩ E.gv);rw[<-A];have u:Kb [Y] x y:=by rw[A];exact(((Kb.refl _ _).setCell AI _).setCell AI _).setCell AI _
 have Q:=Ty.aB h.wa.row;have I:∀{b f size n:Nat}{v:VL}{xs:List _},f≠146->x.ownsRow b f _ v n xs->y.ownsRow b f size v n xs:=λg I=>u.aD I λk hb U=>by rw[BY.1 U]at hb;exact g ((Ty.az I hb).aF Q)
 have J:∀{f size n k:Nat}{v:VL}{xs:List _},x.ownsRow _ f size v n xs->v.ownBlock=some k->D<=k:=λI u=>(I.lt _ u).1;refine⟨X,C,E,⟨u.row h.row λU=>absurd ((Ty.aB h.row).aF (by rw[BY.1 U];exact Q)) (by decide),I (by decide) h.st,I (by decide) h.me,⟨(show rowL y Y 146 [E.pv,E.lv,E.gv] by rw[A];exact(((h.wa.row.set _).set _).set _:)),fO (I (by decide) q.pu) hb,fO (I (by decide) q.sl) hb,fO (I (by decide) q.lg) hb,q.tl,λi d t c j=>I (by decide) (q.tp i d t c j),h.wa.hb⟩,λt j k u m=>?_,h.hf,By h.hb u.size,h.gl,h.sl,h.ml⟩,λp c=>⟨u.row (F p c).1 λU=>(F p c).2 (by rw[BY.1 U];exact A4 (LZ W)),λhf=>?_⟩,T⟩
 .obtain⟨p,c,rfl⟩:=N k m;grind
 have Z:=z p c;rcases hf with e|e|e|e|e|e|e|⟨t,j,e⟩
 .exact(F p c).2 (LZ e)
 .exact(F p c).2 (A4 (LZ e))
 .exact(F p c).2 (A4 (A4 (LZ e)))
 .exact(F p c).2 (A4 (A4 (A4 (LZ e))))
 .have:=J q.pu e;omega
 .have:=J q.sl e;omega
 .have:=J q.lg e;omega
 grind
section
variable {V:DV}
def DA.cE(h:DA O H Y R X C V x)(Z:Kb [H] x y)(b:rowL y H 159 (yt R' Y X C))(G:R'.st=R.st)(I:R'.mem=R.mem)(P:R'.w=R.w)(Q:R'.ac<=1000000):DA O H Y R' X C V y:=by
 have D:=Ty.aB h.row;refine⟨b,?_,?_,?_,h.tk,h.hf,By h.hb Z.size,Q,by rw[G];exact h.sl,by rw[I];exact h.ml⟩
 .rw[G];exact Z.aD h.st λk hb E=>by rw[BY.1 E]at hb;exact absurd ((Ty.az h.st hb).aF D) (by decide)
 .rw[I];exact Z.aD h.me λk hb E=>by rw[BY.1 E]at hb;exact absurd ((Ty.az h.me hb).aF D) (by decide)
 rw[P];refine h.wa.kb Z λk E=>?_;rw[BY.1 E];refine⟨λT Z=>tyF (Z.aF D),λt U hb=>?_⟩;let⟨_,J⟩:=h.wa.tm U;exact absurd ((Ty.az J hb).aF D) (by decide)
def Qb(x:WD)(b o:Nat)(G E D v3:VL):Kb [b] x (sC (sC (sC (sC x b o G) b (o+1) E) b (o+2) D) b (o+3) v3):=((((Kb.refl _ _).setCell AI _).setCell AI _).setCell AI _).setCell AI _
def DQ.self4(h:DQ O H Y R l x)(n:Nat):DQ O H Y {R with ak:=n} l (sC (sC (sC (sC x H 4 (lu n 0)) H 5 (lu n 1)) H 6 (lu n 2)) H 7 (lu n 3)):=by let⟨X,C,V,h,G⟩:=h;have E:=Qb x H 4 (lu n 0) (lu n 1) (lu n 2) (lu n 3);exact DQ.aX G (h.cE E ((((h.row.set _).set _).set _).set _:) W W W h.gl) E (λk D=>LZ (BY.1 D)) (λk E=>LZ E)
def DQ.cK(h:DQ O H Y R l x)(n:Nat):DQ O H Y {R with ax:=n} l (sC (sC (sC (sC x H 8 (lu n 0)) H 9 (lu n 1)) H 10 (lu n 2)) H 11 (lu n 3)):=by let⟨X,C,V,h,G⟩:=h;have E:=Qb x H 8 (lu n 0) (lu n 1) (lu n 2) (lu n 3);exact DQ.aX G (h.cE E ((((h.row.set _).set _).set _).set _:) W W W h.gl) E (λk D=>LZ (BY.1 D)) (λk E=>LZ E)
def DQ.cQ(h:DQ O H Y R l x)(n:Nat):DQ O H Y {R with value:=n} l (sC (sC (sC (sC x H 12 (lu n 0)) H 13 (lu n 1)) H 14 (lu n 2)) H 15 (lu n 3)):=by let⟨X,C,V,h,G⟩:=h;have E:=Qb x H 12 (lu n 0) (lu n 1) (lu n 2) (lu n 3);exact DQ.aX G (h.cE E ((((h.row.set _).set _).set _).set _:) W W W h.gl) E (λk D=>LZ (BY.1 D)) (λk E=>LZ E)
def DX.nofb(h:DX O H Y R X C V l x)(D:∀p∈L,X.ownBlock=some p.1):∀p∈L++l,p.1≠H:=λp E e=>by
 rcases Xr.1 E with E|E
 .exact absurd ((Ty.az h.1.st (D p E)).aF (e▸Ty.aB h.1.row)) (by decide)
 exact(h.2.1 p E).2 (LZ e)
def DQ.frm(h:DQ O H Y R l x)(E:Ty x k 159)(hne:k≠H)(c:∀p∈l,p.1≠k)(U:Kb [k] x y):DQ O H Y R l y:=by
 let⟨X,C,V,h,Z,J⟩:=h;refine⟨X,C,V,h.kb U (λj D Q=>?_),λp P=>⟨U.row (Z p P).1 λD=>c p P (BY.1 D),(Z p P).2⟩,J⟩;rw[BY.1 D]at Q;have N:∀{b e size n:Nat}{v:VL}{I:List _},159≠e->x.ownsRow b e size v n I->v.ownBlock≠some k:=λhne G e=>hne (E.aF (Ty.az G e));rcases Q with e|e|e|e|e|e|e|⟨t,D,e⟩
 .omega
 .exact absurd (E.aF (e▸Ty.aB h.wa.row)) (by decide)
 .exact N (by decide) h.st e
 .exact N (by decide) h.me e
 .exact N (by decide) h.wa.pu e
 .exact N (by decide) h.wa.sl e
 .exact N (by decide) h.wa.lg e
 let⟨q,P⟩:=h.wa.tm D;exact N (by decide) P e
end
def FJ(a b:Nat):cP 188 #[iI (a:Int),iI (b:Int)] w (rT (iI ((min a b:Nat):Int)) w):=by
 by_cases h:a<b
 .have e:min a b=a:=by omega
  rw[e];clear e;go_enter func188,ntmps188;go_wp2;go_ret;exact⟨W,dO _ _⟩
 have e:min a b=b:=by omega
 rw[e];clear e;go_enter func188,ntmps188;go_wp2;go_ret;exact⟨W,dO _ _⟩
def PhP(w:WD)(Cq9:X4):Nat->X4
 |0,x=>bW w x
 |_,x=>Cq9 x
def Rb{Cq9:X4}(D:∀x x',Cq9 x->bW x x'->Cq9 x')(k:Nat)(x x':WD)(h:PhP w Cq9 k x)(E:bW x x'):PhP w Cq9 k x':=by
 match k,h with
 |0,h=>exact(h).trans (E.mono (h).size)
 |_+1,h=>exact D x x' h E
def move_D{O H Y:Nat}{R:RS}{l:hZ}{x:WD}(f t v:Nat)(h:DQ O H Y R l x)(hn:R.w.pu.length<=900000000):cP 69 #[pt Y,wv f,wv t,wv v] x (Dp O H Y {R with w:=(fP f t v R.w).2} (.bool (fP f t v R.w).1) l x):=h.calls λE D=>ML f t v D hn
def Mt{R:RS}(J Z v:Nat){q:Nat×Nat}(g:Nat)(D:GoodR R)(b:Ry.w=R.w)(c:Ry.depth=R.depth)(U:Ry.depth≠16)(j:q.2<=70000)(I:g+100<=R.ac):GoodR (uT J Z v q g Ry (mB (bc Z Ry.w).2 (bc Z Ry.w).1).ae (ow J Z v Ry).2):=by
 let⟨E,h,_⟩:=Iq J Z v Ry;have d:=D.aS;have P:=D.pu;have Q:=D.sl;have f:=D.lg;rw[<-b]at P Q f;rw[<-c]at d;have G:Cd Ry.w:=by rw[b];exact D.bp
 refine⟨Jp (qp G),By (mQ) j,In _,In _,In _,by show Ry.depth+1<=16;omega,E.bp G,?_,?_,?_⟩
 .show 50*(ow J Z v Ry).2.pu.length+g<=_;omega
 .show 100*(ow J Z v Ry).2.sl.length+g<=_;rw[E.sl];omega
 show(ow J Z v Ry).2.lg.length+g<=_;rw[E.lg];omega
variable {u q a:Nat}
def ff{x:WD}(h:bW x y){p:Addr}(C:x.cell? p=some v):y.cell? p=some v:=(Xc (h.block _ (Yb _ _ C))).trans C
def zA(L:s.tmps.getD t undef=.slice ad N E)(J:s.tmps.getD u undef=iI (a:Int))(H:s.tmps.getD q undef=iI ((a+b:Nat):Int))(Y:a+b<=N)(U:N<=E)(V:E<=9223372036854775807)(I:(ad=none/\E=0)\/∃g,ad=some ⟨g,0,none⟩)(D:∀r,PartOf (.slice ad N E) r a b->K (s.put (some d) r) x):Oper.wp prog ⟨some d,.slice 26 (.tmp t) (some (.tmp u)) (some (.tmp q)) none,ty,pos,af,gd⟩ s x K Q:=by
 have R:s.eval (.tmp t)=.slice ad N _:=L;have P:s.eval (.tmp u)=.int _ a:=J;have O:s.eval (.tmp q)=.int _ _:=H;rw[show((a+b:Nat):Int)=a+b by omega] at O H;rw[Xh] at L J H;rcases I with⟨rfl,X⟩|⟨g,rfl⟩
 .have C:E=a:=by omega
  have G:b=0:=by omega
  subst C G;have V:=D _ ⟨none,0,W,DO _,λh=>absurd W h⟩;clear D X;go_simp;exact V
 by_cases C:E=a
 .have V:=D (sL g b 0) ⟨_,0,W,by omega,λh=>by omega⟩;subst C;clear D;go_simp;rw[At (by omega),At (by omega),show((E:Int)+b).toNat - E=b by omega];exact V
 have V:=D (.slice _ b (E - a)) ⟨_,_,W,by omega,λ_=>⟨g,N,_,W,W,Y⟩⟩;clear D;go_simp;rw[At (by omega),At (by omega),show((a:Int)+b).toNat - a=b by omega];exact V
def Fs{r:VL}{C:BA}(h:tG s t r)(G:(convert 26 9 r).run prog x=.ok (.string C) x)(D:K (s.put (some d) (.string C)) x):Oper.wp prog ⟨some d,.convert 26 9 (.tmp t),ty,pos,af,gd⟩ s x K Q:=by have e:s.eval (.tmp t)=r:=h;unfold Oper.wp;rw[show(execOp _ _).run _ x=.ok _ x by show((do pure (Next.value (<-convert _ _ (s.eval (.tmp t)))):Sem Next)).run _ _=_;rw[e];exact zQ G];exact D
def st_eqK{a c:Int}{b:Bool}(h:tG s t (iI a))(D:(a==c)=b)(C:K (s.put (some d) (.bool b)) x):Oper.wp prog ⟨some d,.binOp .eql 3 (.tmp t) (.const (iI c)) 3,ty,pos,af,gd⟩ s x K Q:=by go_simp;exact C
def xr{g t4 t5 G D J t9 sf v c:Nat}{C:BA}{f:Bool}(P:s.tmps.getD g undef=pt xb)(R:s.tmps.getD t1 undef=.string cd)(O:s.tmps.getD t2 undef=.string C)(H:s.tmps.getD t4 undef=wv Z)(I:s.tmps.getD t5 undef=wv sf)(L:s.tmps.getD G undef=wv v)(U:s.tmps.getD D undef=iI (gv:Int))(X:s.tmps.getD J undef=iI ((c+1:Nat):Int))(Y:s.tmps.getD t9 undef=.bool f)(V:K (s.put (some d) (.agg #[pt xb,.string cd,.string C,.string ⟨#[]⟩,lu Z 0,lu Z 1,lu Z 2,lu Z 3,lu sf 0,lu sf 1,lu sf 2,lu sf 3,lu v 0,lu v 1,lu v 2,lu v 3,iI (gv:Int),iI ((c+1:Nat):Int),iI 0,iI 0,.bool f,.slice none 0 0,.slice none 0 0,.string ⟨#[]⟩])) x):Oper.wp prog ⟨some d,.build 159 #[(0,.tmp g),(1,.tmp t1),(2,.tmp t2),(4,.tmp t4),(5,.tmp t5),(6,.tmp G),(7,.tmp D),(8,.tmp J),(11,.tmp t9)],ty,pos,af,gd⟩ s x K Q:=by rw[Xh] at P R O H I L U X Y;unfold wv at H I L;go_simp;exact V
def Di{sf v G:Nat}{C:BA}{H:Bool}(h:s.tmps.getD t undef=.agg #[pt xb,.string cd,.string C,.string ⟨#[]⟩,lu Z 0,lu Z 1,lu Z 2,lu Z 3,lu sf 0,lu sf 1,lu sf 2,lu sf 3,lu v 0,lu v 1,lu v 2,lu v 3,iI (gv:Int),iI ((G+1:Nat):Int),iI 0,iI 0,.bool H,.slice none 0 0,.slice none 0 0,.string ⟨#[]⟩])(D:K (s.put (some d) (pt x.heap.size)) (x.alloc (.cells #[pt xb,.string cd,.string C,.string ⟨#[]⟩,lu Z 0,lu Z 1,lu Z 2,lu Z 3,lu sf 0,lu sf 1,lu sf 2,lu sf 3,lu v 0,lu v 1,lu v 2,lu v 3,iI (gv:Int),iI ((G+1:Nat):Int),iI 0,iI 0,.bool H,.slice none 0 0,.slice none 0 0,.string ⟨#[]⟩] 159))):Oper.wp prog ⟨some d,.box 159 (.tmp t),ty,pos,af,gd⟩ s x K Q:=by rw[Xh] at h;go_simp;exact D
end
end cin
end Go.Proofs.YtohoajjdoihekaaGreatDoor
