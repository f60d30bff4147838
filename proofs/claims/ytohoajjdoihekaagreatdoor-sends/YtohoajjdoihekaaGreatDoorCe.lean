import Derived.Test.YtohoajjdoihekaaGreatDoorYgda
import Derived.Test.YtohoajjdoihekaaGreatDoorCards
import Derived.Test.YtohoajjdoihekaaGreatDoorTie
import Derived.Deep.RegionHeld3
import Derived.ProofKit
import Derived.OpenShut
import Derived.ChangeOld
import Derived.Below
import Derived.Laws.IdiomArrays
import Derived.Deep.Slices
import Derived.LaidMore
import Derived.ChangeMaps5
import Derived.SevenTiedAt
import Derived.Deep.DeepHandedRow
set_option linter.unusedVariables false
set_option linter.unusedSimpArgs false
set_option linter.defProp false
namespace Go.Proofs.YtohoajjdoihekaaGreatDoor
namespace cin
open Go.RowKit Go.Maps Go.Proofs.Tryz Tryz
set_option maxRecDepth 100000
set_option maxHeartbeats 8000000
variable {run:RS->RS}{tr Ry R:RS}{y x x' w:WD}{Z q1 q2 o1 o2 gv b1 gs O H Y a n J p d hb fr g b i gb ab t r e st pb mb U sz bb q c o m off Nq9 ocp u j len E gg k N cp:Nat}{u2 u3 u7 u8 u9 u10 u11 u17 u19 u12 u13 u1 pv lv v u4 u6 sc:VL}{l:hZ}{Q:Y6}{pu:List Pur}{sl:List Slt}{data aa:BA}{wk:Wk}{F F':Fz}{T T':TS}{A:Nat->Acc}{P:RW}{sb:Vp}{q':List Rs}{tv xs ps:Tn}{s:Act}{pos:String}{af:U9}{gd:U6}{K:K6}{er:Int}{P0 Jq9:X4}{Zq9:Nat->X4}{D2:Nat->VL->X4}{I:Vm}{es:Es}{oad:Gj}{ty:Vr}{args:Ys}
section
variable {b2 b3:Nat}
def call_3{v:Nat}(J:Nat)(f8:Hd (∀G,Pot G<|run G))(d1:Hd<|pW run R.depth)(f:Hd<|GoodR R)(N:Hd<|Cb R Ry q1 q2 o1 o2 gv)(f9:Hd<|tr=D3 run J Z v (q1,q2) (o1,o2) gv Ry)(u:Hd<|Sx O H Y x Ry Ry (bx b3 v::bx b2 Z::bx b1 gs::l) y){c u20:VL}{a:Act}(A:Frm [pt H,iI (J:Int),u2,u3,pt b1,pt b2,pt b3,u7,u8,u9,u10,u11,iI (q1:Int),iI (q2:Int),iI (o1:Int),iI (o2:Int),iI (gv:Int),u17,c,u19,u20] 234 a):Code.wp prog (WT 19<|f131.body.getD .skip) (bodyPost prog f131<|Dp O H Y tr (.tuple #[]) l x) a y:=by
 apply A.op;clear A;iterate 234 intro
 simp only[po,XN,XG];conv=>arg 2;whnf
 have hpu:=f.aa.pu;have hsl:=f.aa.sl;have c:=f.aa.lg;rw[<-N.aa.w]at hpu hsl c;have b7:=N.aa.fq;have c:Ry.mem.length<=65568:=by let⟨_,_,_,c,_⟩:=u.aa.q.ex;exact c
 have c9:Ry.depth<=16:=by rw[N.aa.aS];exact f.aa.aS
 have hgl:=By N.gv u.q.ac;have HB:=cV u.b;let⟨X,C,V,c⟩:=u.aa.q;have c0:=(u.q.cell (o:=0)<|λ_ _=>W).1;have e0:=c.1.wa.row.cell (i:=0) W;have e1:=c.1.wa.row.cell (i:=1) W;have e2:=c.1.wa.row.cell (i:=2) W;let⟨L,b6,f4,f7,a7⟩:=DX.rows c;replace a7:=cV a7;replace b6:=cV b6;have HF:Hd (DX O H Y Ry X C V _ y):=c;have e8:=cV<|aIn f4 f7;clear c f4 f7 u;go_wp2_with fail
 refine(Ow HF.1.wa wq wq wq).mono ?_;rintro e y9⟨V9,rfl,d6,d3,c⟩;let⟨a1,k1,a2,k2,a3,k3,u,s2,s3⟩:=d3.sl c.size;let⟨pv9,lv9,gv9,tv9⟩:=V9;dsimp only at d6 u s2 s3;subst u s2 s3;have u:=cV<|WQ.copy HF.1.wa e8.1 e8.2 d6 d3 c;have m:=cV<|c.trans<|(ai (dO _ y9)<|.cells #[.slice a1 Ry.w.pu.length k1,.slice a2 Ry.w.sl.length k2,.slice a3 Ry.w.lg.length k3] 146).mono c.size;let⟨t0,t1,t2,t3,_⟩:=(HF.below m).q.tail.aJ;clear d3 d6 c e0 e1 e2 c0;go_wp2_with fail
 refine(qE Z u).mono ?_;rintro e U⟨rfl,hQ,c8⟩;let⟨a9,f6⟩:=iG Z Ry.w;let⟨pi,e7⟩:=dP<|(ag Z Ry.w).1;let⟨P1,c⟩:=dP<|(ag Z Ry.w).2;rw[<-e7.aa,<-c.aa]at a9;rw[<-c.aa]at f6 hQ;rw[<-e7.aa];obtain⟨cd,e5⟩:∃cd:BA,Hd (cd=P1.pu[pi].ae):=⟨_,cV W⟩
 have g1:cd=(mB (ag Z Ry.w).2 (ag Z Ry.w).1).ae:=by rw[e5.aa,<-c.aa,<-e7.aa,sd _]
 replace u:=cV hQ;replace m:=cV<|m.trans c8;let⟨xb,HXB⟩:=dP y9.heap.size;rw[<-HXB.aa]at u⊢;clear hQ c8 t0 t1 t2 t3;obtain⟨G0,j⟩:∃G0:RS,Hd (G0={uT J Z v (q1,q2) gv Ry cd P1 with ak:=Z,ax:=Ry.ak,value:=v}):=⟨_,W⟩
 have b9:Hd (G0={uT J Z v (q1,q2) gv Ry (mB (ag Z Ry.w).2 (ag Z Ry.w).1).ae (ag Z Ry.w).2 with ak:=Z,ax:=Ry.ak,value:=v}):=by rwa[<-g1,<-c.aa]
 clear g1;have c:=HF.aa.below m;let⟨g9,d0,j0,f5⟩:=u.aa.ps a9;have j8:cL U g9 (pi*9+8) (.string cd):=by rw[e5.aa];exact f5 8 _ wq W
 let⟨N9,e4⟩:=dP P1.pu.length;rw[<-e4.aa]at j0;have f3:pi<N9:=by rw[e4.aa];exact a9
 let⟨sf,d4⟩:=dP Ry.ak;obtain⟨c4,c5,c6,c7⟩:U.cell? _=some (lu sf 0)/\U.cell? _=some (lu sf 1)/\U.cell? _=some (lu sf 2)/\U.cell? _=some (lu sf 3):=by rw[d4.aa];exact⟨(c.q.cell (o:=4)<|λ_ _=>W).1,(c.q.cell (o:=5)<|λ_ _=>W).1,(c.q.cell (o:=6)<|λ_ _=>W).1,(c.q.cell (o:=7)<|λ_ _=>W).1⟩
 have e6:=(c.q.cell (o:=17)<|λ_ _=>W).1;have f0:=(c.q.cell (o:=20)<|λ_ _=>W).1;let⟨dp,b0⟩:=dP Ry.depth;have Bp:dp<=16:=by rw[b0.aa];exact c9
 rw[<-b0.aa]at e6;let⟨rd,d9⟩:=dP Ry.aR;rw[<-d9.aa]at f0;let⟨b5,e9⟩:=dP<|(J==250);have d5:((J:Int)==250)=b5:=by
  rw[e9.aa];by_cases h:J=250
  .rw[h];rfl
  rw[Xb.2 h];exact Xb.2 wq
 let⟨g5,g0,f1,g4,_⟩:=c.q.aJ;let⟨t0,t1,t2,t3,_⟩:=c.q.tail.aJ;let⟨F,d7⟩:=dP<|dI<|dM Ry.mem q1 q2;have f2:=c.1.row.cell (i:=22) W;have a8:=cV c.1.me;let⟨g3,E,S⟩:=dt a8.aa;have t:Hd (((g3=none/\E=0)\/∃g,g3=some ⟨g,0,none⟩)/\Ry.mem.length<=E/\E<=9223372036854775807):=by
  rcases a8.aa.2 with⟨e,h0⟩|⟨g,cap',cur,e,_,_,h4,h5,_⟩
  .rw[S]at e;injection e with e1 e2 e3;exact⟨LZ ⟨e1,e3⟩,wq,wq⟩
  rw[S]at e;injection e with e1 e2 e3;subst e3;exact⟨A4 ⟨g,e1⟩,h4,by unfold maxLen at h5;omega⟩
 replace j:Hd (G0=⟨cd,F,⟨_⟩,Z,sf,v,gv,dp+1,0,0,rd||b5,[],[],⟨_⟩,P1⟩):=j.aa.trans (by rw[d7.aa,d4.aa,b0.aa,d9.aa,e9.aa];rfl);have d8:Hd (∀z,Below _ _ z->DQ y.heap.size z.heap.size xb G0 (L++(bx b3 v::bx b2 Z::bx b1 gs::l)) _):=λz hz=>(u.below hz).frame G0 (by rw[j.aa]) (by rw[j.aa]) (by rw[j.aa]) (by rw[j.aa];exact hgl);rw[j.aa]at d8;clear f5 d4 b0 d9 e9 u e8 a9 f6 e4 e5 c9 c;replace S:=cV S;go_wp2;rename_i hgo;cases rd
 .refine jB (λx x'=>bW x x') (λx=>dO _ x) (λ_ x=>bW U x) (λ_ _ _ _=>True) [(0,(pt H)),(1,(iI (J:Int))),(5,(pt b2)),(6,(pt b3)),(12,(iI (q1:Int))),(13,(iI (q2:Int))),(16,(iI (gv:Int))),(18,(pt xb)),(19,(iI (pi:Int)))] [(some 108,.v<|pt xb),(some 109,.v<|sL g9 N9 d0),(some 110,.v<|iI (pi:Int)),(some 111,.v<|pq g9<|pi*9),(some 112,.v<|pq g9<|pi*9+8),(some 113,.v<|.string cd),(some 114,.v<|pt H),(some 115,.v<|pt H),(some 116,.v<|pq H 22),(some 117,.v C),(some 118,.v<|iI (q1:Int)),(some 119,.v<|iI (q1:Int)),(some 120,.v<|iI (q2:Int)),(some 121,.v<|iI ((q1+q2:Nat):Int)),(some 122,.l<|λ_ v _=>PartOf C v q1 q2),(some 123,.v<|.string F),(some 124,.v<|wv Z),(some 125,.v<|pt H),(some 126,.v<|pt H),(some 127,.v<|pq H 4),(some 128,.v<|wv sf),(some 129,.v<|wv v),(some 130,.v<|iI (gv:Int)),(some 131,.v<|pt H),(some 132,.v<|pt H),(some 133,.v<|pq H 17),(some 134,.v<|iI (dp:Int)),(some 135,.v<|iI ((dp+1:Nat):Int)),(some 136,.v<|pt H),(some 137,.v<|pt H),(some 138,.v<|pq H 20),(some 139,.v<|.bool false),(some 140,.v<|.bool false),(some 141,.v<|iI (J:Int)),(some 142,.v<|.bool b5),(some 143,.v<|.bool b5),(some 144,.v<|.agg #[pt xb,.string cd,.string F,.string ⟨#[]⟩,lu Z 0,lu Z 1,lu Z 2,lu Z 3,lu sf 0,lu sf 1,lu sf 2,lu sf 3,lu v 0,lu v 1,lu v 2,lu v 3,iI (gv:Int),iI ((dp+1:Nat):Int),iI 0,iI 0,.bool b5,.slice none 0 0,.slice none 0 0,.string ⟨#[]⟩]),(some 145,.l (λ_ u0 x=>∃c,u0=pt c/\DQ y.heap.size c xb G0 (L++(bx b3 v::bx b2 Z::bx b1 gs::l)) x/\bW y x)),(some 20,.l (λ_ u0 x=>∃c,u0=pt c/\DQ y.heap.size c xb G0 (L++(bx b3 v::bx b2 Z::bx b1 gs::l)) x/\bW y x))] [] [1,3,5,9,13,14,15,16,20,21,26,27,31,34,36,37,38] [] K2 K2 ((dO _ _).drew) (λk x x' h u=>h.trans<|u.mono h.size)
    True.intro
    ⟨(λ_ D I P=>dm (I W) (ff D j0)<|kx P),(λ_ D I P=>by
     have Q:Below _ _ _:=D;exact mA 9 (I W) (I W) f3<|kx P),(λ_ D I P=>dm (I W) (ff D j8)<|kx P),(λ_ D I P=>by
     have Q:Below U.heap.size _ _:=D;exact dm (v:=C) (I W) (ff Q f2)<|kx P),(λ_ _ I P=>BM (I W) (I W) wq<|kx P),(λ_ D I P=>by
     have Q:Below U.heap.size _ _:=D;exact zA ((I W).trans S.aa) (I W) (I W) b7 t.aa.2.1 t.aa.2.2 t.aa.1<|λr hr=>P _ _ (dO _ _) nn1 (by rw[S.aa];exact hr)),(@λk s x hk a0 a4 hl K a5 D I P=>by
     have Q:Below _ _ x:=D;have hp:=hl 122 _ W;have hr:=(PartOf.bD hp (dh a8.aa Q) b7).bJ;rw[show(⟨_⟩:BA)=F from d7.aa.symm]at hr;exact Fs W hr<|kx P),(λ_ D I P=>dD (n:=Z) (I W) (ff D t0) (ff D t1) (ff D t2) (ff D t3)<|kx P),(λ_ D I P=>by
     have Q:Below _ _ _:=D;exact dD (n:=sf) (I W) (ff Q c4) (ff Q c5) (ff Q c6) (ff Q c7)<|kx P),(λ_ D I P=>dD (n:=v) (I W) (ff D g5) (ff D g0) (ff D f1) (ff D g4)<|kx P),(λ_ D I P=>by
     have Q:Below _ _ _:=D;exact dm (I W) (ff Q e6)<|kx P),(λ_ _ I P=>JD dp 1 wq wq (I W)<|kx P),(λ_ D I P=>by
     have Q:Below _ _ _:=D;exact dm (I W) (ff Q f0)<|kx P),(λ_ _ I P=>st_eqK (I W) d5<|kx P),(λ_ D I P=>by
     have Q:Below _ _ _:=D;exact xr (I W) (I W) (I W) (I W) (I W) (I W) (I W) (I W) (I W)<|kx P),(@λk s x hk a0 a4 hl K a5 D I P=>by
     have Q:Below _ _ x:=D;refine Di (I W) (P _ _ (ai (dO _ x) _) nn1 ⟨x.heap.size,W,?_,?_⟩)
     .rw[j.aa];exact d8 x Q
     exact m.trans<|(Q.mono m.size).trans<|(ai (dO _ x) _).mono<|By m.size Q.size),(@λk s x hk a0 a4 hl K a5 D I P=>nY _ 20 W<|P _ x (dO _ _) nn1<|hl _ _ W),AF⟩
    (λ_ _ _ _ _ _ _ _ _ h=>absurd h<|Nat.not_lt_zero _) (λi d T' he p v x x' D u hT=>by
     have hm:=Xe he;simp only[IF,XV,reduceCtorEq,Zb,Za,XI,Xk,En.l.injEq]at hm;rcases hm with⟨-,rfl⟩|⟨-,rfl⟩|⟨-,rfl⟩
     .exact hT
     .obtain⟨c,e,h1,T⟩:=hT;exact⟨c,e,h1.below u,T.trans<|u.mono T.size⟩
     let⟨c,e,h1,T⟩:=hT;exact⟨c,e,h1.below u,T.trans<|u.mono T.size⟩) ?_
  intro gg z hz hT;let⟨c,e,h1,T⟩:=hT 38 _ _ W;simp only[n8,sx9];rw[e];exact hgo _ _<|Jt J f8 d1 f N HF b6 a7 HB T h1 b9 f9 ⟨_,W,W⟩
 refine jB (λx x'=>bW x x') (λx=>dO _ x) (λ_ x=>bW U x) (λ_ _ _ _=>True) [(0,(pt H)),(1,(iI (J:Int))),(5,(pt b2)),(6,(pt b3)),(12,(iI (q1:Int))),(13,(iI (q2:Int))),(16,(iI (gv:Int))),(18,(pt xb)),(19,(iI (pi:Int)))] [(some 108,.v<|pt xb),(some 109,.v<|sL g9 N9 d0),(some 110,.v<|iI (pi:Int)),(some 111,.v<|pq g9<|pi*9),(some 112,.v<|pq g9<|pi*9+8),(some 113,.v<|.string cd),(some 114,.v<|pt H),(some 115,.v<|pt H),(some 116,.v<|pq H 22),(some 117,.v C),(some 118,.v<|iI (q1:Int)),(some 119,.v<|iI (q1:Int)),(some 120,.v<|iI (q2:Int)),(some 121,.v<|iI ((q1+q2:Nat):Int)),(some 122,.l<|λ_ v _=>PartOf C v q1 q2),(some 123,.v<|.string F),(some 124,.v<|wv Z),(some 125,.v<|pt H),(some 126,.v<|pt H),(some 127,.v<|pq H 4),(some 128,.v<|wv sf),(some 129,.v<|wv v),(some 130,.v<|iI (gv:Int)),(some 131,.v<|pt H),(some 132,.v<|pt H),(some 133,.v<|pq H 17),(some 134,.v<|iI (dp:Int)),(some 135,.v<|iI ((dp+1:Nat):Int)),(some 136,.v<|pt H),(some 137,.v<|pt H),(some 138,.v<|pq H 20),(some 139,.v<|.bool true),(some 140,.v<|.bool true),(some 141,.v undef),(some 142,.v undef),(some 143,.v<|.bool true),(some 144,.v<|.agg #[pt xb,.string cd,.string F,.string ⟨#[]⟩,lu Z 0,lu Z 1,lu Z 2,lu Z 3,lu sf 0,lu sf 1,lu sf 2,lu sf 3,lu v 0,lu v 1,lu v 2,lu v 3,iI (gv:Int),iI ((dp+1:Nat):Int),iI 0,iI 0,.bool true,.slice none 0 0,.slice none 0 0,.string ⟨#[]⟩]),(some 145,.l (λ_ u0 x=>∃c,u0=pt c/\DQ y.heap.size c xb G0 (L++(bx b3 v::bx b2 Z::bx b1 gs::l)) x/\bW y x)),(some 20,.l (λ_ u0 x=>∃c,u0=pt c/\DQ y.heap.size c xb G0 (L++(bx b3 v::bx b2 Z::bx b1 gs::l)) x/\bW y x))] [] [1,3,5,9,13,14,15,16,20,21,26,27,31,36,37,38] [33,34] (by intro i hi;simp at hi;rcases hi with rfl|rfl<;>exact⟨_,W⟩) K2 ((dO _ _).drew) (λk x x' h u=>h.trans<|u.mono h.size)
   True.intro
   ⟨(λ_ D I P=>dm (I W) (ff D j0)<|kx P),(λ_ D I P=>by
    have Q:Below _ _ _:=D;exact mA 9 (I W) (I W) f3<|kx P),(λ_ D I P=>dm (I W) (ff D j8)<|kx P),(λ_ D I P=>by
    have Q:Below _ _ _:=D;exact dm (v:=C) (I W) (ff Q f2)<|kx P),(λ_ _ I P=>BM (I W) (I W) wq<|kx P),(λ_ D I P=>by
    have Q:Below _ _ _:=D;exact zA ((I W).trans S.aa) (I W) (I W) b7 t.aa.2.1 t.aa.2.2 t.aa.1<|λr hr=>P _ _ (dO _ _) nn1 (by rw[S.aa];exact hr)),(@λk s x hk a0 a4 hl K a5 D I P=>by
    have Q:Below _ _ x:=D;have hp:=hl 122 _ W;have hr:=(PartOf.bD hp (dh a8.aa Q) b7).bJ;rw[show(⟨_⟩:BA)=F from d7.aa.symm]at hr;exact Fs W hr<|kx P),(λ_ D I P=>dD (n:=Z) (I W) (ff D t0) (ff D t1) (ff D t2) (ff D t3)<|kx P),(λ_ D I P=>by
    have Q:Below U.heap.size _ _:=D;exact dD (n:=sf) (I W) (ff Q c4) (ff Q c5) (ff Q c6) (ff Q c7)<|kx P),(λ_ D I P=>dD (n:=v) (I W) (ff D g5) (ff D g0) (ff D f1) (ff D g4)<|kx P),(λ_ D I P=>by
    have Q:Below U.heap.size _ _:=D;exact dm (I W) (ff Q e6)<|kx P),(λ_ _ I P=>JD dp 1 wq wq (I W)<|kx P),(λ_ D I P=>by
    have Q:Below U.heap.size _ _:=D;exact dm (I W) (ff Q f0)<|kx P),(λ_ _ I P=>xr (I W) (I W) (I W) (I W) (I W) (I W) (I W) (I W) (I W)<|kx P),(@λk s x hk a0 a4 hl K a5 D I P=>by
    have Q:Below U.heap.size _ x:=D;refine Di (I W) (P _ _ (ai (dO _ x) _) nn1 ⟨x.heap.size,W,?_,?_⟩)
    .rw[j.aa];exact d8 x Q
    exact m.trans<|(Q.mono m.size).trans<|(ai (dO _ x) _).mono<|By m.size Q.size),(@λk s x hk a0 a4 hl K a5 D I P=>nY 145 20 W<|P _ x (dO _ _) nn1<|hl _ _ W),AF⟩
   (λ_ _ _ _ _ _ _ _ _ h=>absurd h<|Nat.not_lt_zero _) (λi d T' he p v x x' D u hT=>by
    have hm:=Xe he;simp only[IF,XV,reduceCtorEq,Zb,Za,XI,Xk,En.l.injEq]at hm;rcases hm with⟨-,rfl⟩|⟨-,rfl⟩|⟨-,rfl⟩
    .exact hT
    .obtain⟨c,e,h1,T⟩:=hT;exact⟨c,e,h1.below u,T.trans<|u.mono T.size⟩
    let⟨c,e,h1,T⟩:=hT;exact⟨c,e,h1.below u,T.trans<|u.mono T.size⟩) ?_
 intro gg z hz hT;let⟨c,e,h1,T⟩:=hT 38 _ _ W;simp only[n8,sx9];rw[e];exact hgo _ _<|Jt J f8 d1 f N HF b6 a7 HB T h1 b9 f9 ⟨_,W,W⟩

def call_2{z:RS}{v:Nat}(J:Nat)(hrp:Hd (∀G,Pot G<|run G))(F:Hd<|pW run R.depth)(X:Hd<|GoodR R)(C:Hd<|tr=du (dA z) λa R=>du (dA R) λn R=>du (dA R) λr R=>du (dA R) λon R=>du (dJ a n R) λq R=>du (dJ r on R) λo R=>Bu run J gs Z v q o R)(D:Hd<|Sx O H Y x (dU 100 R) z (bx b3 v::bx b2 Z::bx b1 gs::l) y){u e u16 u18 u20:VL}{a:Act}(A:Frm [pt H,iI (J:Int),u2,u3,pt b1,pt b2,pt b3,u7,u8,u9,u10,u11,u12,u13,u,e,u16,u17,u18,u19,u20] 234 a):Code.wp prog (WT 7<|f131.body.getD .skip) (bodyPost prog f131<|Dp O H Y tr (.tuple #[]) l x) a y:=by
 apply A.op;clear A;iterate 234 intro
 simp only[po,XN,XG];conv=>arg 2;whnf
 go_wp2_with fail
 refine fE C D ?_;clear C D;intro a u u C D;go_wp2_with fail
 refine fE C D ?_;clear C D;intro n u u C D;go_wp2_with fail
 refine fE C D ?_;clear C D;intro r u u C D;go_wp2_with fail
 refine fE C D ?_;clear C D;intro on u u C D;let⟨h,f,V,m,j⟩:=D.aa.cs 2 _ _ W;let⟨u,e,p32,p33,p3f⟩:=D.aa.cs 3 _ _ W;go_wp2_with fail
 refine qm a n C D ?_;clear C D;intro q1 q2 R25 y25 C D t;clear h f V m j u e p32 p33 p3f;let⟨e,u,p02,p03,p0f⟩:=D.aa.cs 0 _ _ W;let⟨vm,ze,p12,p13,p1f⟩:=D.aa.cs 1 _ _ W;go_wp2_with fail
 refine qm r on C D ?_;clear C D;intro o1 o2 I r C D r;clear e u p02 p03 p0f vm ze p12 p13 p1f;replace D:Hd (Sx _ H Y x _ _ _ _):=⟨D.q.tail.tail.tail.tail,D.b,D.s⟩
 unfold Bu at C;have u:=D.aa.c 19 λ_ _=>W;by_cases K:I.ao=0
 .replace C:=cV<|C.trans<|At K;have d0:((I.ao:Int) !=0)=false:=by rw[K];rfl
  let⟨N,U⟩:=dP I.ac;have u:N<=1000000:=by rw[U.aa];exact D.q.ac
  have u:=D.aa.c 16 λ_ _=>W;let⟨gv,L⟩:=dP<|kB gs I;rw[<-L.aa]at C;rw[<-U.aa]at u;unfold kB at L;rw[<-U.aa]at L;go_wp2;go_quiet (fail);replace D:Hd (Sx O H Y x _ _ _ _):=⟨D.q.below<|A2 (dO _ _) nq,A2 D.b nq,D.s⟩
  let⟨h,f,V,m,j⟩:=D.aa.cs 2 _ _ W;go_wp2_with fail
  refine vK (ij gs 200000 K3 _) D ?_;clear D;intro u D;clear h f V m j;let⟨ga,g⟩:=dP<|ec gs 200000;rw[<-g.aa]at L⊢;have u:ga<=200000:=by rw[g.aa];unfold ec;split<;>omega
  go_upto_if 86 with fail;go_cut[16] (λk i=>k=iI (gv:Int)/\Hd (Sx O H Y x (dU 100 R) I (bx b3 v::bx b2 Z::bx b1 gs::l) i));case first=>
   by_cases S:ga<N-N/64
   .have d:=dT<|(ga:Int)<(N:Int)-(N:Int)/64;have T:gv=ga:=L.aa.trans<|At S;go_wp2;go_meet;simp_all
   have d:=dF<|ga<(N:Int)-(N:Int)/64;have T:(N:Int)-(N:Int)/64=gv:=by rw[L.aa.trans<|iF S];omega
   go_wp2;go_meet;simp_all
  clear D;obtain⟨rfl,D⟩:=hcut;have T:gv<=N:=by rw[L.aa];split<;>omega
  clear L g u;let⟨c3,z3,e⟩:=D.aa.q.cell (o:=3)<|λ_ _=>W;obtain⟨Q,P⟩:∃Q:RS,Hd (Q={I with aI:=⟨#[]⟩}):=⟨_,W⟩
  have u:Hd (DQ _ H Y Q _ (wc.setCell _<|.string ⟨_⟩)/\Below _ x (wc.setCell ⟨H,3,none⟩<|.string ⟨#[]⟩)):=⟨by rw[P.aa];exact D.q.set (o:=3) (λ_ _=>W) W W W D.q.ac,D.b.setCell e _⟩
  rw[<-P.aa]at C;have e:I.depth=Q.depth:=by rw[P.aa]
  rw[e]at C;have e:=(u.1.cell (o:=17)<|λ_ _=>W).1;have p:=cV D.s;clear D;have D:Hd (Sx _ H Y x Q Q _ _):=⟨u.1,u.2,Sm.refl _⟩
  go_upto_if 95 with fail;go_cut[] (λi=>Q.depth≠16/\Hd (Sx O H Y x Q Q (bx b3 v::bx b2 Z::bx b1 gs::l) i));case rest=>
   clear D;let⟨E,D⟩:=hcut;replace C:=cV<|C.trans<|iF E;have u:Hd (Cb R Q q1 q2 o1 o2 gv):=by
    have e:=p.aa.bT wq;have e:=U.aa;have e:=(kI _ R).trans p;have hS:I.ac=Q.ac:=by rw[P.aa]
    exact⟨by rw[P.aa];exact e.w,by rw[P.aa];exact e.depth,E,wq,wq,by rw[P.aa];exact By (t.bN<|r.ov K).1 r.mo,t.n7,t.p7,by rw[P.aa];exact(r.bN K).1⟩
   rename_i hgo;refine hgo _ _ ?_;exact call_3 J hrp F X u C D ⟨_,W,W⟩
  by_cases E:Q.depth=16
  .replace C:=cV<|C.trans<|At E;have u:((Q.depth:Int)==16)=true:=by rw[E];rfl
   go_wp2_with fail
   refine lT (dx 0 wq _) D ?_;clear D;intro r D;go_wp2_with fail
   refine gf (iq 0 D.q) C D λy D=>?_;go_wp2;refine bI W W ⟨W,D.1.tail.tail.tail,D.2⟩
  have u:((Q.depth:Int)==16)=false:=Xb.2 wq;go_wp2;go_meet;case rel=>exact⟨E,D⟩
 have d0:((I.ao:Int) !=0)=true:=Zp.2 wq;replace D:=D.aa.aZ<|cV<|C.trans<|iF K;go_wp2;refine bI W W ⟨W,D.1.tail.tail.tail,D.2⟩
def FX(J:Nat)(Q:∀G,Pot G<|run G)(I:R.depth<16->∀(b gb k:Nat)(G:RS)(L:hZ)(z:WD),DQ b gb k G L z->GoodR G->G.depth=R.depth+1->cP 71 #[pt gb] z (Dp b gb k (run G) (.tuple #[]) L z))(E:GoodR R)(h:DQ O H Y R l x):cP 131 #[pt H,iI (J:Int)] x (Dp O H Y (RR run J R) (.tuple #[]) l x):=by
 replace I:=cV I;replace Q:=cV Q;replace E:=cV E;refine jG (fK (dU 100 R) λR=>du (dA R) λf R=>du (dA R) λZ R=>du (uS J R) λv R=>fK (vV v R) λR=>du (dA R) λa R=>du (dA R) λn R=>du (dA R) λu R=>du (dA R) λon R=>du (dJ a n R) λq R=>du (dJ u on R) λo R=>Bu run J f Z v q o R) W h λu C D=>?_;go_enter func131,ntmps131;go_wp2_with fail
 refine w_pay0 100 wq C D ?_;intro u u C D;go_wp2_with fail
 refine fE C D ?_;intro f u s C D;go_wp2_with fail
 refine fE C D ?_;intro Z N u C D;go_wp2_with fail
 refine lT (dx 0 wq _) D ?_;intro t D;have j:=cV D.q.hb.1;replace D:=cV<|D.box 0;obtain⟨v,y,P⟩:∃v K,Hd (uS J N=(v,K)):=⟨_,_,W⟩
 rw[P.aa,dW]at C;go_upto_if 30 with fail;go_cut[] (λp=>Hd<|Sx O H Y x (dU 100 R) y (bx t.heap.size v::bx u.heap.size Z::bx s.heap.size f::l) p);case first=>
  clear C;by_cases g:J=241
  .have d:((J:Int)==241)=true:=by rw[g];rfl
   have C:Hd ((v,y)=du (dA N) λa S=>(a,S)):=by have r:=P.aa;unfold uS at r;rw[At g]at r;exact r.symm
   clear g P;go_wp2_with fail
   refine Vn C D j λe T D=>?_;obtain⟨e,e,s2,e,e,e,e,e,sf⟩:=T;unfold lp at D;clear C;go_wp2;go_meet;omega
  have d:((J:Int)==241)=false:=Xb.2 wq;have r:=P.aa;unfold uS at r;rw[iF g]at r;obtain⟨rfl,rfl⟩:=Xi r;go_wp2;go_meet;omega
 have D:=hcut;obtain⟨i,r,r,r,r⟩:=D.aa.cs 0 _ _ W;go_wp2_with fail
 refine vK (je v _) D ?_;intro A D;let⟨r,V⟩:=dP<|decide (v%M=0);rw[<-V.aa];obtain⟨X,P⟩:∃K,Hd (K=vV v y):=⟨_,W⟩
 replace C:=P.aa▸C;go_upto_if 36 with fail;go_cut[] (λp=>Hd<|Sx O H Y x (dU 100 R) X (bx t.heap.size v::bx u.heap.size Z::bx s.heap.size f::l) p);case first=>
  unfold vV at P;cases r
  .have C:Hd (X=fK _ λR=>QO R):=cV<|P.trans<|iF<|of_decide_eq_false V.symm;go_wp2_with fail
   refine gR 900 C D ?_;intro m u C D;have F:=D.aa.c 20 λ_ _=>W;let⟨u,U⟩:=dP m.aR;rw[<-U.aa]at F;cases u
   .rw[<-(C.trans<|iF (by rw[<-U.aa];decide))]at D;go_wp2;go_meet;omega
   replace C:Hd (X=fK (fA _) λR=>R):=cV<|C.trans<|At U.symm;go_wp2_with fail
   refine TX (jh D.q D.q.ac) C D (hM _) ?_;intro u A C D;rw[C.aa.symm]at D;go_wp2;go_meet;omega
  rw[<-(P.trans<|At<|Xd V.symm)]at D;go_wp2;go_meet;omega
 have D:=hcut;rename_i hgo;refine hgo _ _ ?_;exact call_2 J Q I E C D ⟨_,W,W⟩
def zu:List Bool->Code->Code
 |[],c=>c
 |b::l,.seq x y=>zu l<|bif b then y else x
 |_::l,.block _ c=>zu l c
 |_::l,.loop c=>zu l c
 |_,c=>c
def Vh(Q:Y6)(a:Act)(y:WD):=Code.wp prog (zu [false,false,false,true,false,true,true,true,true]<|f71.body.getD .skip) Q a y
def ef{n:Int}(h:(a:Int)≠n:=by omega):((a:Int)==n)=false:=Xb.2 h
def KA(a b:Act):=b.tmps.size=167/\b.defers=[]/\b.tmps.toList.take 2=a.tmps.toList.take 2/\b.tmps.toList.drop 156=a.tmps.toList.drop 156
def QD(O H Y:Nat)(tr:RS)(l:hZ)(x:WD)(Q:Y6)(a:Act):=∀(b:Act)(y1:WD),KA a b->Hd (DQ O H Y tr l y1/\Below O x y1)->Q .normal b y1
def Frm.dq{O H Y:Nat}{l:hZ}{x:WD}{h:Tn}{a:Act}(A:Frm h n a)(k:po n λm=>Hd (QD O H Y tr l x Q ⟨(h++m).toArray,[]⟩)->Vh Q ⟨(h++m).toArray,[]⟩ y):QD O H Y tr l x Q a->Vh Q a y:=A.op (P:=λa=>Hd (QD O H Y tr l x Q a)->Vh Q a y) k
theorem reck_R(J:Nat)(C:J<=29)(h:DQ O H Y R l x):cP 121 #[pt H,iI (J:Int)] x (Dp O H Y (Nh J R) (.tuple #[]) l x):=by grind[VJ,Vt,TT,Vi]
def Ru(J:Nat)(E:95<=J/\J<=159)(G:R.ae.size<=70000)(G:R.pc<=100000)(h:DQ O H Y R l x):cP 129 #[pt H,iI (J:Int)] x (Dp O H Y (uI J R) (.tuple #[]) l x):=by
 unfold uI;by_cases D:J<128
 .rw[At D];grind[push_R]
 rw[iF D];by_cases C:J<144
 .rw[At C];grind[dup_R]
 rw[iF C];grind[swap_R]
def info_R(J:Nat)(I:J<63)(C:R.data.size<=70000)(D:R.ae.size<=70000)(E:R.aI.size<=70000)(L:R.w.pu.length<=900000000)(P:30<=J)(h:DQ O H Y R l x):cP 122 #[pt H,iI (J:Int)] x (Dp O H Y (lU J R) (.tuple #[]) l x):=by
 by_cases G:J∈([48,49,51,52,53,54,55,56,57,61,62]:Tl)
 .simp at G;rcases G with rfl|rfl|rfl|rfl|rfl|rfl|rfl|rfl|rfl|rfl|rfl
  .exact qI K2 h
  .exact Mc L h
  .exact qI K2 h
  .exact qI K2 h
  .exact QM C h
  .exact uj K2 C D E h
  .exact mK K2 C D E h
  .exact uj K2 C D E h
  .exact mK K2 C D E h
  .exact uj K2 C D E h
  exact mK K2 C D E h
 rw[Dr ⟨P,I⟩ G];simp at G;grind[NT]
section
variable {a:Act}
def et{a:Nat}{n:Int}(h:(a:Int)=n):((a:Int)==n)=true:=X1.2 h
def Dc(O H Y:Nat)(T:RS)(l:hZ)(y:WD)(f:FuncId)(vs:Ys):=cP f vs y<|Dp O H Y T (.tuple #[]) l y
theorem SL(E:J=80)(A:Frm [pt H,u1,iI (J:Int),iI (p:Int)] 163 a)(C:Hd<|tr=eE run J p R)(D:Hd<|Sx O H Y x R R l y)(G:QD O H Y tr l x Q a):Vh Q a y:=by
 revert G;refine A.dq ?_;simp only[po,XN,XG];unfold Vh;intros;rename_i G;conv=>arg 2;whnf
 have U:=ef (a:=J) (n:=0);have L:=W8 (show¬(J:Int)<30 by omega);have P:=W8 (show¬(J:Int)<63 by omega);have I:((J:Int)==80)=true:=K9
 replace E:=cV E;replace C:Hd (tr=fK _ λR=>(dA R).2):=cV (C.trans (by have E:=E.aa;unfold eE;rw[AQ,AQ,AQ,AV];rfl));go_wp2_with fail
 refine TX (vx 2 wq D.q) C D (kI 2 R) λV X C D=>?_;go_wp2_with fail
 refine gf (pB D.q) C D λZ D=>?_;go_wp2;exact G.aa _ _ ⟨W,W,W,W⟩ D
theorem disp_0(E:J=0)(A:Frm [pt H,u1,iI (J:Int),iI (p:Int)] 163 a)(C:Hd<|tr=eE run J p R)(D:Hd<|Sx O H Y x R R l y)(G:QD O H Y tr l x Q a):Vh Q a y:=by
 revert G;refine A.dq ?_;simp only[po,XN,XG];unfold Vh;intros;rename_i G;conv=>arg 2;whnf
 have U:((J:Int)==0)=true:=K9
 replace E:=cV E;let⟨L,I,V⟩:=D.aa.q.cell (o:=19)<|λ_ _=>W;replace C:=cV (C.trans (by unfold eE;rw[At E.aa]));have P:Hd (DQ _ H Y tr l (y.setCell ⟨H,19,none⟩<|.int _ 1)/\Below _ x (y.setCell ⟨H,19,none⟩<|iI 1)):=⟨by rw[C.aa];exact D.q.set (λ_ _=>W) W W W D.q.ac,D.b.setCell V _⟩
 go_wp2;exact G.aa _ _ ⟨W,W,W,W⟩ P
theorem dispC(h0:J≠0)(h80:J≠80)(hg:GoodR R)(hp:p<=2000)(hrp:∀G,Pot G<|run G)(HRUN:pW run R.depth)(h:DQ O H Y R l y):((1<=J/\J<30)/\Dc O H Y (eE run J p R) l y 121 #[pt H,iI (J:Int)])\/((30<=J/\J<63)/\Dc O H Y (eE run J p R) l y 122 #[pt H,iI (J:Int)])\/((J=81)/\Dc O H Y (eE run J p R) l y 125 #[pt H,iI (J:Int)])\/((J=82)/\Dc O H Y (eE run J p R) l y 125 #[pt H,iI (J:Int)])\/((J=83)/\Dc O H Y (eE run J p R) l y 125 #[pt H,iI (J:Int)])\/((J=84)/\Dc O H Y (eE run J p R) l y 126 #[pt H,iI (J:Int)])\/((J=85)/\Dc O H Y (eE run J p R) l y 126 #[pt H,iI (J:Int)])\/((J=92)/\Dc O H Y (eE run J p R) l y 126 #[pt H,iI (J:Int)])\/((J=93)/\Dc O H Y (eE run J p R) l y 126 #[pt H,iI (J:Int)])\/((86<=J/\J<=91)/\Dc O H Y (eE run J p R) l y 127 #[pt H,iI (J:Int),iI (p:Int)])\/((J=94)/\Dc O H Y (eE run J p R) l y 128 #[pt H,.string ⟨#[]⟩,.bool true,.bool false])\/((95<=J/\J<=159)/\Dc O H Y (eE run J p R) l y 129 #[pt H,iI (J:Int)])\/((160<=J/\J<=164)/\Dc O H Y (eE run J p R) l y 130 #[pt H,iI<|(J:Int)-160])\/((J=241)/\Dc O H Y (eE run J p R) l y 131 #[pt H,iI (J:Int)])\/((J=244)/\Dc O H Y (eE run J p R) l y 131 #[pt H,iI (J:Int)])\/((J=250)/\Dc O H Y (eE run J p R) l y 131 #[pt H,iI (J:Int)])\/((J=243)/\Dc O H Y (eE run J p R) l y 132 #[pt H,iI 1])\/((J=253)/\Dc O H Y (eE run J p R) l y 132 #[pt H,iI 2])\/((63<=J/\J<80)/\Dc O H Y (eE run J p R) l y 133 #[pt H])\/((164<J/\J≠241/\J≠244/\J≠250/\J≠243/\J≠253)/\Dc O H Y (eE run J p R) l y 133 #[pt H]):=by
 have h9:R.w.sl.length<=1000000000:=by have:=hg.sl;omega
 have hc:(1<=J/\J<30)\/(30<=J/\J<63)\/(J=81)\/(J=82)\/(J=83)\/(J=84)\/(J=85)\/(J=92)\/(J=93)\/(86<=J/\J<=91)\/(J=94)\/(95<=J/\J<=159)\/(160<=J/\J<=164)\/(J=241)\/(J=244)\/(J=250)\/(J=243)\/(J=253)\/(63<=J/\J<80)\/(164<J/\J≠241/\J≠244/\J≠250/\J≠243/\J≠253):=wq
 unfold Dc eE;rcases hc with ho|ho|ho|ho|ho|ho|ho|ho|ho|ho|ho|ho|ho|ho|ho|ho|ho|ho|ho|ho;all_goals repeat first|refine .inl ⟨ho,?_⟩|refine .inr ?_|refine⟨ho,?_⟩
 all_goals repeat rw[AQ]
 all_goals try rw[AV]
 ·grind[reck_R]
 ·exact info_R J wq hg.data (By hg.ae K3) hg.aI (by have:=hg.pu;omega) wq h
 ·grind[Uh]
 ·subst ho;exact jD (.inl rfl) h
 ·subst ho;exact jD (.inr rfl) h
 ·subst ho;exact ja false h9 h
 ·subst ho;exact jn false h9 h
 ·subst ho;exact ja true h9 h
 ·subst ho;exact jn true h9 h
 ·exact ways_R J p ho wq (By hg.ae K3) h
 ·exact sP (In _) _ h
 ·exact Ru J ho (By hg.ae K3) (By hg.pc K3) h
 ·rw[(wq:J-160=((J-160:Nat):Int))];exact log_R wq (By (X7 _ _) hg.lg) h
 ·exact FX J hrp HRUN hg h
 ·exact FX J hrp HRUN hg h
 ·exact FX J hrp HRUN hg h
 ·exact Qo 1 K3 h
 ·exact Qo 2 K3 h
 ·exact jh h h.ac
 exact jh h h.ac
def disp(b:J≠0->GoodR R)(c:p<=2000)(D:Hd (∀G,Pot G<|run G))(C:Hd<|pW run R.depth)(A:Frm [pt H,u1,iI (J:Int),iI (p:Int)] 163 a)(F:Hd<|tr=eE run J p R)(f:Hd<|Sx O H Y x R R l y)(z:QD O H Y tr l x Q a):Vh Q a y:=by
 by_cases h:J=0
 .grind[disp_0]
 by_cases I:J=80
 .grind[SL]
 have u:=dispC h I (b h) c D.aa C f.q;clear b c D C h I;revert z;refine A.dq ?_;simp only[po,XN,XG];unfold Vh;intros;rename_i z;conv=>arg 2;whnf
 rcases u with⟨c,u⟩|⟨c,u⟩|⟨c,u⟩|⟨c,u⟩|⟨c,u⟩|⟨c,u⟩|⟨c,u⟩|⟨c,u⟩|⟨c,u⟩|⟨c,u⟩|⟨c,u⟩|⟨c,u⟩|⟨c,u⟩|⟨c,u⟩|⟨c,u⟩|⟨c,u⟩|⟨c,u⟩|⟨c,u⟩|⟨c,u⟩|⟨c,u⟩;all_goals
  first|have b:=ef (a:=J) (n:=0)|have b:=et (a:=J) (n:=0) wq
  first|have g:=ef (a:=J) (n:=80)|have g:=et (a:=J) (n:=80) wq
  first|have j:=ef (a:=J) (n:=84)|have j:=et (a:=J) (n:=84) wq
  first|have T:=ef (a:=J) (n:=85)|have T:=et (a:=J) (n:=85) wq
  first|have N:=ef (a:=J) (n:=92)|have N:=et (a:=J) (n:=92) wq
  first|have S:=ef (a:=J) (n:=93)|have S:=et (a:=J) (n:=93) wq
  first|have t:=ef (a:=J) (n:=94)|have t:=et (a:=J) (n:=94) wq
  first|have X:=ef (a:=J) (n:=241)|have X:=et (a:=J) (n:=241) wq
  first|have U:=ef (a:=J) (n:=244)|have U:=et (a:=J) (n:=244) wq
  first|have L:=ef (a:=J) (n:=250)|have L:=et (a:=J) (n:=250) wq
  first|have d:=ef (a:=J) (n:=243)|have d:=et (a:=J) (n:=243) wq
  first|have Z:=ef (a:=J) (n:=253)|have Z:=et (a:=J) (n:=253) wq
  first|have s:=W8 (show¬(J:Int)<30 by omega)|have s:=OsQ<|show(J:Int)<30 by omega
  first|have b:=W8 (show¬(J:Int)<63 by omega)|have b:=OsQ<|show(J:Int)<63 by omega
  first|have K:=W8 (show¬(J:Int)≥81 by omega)|have K:=OsQ<|show(J:Int)≥81 by omega
  first|have k:=W8 (show¬(J:Int)<=83 by omega)|have k:=OsQ<|show(J:Int)<=83 by omega
  first|have m:=W8 (show¬(J:Int)≥86 by omega)|have m:=OsQ<|show(J:Int)≥86 by omega
  first|have o:=W8 (show¬(J:Int)<=91 by omega)|have o:=OsQ<|show(J:Int)<=91 by omega
  first|have i:=W8 (show¬(J:Int)≥95 by omega)|have i:=OsQ<|show(J:Int)≥95 by omega
  first|have V:=W8 (show¬(J:Int)<=159 by omega)|have V:=OsQ<|show(J:Int)<=159 by omega
  first|have E:=W8 (show¬(J:Int)≥160 by omega)|have E:=OsQ<|show(J:Int)≥160 by omega
  first|have P:=W8 (show¬(J:Int)<=164 by omega)|have P:=OsQ<|show(J:Int)<=164 by omega
  first|obtain⟨b,b⟩:=c|clear c
  go_wp2_with fail
  refine gf u F f λb f=>?_;go_wp2;exact z.aa _ _ ⟨W,W,W,W⟩ f
end
def Pz{S:RS}{a:Act}(C:GoodR S)(Z:J≠0->S.pc<S.ae.size)(V:Hd (∀G,Pot G<|run G))(D:Hd<|pW run S.depth)(A:Frm [pt H,u1,iI (J:Int)] 164 a)(E:Hd<|tr=eE run J S.pc {S with pc:=S.pc+1})(U:Hd<|Sx O H Y x S S l y)(X:QD O H Y tr l x Q a):Code.wp prog (zu [false,false,false,true,false,true,true]<|f71.body.getD .skip) Q a y:=by
 revert X;refine A.op (P:=λa=>Hd (QD _ H Y tr l x Q a)->Code.wp _ _ Q a y) ?_;simp only[po,XN,XG];intros;rename_i X;conv=>arg 2;whnf
 let⟨p,g⟩:=dP S.pc;let⟨f,j,c⟩:=U.aa.q.cell (o:=18)<|λ_ _=>W;rw[<-g.aa]at f Z E;have u:p<=2000:=by rw[g.aa];exact C.pc
 obtain⟨I,L⟩:∃I:RS,Hd (I={S with pc:=p+1}):=⟨_,W⟩
 rw[<-L.aa]at E;have d:Hd (J≠0->GoodR I):=λh=>by rw[L.aa];exact⟨C.ae,C.data,C.aI,C.aa,by have T:=C.ae;grind,C.aS,C.bp,C.pu,C.sl,C.lg⟩
 have z:Hd (Sx _ H Y x I I l _):=⟨by rw[L.aa];exact U.q.set (o:=18) (λ_ _=>W) W W W U.q.ac,U.b.setCell c _,Sm.refl _⟩
 replace D:Hd (pW run I.depth):=by rw[L.aa];omega
 replace C:=cV C;refine wp_seq_k λF hgo=>?_;replace hgo:=cV hgo;go_wp2;refine hgo.aa _ _ ?_;refine wp_seq_k λK hgo=>?_;replace hgo:=cV hgo;go_wp2;refine hgo.aa _ _ ?_;exact disp d.aa u V D ⟨_,W,W⟩ E z λb m k h=>X.aa b m k h
def round1{S:RS}{a:Act}(i:S.ao=0)(U:GoodR S)(X:Hd (∀G,Pot G<|run G))(I:Hd<|pW run S.depth)(A:Frm [pt H] 166 a)(L:Hd<|tr=eE run (FL S) S.pc {S with pc:=S.pc+1})(C:Hd<|Sx O H Y x S S l y)(d:QD O H Y tr l x Q a):Code.wp prog (zu [false,false,false]<|f71.body.getD .skip) Q a y:=by
 revert d;refine A.op (P:=λa=>Hd (QD _ H Y tr l x Q a)->Code.wp _ _ Q a y) ?_;simp only[po,XN,XG];intros;rename_i d;conv=>arg 2;whnf
 have t:=C.aa.c 19 λ_ _=>W;have u:((S.ao:Int)==0)=true:=K9
 let⟨J,u⟩:=dP<|FL S;rw[<-u.aa]at L;have D:=C.aa.c 18 λ_ _=>W;have c1:=C.aa.c 1 λ_ _=>W;let⟨ae,g⟩:=dP S.ae;let⟨p,m⟩:=dP S.pc;have N:=U.ae;have F:=U.pc;rw[<-g.aa]at c1 N;rw[<-m.aa]at D F;have E:J=if p<ae.size then mS ae p else 0:=by
  rw[u.aa,m.aa,g.aa];unfold FL;rw[<-xU];by_cases u:S.pc<S.ae.size
  .grind
  rw[iF u,xU,If,Ym (by rw[ik];omega)];rfl
 have Z:Hd (J≠0->S.pc<S.ae.size):=λh=>by rw[<-m.aa,<-g.aa];grind
 replace U:=cV U;refine wp_seq_k λr K=>?_;replace K:=cV K;go_wp2;refine K.aa _ _ ?_;refine wp_block ?_;refine wp_seq_k λr o=>?_;replace o:=cV o;go_wp2;refine o.aa _ _ ?_;refine wp_seq_k λr j=>?_;replace j:=cV j;refine wp_seq_k λr f=>?_;replace f:=cV f;have V:Hd (Sx _ H Y x S S l _):=⟨C.q.below (dO _ _).drew,C.b.drew,C.s⟩
 by_cases u:p<ae.size
 .rw[At u]at E;have n:=rW _ p u;replace E:=cV E
  go_big_region
  refine f.aa _ _ ?_;refine wp_cond_true W ?_;have D:=V.aa.c 18 λ_ _=>W;have c1:=V.aa.c 1 λ_ _=>W;rw[<-g.aa]at c1;rw[<-m.aa]at D;replace C:Hd (Sx _ H Y x S S l _):=⟨V.q.below (dO _ _).drew,V.b.drew,V.s⟩
  let⟨z,r⟩:=hJ y.drew;rw[<-r]at D c1 C⊢;clear r
  go_big_region
  refine j.aa _ _ ?_;rw[(by rw[E.aa];grind[wrap64,rU]:wrap64 _=J)];exact Pz U.aa Z.aa X I ⟨_,W,W⟩ L C λb T k h=>d.aa b T k h
 rw[iF u]at E;replace E:=cV E
 go_big_region
 refine f.aa _ _ ?_;refine wp_cond_false W ?_;have C:=V;go_wp2;refine j.aa _ _ ?_;cases(E.aa:J=0);exact Pz U.aa Z.aa X I ⟨_,W,W⟩ L C λb T k h=>d.aa b T k h
def KA.op{a b:Act}{P:Act->Prop}(k:KA a b)(h:po 154 λl=>P ⟨(a.tmps.toList.take 2++(l++a.tmps.toList.drop 156)).toArray,[]⟩):P b:=by let⟨⟨L⟩,d⟩:=b;let⟨C,D,G,k4⟩:=k;have C:L.length=167:=C;cases(D:d=[]);have E:=yI _ h ((L.drop 2).take 154) K9;grind[k4,List.drop_drop,List.take_append_drop]
structure Rr(O H Y d:Nat)(x:WD)(R:RS)(l:hZ)(gk:Nat)(S:RS)(y:WD):Prop where
 e:lH (iR d) gk S=lH (iR d) (R.ac+1) R
 g:S.ao=0->S.ac<gk
 q:DQ O H Y S l y
 b:Below O x y
 ok:S.ao=0->GoodR S
 aS:S.depth=R.depth
def run_S(U:Hd (∀(b gb m:Nat)(G:RS)(L:hZ)(z:WD),DQ b gb m G L z->GoodR G->G.depth=R.depth+1->cP 71 #[pt gb] z (Dp b gb m (iR d G) (.tuple #[]) L z)))(h:DQ O H Y R l x)(j:GoodR R):cP 71 #[pt H] x (Dp O H Y (iR (d+1) R) (.tuple #[]) l x):=by
 have I:Hd (Rr _ H Y d x R l _ R x):=⟨W,λ_=>YS _,h,dO _ _,λ_=>j,W⟩
 let⟨c,E⟩:=dP<|EH<|lH (iR d) (R.ac+1) R;rw[show iR (d+1) R=c from E.aa.symm];clear h j;go_enter func71,ntmps71;go_wp2
 go_loopg [2,3] (R.ac+1) (λgk c t3 wr=>∃S,Hd<|Rr O H Y d x R l gk S wr)
 case atStart=>grind
 clear I;let⟨S,I⟩:=hrel;have n:=(I.q.cell (o:=19)<|λ_ _=>W).1;by_cases P:S.ao=0;case neg=>
  have c:((S.ao:Int)==0)=false:=Xb.2 wq;have c:lH (iR d) (R.ac+1) R=S:=by
   rw[<-I.aa.e];cases gk with
   |zero=>rfl
   |succ k=>exact iF P
  rw[c]at E;unfold EH at E;by_cases Z:S.ao=3
  .have F:((S.ao:Int)==3)=true:=by rw[Z];rfl
   replace E:=cV<|E.trans<|At Z;let⟨c,i,u⟩:=I.aa.q.cell (o:=16)<|λ_ _=>W;have X:=I.aa.q.set (o:=16) (v:=.int _ 0) (R':={S with ac:=0}) (λ_ _=>W) W W W<|In _;let⟨t,c,_⟩:=X.cell (o:=23)<|λ_ _=>W;have f:=X.set (o:=23) (v:=.string ⟨_⟩) (R':={S with ac:=0,aa:=⟨#[]⟩}) (λ_ _=>W) W W W<|In _;rw[<-E.aa]at f;have J:=cV<|aIn f<|(I.b.setCell (p:=⟨H,16,none⟩) u<|iI 0).setCell (p:=⟨H,23,none⟩) u<|.string ⟨#[]⟩;clear X f I;go_wp2;refine bI W W ⟨W,J.1,J.2⟩
  have F:((S.ao:Int)==3)=false:=Xb.2 wq;replace E:=cV<|E.trans<|iF Z;have J:=cV<|aIn I.q I.b;rw[<-E.aa]at J;clear I;go_wp2;refine bI W W ⟨W,J.1,J.2⟩
 cases gk with
 |zero=>have:=I.aa.g P;omega
 |succ gk=>
 have C:=I.aa.ok P;let⟨T,V⟩:=dP<|eE (iR d) (FL S) S.pc {S with pc:=S.pc+1};have J:Hd (Sx _ H Y x S S l wr):=⟨I.q,I.b,Sm.refl _⟩
 have K:Hd (∀y,Hd (DQ _ H Y T l y/\Below O x y)->Rr _ H Y d x R l gk T y):=λy A=>by
  have c:=stp_at (sU d) S C.pc C.ae;rw[<-V.aa]at c;have u:lH (iR d) (gk+1) S=lH (iR d) gk T:=by rw[V.aa];exact At P
  have D:=c.1;refine⟨u.symm.trans I.e,λe=>by have u:=(c.2 e).1;have u:=I.aa.g P;omega,A.aa.1,A.aa.2,λe=>⟨?_,?_,D.aI C.aI,D.aa C.aa,(c.2 e).2,?_,D.bp C.bp,?_,?_,?_⟩,D.depth.trans I.aS⟩
  .rw[D.ae];exact C.ae
  .rw[D.data];exact C.data
  .rw[D.depth];exact C.aS
  .exact By D.pu C.pu
  .exact By D.sl C.sl
  exact By D.lg C.lg
 have Q:Hd (pW (iR d) S.depth):=by rw[I.aa.aS];exact λ_=>U
 refine round1 P C (cV<|sU d) Q ⟨_,W,W⟩ V J λb N k h=>?_;apply k.op;simp only[po,List.take_succ_cons,Y3,List.drop_succ_cons,List.drop_zero,XN,XG];intros;have s:=cV<|K N h;clear K V J Q C h;go_wp2
 go_roundg gk
 exact⟨T,s⟩;omega
theorem Wq:∀(d:Nat){O H Y:Nat}{R:RS}{l:hZ}{x:WD},DQ O H Y R l x->GoodR R->R.depth+d=17->cP 71 #[pt H] x (Dp O H Y (iR d R) (.tuple #[]) l x)
 |0,_,_,_,R,_,_,_,hg,hd=>by have:=hg.aS;omega
 |d+1,O,H,Y,R,l,x,h,hg,hd=>run_S (cV λb J E G L z D C I=>Wq d D C wq) h hg
variable {rs:List Rs}{B:Nat}
def OkR(G:RS):=GoodR G/\1<=(iR 16 G).ao/\(iR 16 G).ao<=3
def zl(Q:RW)(k fr Z B:Nat)(data:BA)(g:Nat):RS:=⟨(mB Q k).ae,data,⟨#[]⟩,Z,fr,B,g,1,0,0,false,[],[],⟨#[]⟩,Q⟩
def LE(pu:List Pur)(sl:List Slt)(R:RS):SnD:=if R.ao=1 then⟨0,R.ac,R.aa,R.w.lg,0,R.w.pu,R.w.sl.filter λs=> !s.br⟩else⟨R.ao-1,R.ac,R.aa,[],0,pu,sl⟩
def tj(pu:List Pur)(sl:List Slt)(fr Z B:Nat)(data:BA)(g:Int):SnD:=
 if data.size<=500/\0<=g/\g<=100000 then
  if (fP fr Z B ⟨pu,sl,[]⟩).1=true then LE pu sl<|iR 16<|zl (ag Z (fP fr Z B ⟨pu,sl,[]⟩).2).2 (ag Z (fP fr Z B ⟨pu,sl,[]⟩).2).1 fr Z B data g.toNat
  else⟨0,0,⟨#[]⟩,[],5,pu,sl⟩
 else⟨0,0,⟨#[]⟩,[],1,pu,sl⟩
def kZ(fr Z B:Nat)(data:BA)(g:Int):Tn:=wl fr++(wl Z++(wl B++[.string data,.int .i64 g]))
abbrev sx1(x:WD)(fr Z B:Nat)(data:BA)(g:Int):WD:=(x.alloc<|.cells (kZ fr Z B data g).toArray 43).alloc zd
def EF(fr Z:Nat)(g:Int)(h:Sep O (iK hb pu sl pv lv::rs) x)(hg:data.size<=500/\0<=g/\g<=100000->(fP fr Z B ⟨pu,sl,[]⟩).1=true->OkR (zl (ag Z (fP fr Z B ⟨pu,sl,[]⟩).2).2 (ag Z (fP fr Z B ⟨pu,sl,[]⟩).2).1 fr Z B data g.toNat))(d8:pu.length<=800000000)(d5:sl.length<=800000000):cP 41 #[pt hb,nz fr Z B data g] x (EK O hb rs (tj pu sl fr Z B data g) x):=by
 let⟨S,c⟩:=dP<|tj pu sl fr Z B data g;rw[<-c.aa];by_cases j:data.size<=500/\0<=g/\g<=100000;case neg=>
  have HE:Hd (∀y,bW x y->EK O hb rs S x (.returned<|.tuple #[iy 0 0 ⟨#[]⟩ dL,iI 1]) y):=λy hy=>by rw[c.aa];unfold tj;rw[iF j];exact⟨pv,lv,dL,[],W,h.below hy,hy.mono h.s,W,Xy _ _ _ _,λi l t q=>by cases q⟩
  clear h c hg;have u:decide ((500:Int)<(data.size:Int))=true\/(decide ((500:Int)<(data.size:Int))=false/\decide (g<0)=true)\/(decide ((500:Int)<(data.size:Int))=false/\decide (g<0)=false/\decide (100000<g)=true):=by
   by_cases r:data.size<=500
   .by_cases h2:0<=g
    .exact A4 (A4 ⟨W8 wq,W8 wq,OsQ wq⟩)
    exact A4<|LZ ⟨W8 wq,OsQ wq⟩
   exact LZ<|OsQ wq
  clear j d8 d5;unfold nz;have HR:Hd (ResAt (sx1 x fr Z B data g) (x.heap.size+1) 0 0 ⟨#[]⟩ dL):=by show ResAt _ _ _ _ _ _;unfold ResAt;simp[go_sem]
  rcases u with u|⟨u,d2⟩|⟨u,d2,d3⟩;all_goals
   go_enter func41,ntmps41;go_wp2;let⟨⟨q0,q1,q2,r⟩,_⟩:=HR.aa;change bodyPost _ _ _ _ _ (sx1 x fr Z B data g);have HB:bW x (sx1 x fr Z B data g):=ai (ai (dO _ x) _) _;generalize sx1 x fr Z B data g=y at*;exact sp (v:=.tuple #[iy 0 0 ⟨#[]⟩ dL,iI 1]) (by simp[results,results41,go_sem,iy,dL,q0,q1,q2,r]) W<|HE.aa y HB
 obtain⟨m,rfl⟩:∃m:Nat,g=(m:Int):=⟨g.toNat,wq⟩
 have u:=dF<|(500:Int)<(data.size:Int);have d2:=dF<|(m:Int)<0;have d3:=dF<|(100000:Int)<(m:Int);have u:m<=100000:=wq
 obtain⟨P,HP⟩:∃P:RW,Hd (P=⟨pu,sl,[]⟩):=⟨_,W⟩
 have D:Hd (S=if (fP fr Z B P).1=true then LE pu sl (iR 16<|zl (ag Z (fP fr Z B P).2).2 (ag Z (fP fr Z B P).2).1 fr Z B data m)else⟨0,0,⟨#[]⟩,[],5,pu,sl⟩):=by show S=_;rw[c.aa,HP.aa];unfold tj;rw[At j];rfl
 have L:Hd ((fP fr Z B P).1=true->OkR (zl (ag Z (fP fr Z B P).2).2 (ag Z (fP fr Z B P).2).1 fr Z B data m)):=by rw[HP.aa];exact hg j
 clear c hg j
 -- the world is copied
 let⟨y1,c⟩:=hJ<|sx1 x fr Z B data m;have aA:bW x y1:=by rw[c];exact ai (ai (dO _ x) _) _
 have i0:Hd (DP 0 P ⟨pv,lv,dL,[]⟩ y1):=by have hI:=(h.below aA).hd;rw[HP.aa];exact⟨hI.pu,hI.sl,Xy _ _ _ _,W,λi l t q=>by cases q⟩
 have i3:=cV (yN i0.aa (by rw[HP.aa];exact By d8 wq) (by rw[HP.aa];exact By d5 wq) (by rw[HP.aa];exact In _));have e8:=(h.below aA).hd.row;obtain⟨r0,r1,r2⟩:cL y1 hb 0 pv/\cL y1 hb 1 lv/\cL y1 hb 2 dL:=⟨e8.cell W,e8.cell W,e8.cell W⟩
 have HR:Hd (ResAt y1 (x.heap.size+1) 0 0 ⟨#[]⟩ dL):=by show ResAt _ _ _ _ _ _;rw[c];unfold ResAt;simp[go_sem]
 have HRW:Hd (rowL y1 (x.heap.size+1) 38 [iB 0,iI 0,.string ⟨#[]⟩,dL]/\x.heap.size<=x.heap.size+1):=by refine⟨?_,ZN _⟩;rw[c];have h9:=rowL.al (x.alloc<|.cells (kZ fr Z B data m).toArray 43) [iB 0,iI 0,.string ⟨#[]⟩,dL] 38;rw[show(x.alloc<|.cells (kZ fr Z B data m).toArray 43).heap.size=x.heap.size+1 by simp]at h9;exact h9
 have b8:Hd (rowL y1 x.heap.size 43<|kZ fr Z B data m):=by rw[c];exact(rowL.al x (kZ fr Z B data m) _).below<|ai (dO _ _) _
 unfold nz;go_enter func41,ntmps41;go_upto_region 3 with fail
 change Code.wp _ _ _ _ (sx1 x fr Z B data m);rw[<-c];have a8:=cV h;have b0:=cV aA;have j0:=cV d8;have hsl2:=cV d5;clear c e8 h d8 d5 aA;have i8:Hd (∀(A:DV)(F:WD),PW y1.heap.size P A F->bW y1 F->(∃a1 n1 c1 a2 n2 c2 a3 n3 c3,A.pv=.slice a1 n1 c1/\A.lv=.slice a2 n2 c2/\A.gv=.slice a3 n3 c3)/\WQ y1.heap.size F.heap.size P [] (F.alloc<|.cells #[A.pv,A.lv,A.gv] 146)):=λA F hp c=>by have i5:bW F (F.alloc<|.cells #[A.pv,A.lv,A.gv] 146):=ai (dO _ F) _;have hw:=hp F.heap.size _ (rowL.al F [A.pv,A.lv,A.gv] _) i5 c.size;let⟨a1,c1,e1⟩:=dt hw.pu;let⟨a2,c2,e2⟩:=dt hw.sl;let⟨a3,c3,e3⟩:=dt hw.lg;exact⟨⟨_,_,_,_,_,_,_,_,_,e1,e2,e3⟩,A,hw,λp hp=>(by cases hp),qac,By c.size i5.size⟩
 go_upto_region 4 with(first|(go_at_call 68;refine i3.aa.mono ?_;rintro e F⟨⟨v1,v2,v3,tv⟩,rfl, -,i6,c⟩;obtain⟨⟨a1,n1,c1,a2,n2,c2,a3,n3,c3,rfl,rfl,rfl⟩,HW⟩:=i8.aa _ _ i6 c)|fail);let⟨y3,e7⟩:=hJ<|F.alloc<|.cells #[.slice a1 n1 c1,.slice a2 n2 c2,.slice a3 n3 c3] 146;have f9:Hd (bW y1 y3):=by rw[e7];exact ai c _
 have g0:Hd (WQ y1.heap.size F.heap.size P [] y3):=by rw[e7];exact HW
 rw[<-e7];let⟨Y,i1⟩:=hJ F.heap.size;rw[<-i1]at g0⊢;clear e7 i1 i6 c HW i8 i3 i0 r0 r1 r2;have i4:Hd (P.pu.length<=900000000):=by rw[HP.aa];exact By j0.aa wq
 have g1:=cV<|ML fr Z B g0.aa i4.aa;let⟨ok,HOK⟩:=dP<|(fP fr Z B P).1;let⟨c,g7⟩:=dP<|(fP fr Z B P).2;rw[<-HOK.aa,<-g7.aa]at g1 D L;have I:=b8.aa.below f9.aa;have g9:=I.cs;simp only[oI,kZ,wl,XN,XG,Nat.reduceAdd]at g9;go_upto_region 5 with(first|(go_at_call 69;refine g1.aa.mono ?_;rintro e y4⟨rfl,a9,j7⟩)|fail);clear g9 I g1 g0;have b1:=cV<|f9.aa.trans j7;replace a9:=cV a9;have h0:=cV<|HR.aa.below b1.aa;have i2:=HR;clear f9 j7 HR;cases j:ok with
 |false=>
  subst j;let⟨⟨q0,q1,q2,r⟩,f0,f1,f2,f3⟩:=h0.aa;unfold dL at r;have HE:Hd (∀y,bW x y->EK O hb rs S x (.returned<|.tuple #[iy 0 0 ⟨#[]⟩ dL,iI 5]) y):=λy hy=>by rw[D.aa,iF K3];exact⟨pv,lv,dL,[],W,a8.aa.below hy,hy.mono a8.aa.s,W,Xy _ _ _ _,λi l t q=>by cases q⟩
  have g4:Hd (bW x<|gB y4 (x.heap.size+1) 0 0 ⟨#[]⟩ dL):=kr (kr (kr (kr (b0.aa.trans<|b1.aa.mono b0.aa.size) K2) K2) K2) K2;clear a9 D L;go_wp2;let⟨⟨q0,q1,q2,r⟩,_⟩:=h0.aa.put (st:=0) (gs:=0) (aa:=⟨#[]⟩) (lv:=dL);change bodyPost _ _ _ _ _ (gB y4 (x.heap.size+1) 0 0 ⟨#[]⟩ dL);generalize gB y4 (x.heap.size+1) 0 0 ⟨#[]⟩ dL=y at*;exact sp (v:=.tuple #[iy 0 0 ⟨#[]⟩ dL,iI 5]) (by simp[results,results41,go_sem,iy,dL,q0,q1,q2,r]) W<|HE.aa y g4.aa
 |true=>
  subst j;replace L:=cV<|L.aa W;replace D:Hd (S=LE pu sl (iR 16<|zl (ag Z c).2 (ag Z c).1 fr Z B data m)):=D.aa.trans<|At W;have e9:c.pu.length<=1000000000:=by rw[g7.aa];have:=(wW fr Z B P).2.1;have:=i4.aa;omega
  have f5:=cV<|qE Z a9.aa e9;let⟨Q,HQ⟩:=dP<|(ag Z c).2;let⟨k,HK⟩:=dP<|(ag Z c).1;have g5:k<Q.pu.length:=by rw[HQ.aa,HK.aa];exact(iG Z c).1
  rw[<-HQ.aa,<-HK.aa]at f5 D L;clear HQ HK g7 e9;have I:=b8.aa.below b1.aa;have m4:=I.cell (i:=4) W;have m5:=I.cell (i:=5) W;have m6:=I.cell (i:=6) W;have m7:=I.cell (i:=7) W;go_upto_region 8 with(first|(go_at_call 70;refine f5.aa.mono ?_;rintro e c⟨rfl,j1,j2⟩)|fail);clear m4 m5 m6 m7 I f5 a9;have g6:=cV<|b1.aa.trans j2;clear j2 b1;have I:=b8.aa.below g6.aa;have h7:=I.cs;simp only[oI,kZ,wl,XN,XG,Nat.reduceAdd]at h7;obtain⟨G,HG⟩:∃G:RS,Hd (G=zl Q k fr Z B data m):=⟨_,W⟩
  let⟨cd,f8⟩:=dP<|(mB Q k).ae;have i9:Hd (DQ y1.heap.size c.heap.size Y G []<|c.alloc<|.cells #[pt Y,.string cd,.string data,.string ⟨#[]⟩,lu Z 0,lu Z 1,lu Z 2,lu Z 3,lu fr 0,lu fr 1,lu fr 2,lu fr 3,lu B 0,lu B 1,lu B 2,lu B 3,iI (m:Int),iI 1,iI 0,iI 0,.bool false,dL,dL,.string ⟨#[]⟩] 159):=by rw[f8.aa,HG.aa];exact j1.frame (zl Q k fr Z B data m) W W W<|By u K3
  obtain⟨V,hdw, -, -, -⟩:=j1;let⟨ap,cp,e1⟩:=dt hdw.pu;have w0:=rowL.cell (i:=0) hdw.row W;have d7:=hdw.pu;rw[e1]at w0 d7;let⟨NP,d6⟩:=dP Q.pu.length;rw[<-d6.aa]at w0 g5;obtain⟨gp,rfl,hcc⟩:∃gp,ap=some ⟨gp,0,none⟩/\cL c gp (k*9+8) (.string cd):=by
   rcases d7.2 with⟨e2,e3⟩|⟨g',E,cur,e2,_⟩
   .have:=d6.aa;omega
   injection e2 with e2 _ e4;subst e2 e4;have h5:k<Q.pu.length:=by rw[<-d6.aa];exact g5
   refine⟨g',W,Gi (f:=qX) (λa=>W) d7 h5 wq ?_⟩;rw[f8.aa,sd h5];rfl
  have hk9:(0:Int)<=(k:Int):=wq
  have hk8:(k:Int)<(NP:Int):=wq
  clear hdw d7 e1 I b8
  go_region_held3 (λJ=>cL J Y 0 (sL gp NP cp)/\cL J gp (k*9+8) (.string cd)/\cL J x.heap.size 0 (lu fr 0)/\cL J x.heap.size 1 (lu fr 1)/\cL J x.heap.size 2 (lu fr 2)/\cL J x.heap.size 3 (lu fr 3)/\cL J x.heap.size 4 (lu Z 0)/\cL J x.heap.size 5 (lu Z 1)/\cL J x.heap.size 6 (lu Z 2)/\cL J x.heap.size 7 (lu Z 3)/\cL J x.heap.size 8 (lu B 0)/\cL J x.heap.size 9 (lu B 1)/\cL J x.heap.size 10 (lu B 2)/\cL J x.heap.size 11 (lu B 3)/\cL J x.heap.size 12 (.string data)/\cL J x.heap.size 13 (iI (m:Int))) (go_keep) (fail)
  clear h7 w0 hcc hk9 hk8 g5 d6 f8;go_upto_region 9 with fail
  let⟨y6,c0⟩:=hJ<|(c.alloc<|.cells #[pt Y,.string cd,.string data,.string ⟨#[]⟩,lu Z 0,lu Z 1,lu Z 2,lu Z 3,lu fr 0,lu fr 1,lu fr 2,lu fr 3,lu B 0,lu B 1,lu B 2,lu B 3,iI (m:Int),iI 1,iI 0,iI 0,.bool false,dL,dL,.string ⟨#[]⟩] 159).drew;have f7:Hd (DQ y1.heap.size c.heap.size Y G [] y6):=by rw[c0];exact i9.aa.below (dO _ _).drew
  have h4:Hd (bW y1 y6):=by rw[c0];exact(ai g6.aa _).drew
  let⟨H,bg⟩:=hJ c.heap.size;change Code.wp _ _ _ _ ((c.alloc<|.cells #[pt Y,.string cd,.string data,.string ⟨#[]⟩,lu Z 0,lu Z 1,lu Z 2,lu Z 3,lu fr 0,lu fr 1,lu fr 2,lu fr 3,lu B 0,lu B 1,lu B 2,lu B 3,iI (m:Int),iI 1,iI 0,iI 0,.bool false,dL,dL,.string ⟨#[]⟩] 159).drew);rw[<-c0,<-bg];rw[<-bg]at f7;rw[<-HG.aa]at D L;have f4:=cV (Wq 16 f7.aa L.aa.1 (by rw[HG.aa];rfl));let⟨R,c⟩:=dP<|iR 16 G;have hv:=L.aa.2;rw[<-c.aa]at f4 D hv;have j3:Hd (R.w.sl.length<=1000000000):=by have h9:=(sU 16 G).sl;rw[<-c.aa]at h9;have h8:=L.aa.1.sl;show R.w.sl.length<=_;omega
  clear c0 bg i9 g6 f7 HG c;go_upto_region 10 with(first|(go_at_call 71;refine f4.aa.mono ?_;rintro e y7⟨rfl,c,j6⟩)|fail);have g3:=cV<|h4.aa.trans j6;replace c:=cV c;clear j6 h4 f4;have h3:=(c.aa.cell (o:=16) λ_ _=>W).1;have j5:=(c.aa.cell (o:=23) λ_ _=>W).1;let⟨gs,e0⟩:=dP R.ac;let⟨K,d4⟩:=dP R.aa;rw[<-e0.aa]at h3;rw[<-d4.aa]at j5
  go_region_held3 (λJ=>cL J H 16 (iI (gs:Int))/\cL J H 23 (.string K)) (go_keep) (fail)
  go_upto_region 11 with fail
  let⟨d,b7⟩:=hJ<|(y7.alloc<|.cells #[iB 0,iI (gs:Int),.string K,.slice none 0 0] 38).drew;let⟨U,c8⟩:=hJ y7.heap.size;have f6:Hd (DQ y1.heap.size H Y R [] d):=by rw[b7];exact c.aa.below (ai (dO _ _) _).drew
  have d9:Hd (bW y1 d):=by rw[b7];exact(ai g3.aa _).drew
  have z:Hd (rowL d U 38 [iB 0,iI (gs:Int),.string K,.slice none 0 0]):=by rw[b7,c8];exact(rowL.al y7 [iB 0,iI (gs:Int),.string K,.slice none 0 0] _).below (dO _ _).drew
  have c9:Hd (y1.heap.size<=U):=by rw[c8];exact g3.aa.size
  rw[<-b7,<-c8];clear b7 c8 c g3 h3 j5;have j9:Hd (ResAt d (x.heap.size+1) 0 0 ⟨#[]⟩ dL):=i2.aa.below d9.aa;have c19:=(f6.aa.cell (o:=19) λ_ _=>W).1;have c:=z.aa.cell (i:=0) W;have c:=z.aa.cell (i:=1) W;have c:=z.aa.cell (i:=2) W;have t3:=z.aa.cell (i:=3) W;have c:=World.rowIs.frozen z.aa;by_cases c:R.ao=1;case neg=>
   have HE:Hd (∀y,bW x y->EK O hb rs S x (.returned<|.tuple #[iy (R.ao-1) gs K dL,iI 0]) y):=λy hy=>by rw[D.aa];unfold LE;rw[iF c,e0.aa,d4.aa];exact⟨pv,lv,dL,[],W,a8.aa.below hy,hy.mono a8.aa.s,W,Xy _ _ _ _,λi l t q=>by cases q⟩
   have i7:=b0.aa.size;obtain⟨st,j8,hst⟩:∃st,Hd (st+1=R.ao)/\(st=1\/st=2):=⟨R.ao-1,by show _-1+1=_;omega,wq⟩
   have g4:Hd (bW x<|gB (d.setCell ⟨U,0,none⟩<|iB (st:Int)) (x.heap.size+1) st gs K dL):=kr (kr (kr (kr (kr (b0.aa.trans<|d9.aa.mono i7)<|By i7 c9.aa) K2) K2) K2) K2;have b9:U≠x.heap.size+1:=by have h9:=c9.aa;have h8:=mZ (x:=y1) i2.aa.1.1;omega
   have HRX:Hd (ResAt (gB (d.setCell ⟨U,0,none⟩<|iB (st:Int)) (x.heap.size+1) st gs K dL) (x.heap.size+1) st gs K dL):=(j9.aa.kb ((Kb.refl [U] d).setCell (p:=⟨U,0,none⟩) (LZ Xz) _)<|by simpa using b9.symm).put;let⟨⟨q0,q1,q2,r⟩,f0,f1,f2,f3⟩:=j9.aa;unfold dL at r;rw[<-j8.aa]at c19 HE;have d0:(((st+1:Nat):Int)==1)=false:=Xb.2 wq;clear D f6 e0 d4 c hv j8;rcases hst with rfl|rfl;all_goals
    go_wp2;let⟨⟨q0,q1,q2,r⟩,_⟩:=HRX.aa;first
     |(change bodyPost _ _ _ _ _ (gB (d.setCell ⟨U,0,none⟩<|iB ((1:Nat):Int)) (x.heap.size+1) 1 gs K dL);generalize gB (d.setCell ⟨U,0,none⟩<|iB ((1:Nat):Int)) (x.heap.size+1) 1 gs K dL=y at*)
     |(change bodyPost _ _ _ _ _ (gB (d.setCell ⟨U,0,none⟩<|iB ((2:Nat):Int)) (x.heap.size+1) 2 gs K dL);generalize gB (d.setCell ⟨U,0,none⟩<|iB ((2:Nat):Int)) (x.heap.size+1) 2 gs K dL=y at*)
    refine sp (v:=.tuple #[iy _ gs K dL,iI 0]) (by simp[results,results41,go_sem,iy,dL,q0,q1,q2,r]) W<|HE.aa y g4.aa
  have d0:((R.ao:Int)==1)=true:=by rw[c];rfl
  obtain⟨X,C,V,r, -, -⟩:=f6.aa;have hdw:=r.wa;let⟨a4,p4,e4⟩:=dt hdw.lg;obtain⟨a5,r,r⟩:=dt hdw.sl;obtain⟨r,r,r⟩:=dt hdw.pu;have w2:=rowL.cell (i:=2) hdw.row W;have wf:=World.rowIs.frozen hdw.row;rw[e4]at w2;let⟨n4,r⟩:=dP R.w.lg.length;rw[<-r.aa]at w2;have j4:Y≠U:=λe=>absurd ((Ty.aB hdw.row).aF<|e▸Ty.aB z.aa) K3;go_upto_region 15 with fail
  go_cut[] (λwx=>wx=(d.setCell ⟨U,3,none⟩<|.slice a4 n4 p4).setCell ⟨Y,2,none⟩ (.slice none 0 0));case first=>go_wp2;go_meet;case rel=>rfl
  rename_i hgo;refine hgo _ _ ?_;have e4':V.gv=.slice a4 n4 p4:=by rw[e4,r.aa]
  have r:Kb [U,Y] d wc:=by rw[hcut];exact((Kb.refl [U,Y] d).setCell (p:=⟨U,3,none⟩) AI _).setCell (p:=⟨Y,2,none⟩) AI _
  have hty:∀k∈[U,Y],∀T,Ty d k T->T=38\/T=146:=λk u T hT=>by
   simp only[IF,Xk,XI]at u;rcases u with rfl|rfl
   .exact LZ (hT.aF<|Ty.aB z.aa)
   exact A4<|hT.aF<|Ty.aB hdw.row
  have N:∀{b e s n:Nat}{v:VL}{xs:Tn},e≠38/\e≠146->d.ownsRow b e s v n xs->wc.ownsRow b e s v n xs:=λb9 c=>r.aD c λk hb u=>(hty k u _<|Ty.az c hb).elim b9.1 b9.2;have HI:Hd (SdI y1.heap.size Y U gs K V R.w dL [] y1 wc):=by
   refine⟨?_,?_,N K3 hdw.pu,N K3 hdw.sl,⟨hdw.tl,fO (N K3 hdw.lg)<|In _,λi l t q ht=>N K3<|hdw.tp i l t q ht⟩,Xy _ _ _ _,λk r=>(by cases r),d9.aa.trans<|r.bel (λk u=>?_) d9.aa.size,hdw.hb,c9.aa,DO _⟩
   .rw[hcut];have h9:rowL (d.setCell ⟨U,3,none⟩<|.slice a4 n4 p4) Y 146 [V.pv,V.lv,V.gv]:=hdw.row.bH j4 _;exact(rowL.set (o:=2) h9 dL:)
   .rw[hcut,e4'];exact(rowL.bH (rowL.set (o:=3) z.aa<|.slice a4 n4 p4) j4.symm _:)
   simp only[IF,Xk,XI]at u;rcases u with rfl|rfl
   .exact c9.aa
   exact hdw.hb
  have q:Hd (S=⟨0,gs,K,R.w.lg,0,R.w.pu,R.w.sl.filter λs=> !s.br⟩):=by show S=_;rw[D.aa];unfold LE;rw[At c,e0.aa,d4.aa]
  exact KO q HI a8 b0 W HRW (j3.aa) ⟨_,W,W⟩
def WJ(T:TS):=∀e∈T.ay,e.aM.length<=4
def Nb(wk:Wk)(aS:Nat):=∀G T v fr Z,RunF G->aS<G.depth->G.ac<=100000->GoodT T->T.ch.length+T.ay.length+2+G.ac<=1000000->WJ T->WJ (wk G T v fr Z).2
def VM{X:Nat}(Q:Nb wk X)(Y:X<=F.depth)(U:F.ac<=100000)(Y:GoodT T)(d:T.ch.length+T.ay.length+F.ac<=1000000)(E:WJ T)(h:mh wk F T=some (F',T')):WJ T':=by
 rcases Rd h with rfl|⟨_,⟨d,c,H,I,rfl⟩|⟨L,rfl,H⟩⟩|⟨C,Z,v,data,G,H,I,O,J,V,rfl⟩
 .exact E
 .intro e D;rw[(tq T _ _ _ _).2]at D;exact E e D
 .intro e D;rcases Xr.1 D with D|D
  .exact E e D
  grind
 have R:=qg G C;exact Q _ T v _ Z (uw O J Y) (by show X<G.depth+1;rw[H.depth];omega) (by show eA G C<=_;omega) Y (by show T.ch.length+T.ay.length+2+eA G C<=_;omega) E
theorem Ia{wk:Wk}{A O:Nat}(hA:2<=A)(D:ET wk A O)(H:Nb wk O):∀(n:Nat)(F:Fz)(T:TS),RunF F->O<=F.depth->F.ac<=100000->GoodT T->T.ch.length+T.ay.length+F.ac<=1000000->WJ T->WJ (fw wk n F T).2
 |0,F,T,_,_,_,_,_,hS=>hS
 |n+1,F,T,hr,hd,hg,hT,hb,hS=>by
  rw[fw];by_cases J:F.aG=true
  .grind
  rw[iF J];let⟨L,s2⟩:=uY hA D hr hd hg hT hb;cases O:mh wk F T with
  |none=>exact hS
  |some y=>
   let⟨F',T'⟩:=y;have h:=s2 F' T' O;have E:=VM H hd hg hT hb hS O;dsimp only;have G:=h.cf;have C:=h.fx;have I:=h.ac;by_cases e:F'.aG=true
   .cases n with
    |zero=>exact E
    |succ n=>grind[fw]
   exact Ia hA D H n F' T' ⟨by rw[C.ae];exact hr.cs,by rw[C.data];exact hr.ds,h.rs,by rw[C.depth];exact hr.dp,h.nx (K9:F'.aG=false),h.pc,h.os,h.st⟩ (by rw[C.depth];exact hd) wq (hT.ext h.ext h.aO) wq E
theorem Pa:∀d,d<=16->Nb (dc d) (16-d)
 |0,_=>λG T v fr Z O Q=>by have:=O.dp;omega
 |d+1,h16=>λG T v fr Z O Q D Q U I=>by
  let⟨H,E,L,J⟩:=sN Q.aO v fr Z;have h:=Ia wq (BI d wq) (Pa d wq) (G.ac+2) G _ O wq D (Q.ext H E) K9 (λe C=>by rw[J]at C;exact I e C);show WJ (lD T (fw (dc d) (G.ac+2) G<|fU T v fr Z).2<|sT (fw (dc d) (G.ac+2) G<|fU T v fr Z).1);unfold lD;split
  .exact h
  intro e C;exact h e<|YY C
def Ve(E:GoodT<|T0 A)(G:data.size<=500)(D:g<=100000):WJ (jZ (T0 A) fr Z B data g).2:=Pa 16 (DO _) (rY (A Z).ae fr Z B data g) (T0 A) B fr Z ⟨E.cs Z,(by show data.size<=65536;omega),In _,(by show 1<=16;omega),In _,In _,In _,In _⟩ (by show 16-16<1;omega) D E (by show 0+0+2+g<=_;omega)<|λe C=>by cases C
def zN(h:a%M=b%M)(P:RW):(ks a P).mo=(ks b P).mo/\(ks a P).ae=(ks b P).ae:=by unfold ks;rw[funext λp=>xP h];cases P.pu.find? λp=>gN p.aj b<;>exact⟨W,W⟩
def CZ(J:RelW (T0 A) P)(E:Cd P):GoodT (T0 A):=by
 refine⟨λm C e=>?_,λa=>?_,λc D=>by cases D⟩
 .have H:(A m).ai=(A C).ai:=(J.ai m).trans<|(zN e P).1.trans (J.ai C).symm;have G:(A m).ae=(A C).ae:=(J.ae m).trans<|(zN e P).2.trans (J.ae C).symm;have I:(A m).ar=(A C).ar:=funext λk=>(J.aK m k).trans ((by grind[fu,tw]:fu _ m k P=fu _ C k P).trans (J.aK C k).symm);show A m=A C;generalize A m=p at*;generalize A C=q at*;cases p;simp_all
 rw[J.ae a];unfold ks;cases J:P.pu.find? λp=>gN p.aj a with
 |none=>exact In _
 |some p=>exact E.1 p<|Zt J
structure SnL where
 st:Nat
 ac:Nat
 aa:BA
 lg:List LogE
 er:Int
 aw:Nat->Acc
def kH(A:Nat->Acc)(fr Z B:Nat)(data:BA)(g:Int):SnL:=
 if data.size<=500/\0<=g/\g<=100000 then
  if decide (gP (A fr).ai B<0)=true then⟨0,0,⟨#[]⟩,[],5,A⟩
  else⟨(jZ (T0 A) fr Z B data g.toNat).1.st,(jZ (T0 A) fr Z B data g.toNat).1.ac,(jZ (T0 A) fr Z B data g.toNat).1.aa,(jZ (T0 A) fr Z B data g.toNat).2.ay,0,(jZ (T0 A) fr Z B data g.toNat).2.aw⟩
 else⟨0,0,⟨#[]⟩,[],1,A⟩
structure Alike(R:SnL)(pu:List Pur)(sl:List Slt)(S:SnD):Prop where
 st:R.st=S.st
 ac:R.ac=S.ac
 aa:R.aa=S.aa
 lg:R.lg=S.lg
 er:R.er=S.er
 ll:R.lg.length<=100000
 tp:∀e∈R.lg,e.aM.length<=4
 rel:RelW (T0 R.aw) ⟨S.pu,S.sl,[]⟩
 cd:Cd ⟨S.pu,S.sl,[]⟩
 lpu:S.pu.length<=pu.length+2003
 lsl:S.sl.length<=sl.length+1000
 lct:gF ⟨S.pu,S.sl,[]⟩<=gF ⟨pu,sl,[]⟩+501
def QY(a b:Nat):decide (gP a b<0)=iX a b:=by grind[xm,gP,OsQ,W8]
def Le(l:List LogE):gF ⟨pu,sl.filter λs=> !s.br,[]⟩=gF ⟨pu,sl,l⟩:=by unfold gF;grind[List.countP_filter]
def NU(fr Z B:Nat)(data:BA)(g:Int)(l:RelW (T0 A) ⟨pu,sl,[]⟩)(R:Cd ⟨pu,sl,[]⟩)(n:pu.length<=800000000)(i:sl.length<=800000000):(data.size<=500/\0<=g/\g<=100000->(fP fr Z B ⟨pu,sl,[]⟩).1=true->OkR (zl (ag Z (fP fr Z B ⟨pu,sl,[]⟩).2).2 (ag Z (fP fr Z B ⟨pu,sl,[]⟩).2).1 fr Z B data g.toNat))/\Alike (kH A fr Z B data g) pu sl (tj pu sl fr Z B data g):=by
 have q:=CZ l R;have N:∀e:Int,Alike ⟨0,0,_,[],e,A⟩ pu sl ⟨0,0,⟨#[]⟩,[],e,pu,sl⟩:=λe=>⟨W,W,W,W,W,In _,λe V=>(by cases V),l,R,X7 _ _,X7 _ _,X7 _ _⟩
 by_cases E:data.size<=500/\0<=g/\g<=100000;case neg=>grind[absurd,kH,tj]
 let⟨u,k,r⟩:=E;obtain⟨m,rfl⟩:∃m:Nat,g=m:=⟨g.toNat,wq⟩
 have o:m<=100000:=wq
 let⟨X,J⟩:=l.move q.aO fr Z B;let⟨L,c,_,p⟩:=wW fr Z B ⟨pu,sl,[]⟩;have O:decide (gP (A fr).ai B<0)= !(fP fr Z B ⟨pu,sl,[]⟩).1:=by
  rw[QY,X];unfold iX;by_cases h:(A fr).ai%M<B%M
  .rw[OsQ h,W8 (by show¬B%M<=(A fr).ai%M;omega)];rfl
  rw[W8 h,OsQ (by show B%M<=(A fr).ai%M;omega)];rfl
 unfold kH tj;have E:data.size<=500/\0<=(m:Int)/\(m:Int)<=100000:=⟨u,k,r⟩
 rw[At E,At E,O];generalize fP fr Z B ⟨pu,sl,[]⟩=y at*;let⟨ok,C⟩:=y;cases ok with
 |false=>grind
 |true=>
  rw[iF<|Bool.noConfusion,At W];dsimp only at L c p J⊢;rw[show(m:Int).toNat=m from W];have I:(mB (ag Z C).2 (ag Z C).1).ae=(A Z).ae:=by rw[mi,<-(J W).ae Z];exact(sN q.aO _ fr Z).1.ae Z
  have r:zl (ag Z C).2 (ag Z C).1 fr Z B data m=eO (rY (A Z).ae fr Z B data m) (ag Z C).2:=by unfold zl;rw[I];rfl
  have v:=O2 q l ((J W).bX Z) u o;have c:=(iG Z C).2;have D:=kK Z C;have Y:=lh Z C;have U:=(mr Z C).bp<|L.bp R;rw[r];generalize(ag Z C).2=Q at*;have j:GoodR (eO (rY (A Z).ae fr Z B _ m) Q):=⟨q.cs Z,(by show data.size<=_;omega),In _,In _,In _,(by show 1<=16;omega),U,(by show 50*Q.pu.length+m<=_;have:(⟨pu,sl,[]⟩:RW).pu.length=pu.length:=rfl;omega),(by show 100*Q.sl.length+m<=_;rw[D.1,L.sl];show 100*sl.length+m<=_;omega),(by show Q.lg.length+m<=_;rw[D.2,L.lg];show 0+m<=_;omega)⟩
  have r:=sU 16<|eO (rY (A Z).ae fr Z B data m) Q;have c:50*(iR 16 _).w.pu.length+(iR 16 _).ac<=50*Q.pu.length+m:=r.pu;have p2:100*(iR 16 _).w.sl.length+(iR 16 _).ac<=100*Q.sl.length+m:=r.sl;have K:(iR 16 _).w.lg.length+(iR 16 _).ac<=Q.lg.length+m:=r.lg;have p4:200*gF _+(iR 16 _).ac<=200*gF Q+m:=r.ct;have H:=Qi (d:=15) (G:=eO (rY (A Z).ae fr Z B data m) Q);have f:=Ve (fr:=fr) (Z:=Z) (B:=B) q u o;rw[D.2,L.lg,show(⟨pu,sl,[]⟩:RW).lg.length=0 from W]at K;rw[D.1,L.sl,show(⟨pu,sl,[]⟩:RW).sl.length=sl.length from W]at p2;have c:gF C<=gF _+1:=By p (Nat.add_le_add_left (by split<;>omega) _);rw[Y]at p4;unfold OkR;generalize iR 16 (eO (rY (A Z).ae fr Z B data m) Q)=S at*;generalize jZ (T0 A) fr Z B data m=z at*;let⟨⟨st,gs,aa⟩,T'⟩:=z;unfold LE;rcases v with⟨v,c,q,u,x⟩|⟨v,c,⟨q,u,x⟩|⟨q,u,x,e6⟩⟩
  .refine⟨λ_ _=>⟨j,wq,wq⟩,?_⟩;rw[AQ];let⟨t,f2⟩:=H c;cases(x:T'=T0 A);exact⟨(by show st=S.ao-1;rw[c];exact v),(by show gs=S.ac;rw[t];exact q),(by show aa=S.aa;rw[f2];exact u),W,W,In _,λe V=>(by cases V),l,R,X7 _ _,X7 _ _,X7 _ _⟩
  .refine⟨λ_ _=>⟨j,wq,wq⟩,?_⟩;rw[AQ];cases(x:T'=T0 A);exact⟨(by show st=S.ao-1;rw[u];exact q),v,c,W,W,In _,λe V=>(by cases V),l,R,X7 _ _,X7 _ _,X7 _ _⟩
  refine⟨λ_ _=>⟨j,wq,wq⟩,?_⟩;rw[At u];refine⟨q,v,c,e6.lg,W,?_,f,e6.clear,(r.bp U).clear,?_,?_,?_⟩
  .show T'.ay.length<=_;rw[e6.lg];omega
  .show S.w.pu.length<=_;omega
  .show(S.w.sl.filter λs=> !s.br).length<=_;have:=List.length_filter_le (λs:Slt=> !s.br) S.w.sl;omega
  show gF ⟨S.w.pu,S.w.sl.filter λs=> !s.br,[]⟩<=_;rw[Le S.w.lg];show gF S.w<=_;omega
end
section
variable {rs:List Rs}
section
variable {q:List Rs}{L:List LogE}
def MP(O:Nat)(x:WD)(q:List Rs):Rs:=⟨λk=>O<=k/\k<x.heap.size/\∀r∈q,¬r.F k,λy=>x.heap.size<=y.heap.size/\∀k,O<=k->k<x.heap.size->(∀r∈q,¬r.F k)->y.heap[k]?=x.heap[k]?,λh hk=>Xg hk.2.1 h.1,λh hs he=>⟨By h.1 hs,λk h1 h2 h3=>(he k ⟨h1,h2,h3⟩).trans<|h.2 k h1 h2 h3⟩⟩
def Sep.fix(h:Sep O (q++rs) x):Sep O (q++[MP O x q]) x:=by
 let⟨D,_,_⟩:=XW.1 h.p;refine⟨λr G=>?_,XW.2 ⟨D,XO _ _,λr G s I k E C=>?_⟩,h.s⟩
 .rcases Xr.1 G with G|G
  .exact h.i r (Xw _ G)
  rw[BY.1 G];exact⟨⟨DO _,λ_ _ _ _=>W⟩,λk H=>H.1⟩
 rw[BY.1 I]at C;exact C.2.2 r G E
def Sep.cF(h:Sep O (q++rs) x)(C:Sep O (q'++[MP O x q]) y):Sep O (q'++rs) y:=by
 let⟨P,p2,E⟩:=XW.1 h.p;let⟨p4,_,G⟩:=XW.1 C.p;let⟨I,Q⟩:=(C.i _<|Xn _<|YL _).1;have N:∀r∈rs,∀k,r.F k->O<=k/\k<x.heap.size/\∀s∈q,¬s.F k:=λr U k V=>⟨(h.i r<|Xn _ U).2 k V,r.lt (h.i r<|Xn _ U).1 V,λs X D=>E s X r U k D V⟩
 refine⟨λr U=>?_,XW.2 ⟨p4,p2,λr U s X k J H=>G r U _ (YL _) k J<|N s X k H⟩,C.s⟩;rcases Xr.1 U with U|U
 .exact C.i r (Xw _ U)
 have D:=h.i r<|Xn _ U;refine⟨r.fr D.1 I λk V=>?_,D.2⟩;grind
def Sep.add2(h:Sep O rs y)(D:∀r∈q,r.I y)(H:q.Pairwise λr s=>∀k,r.F k->¬s.F k)(C:∀r∈q,∀k,r.F k->O<=k)(G:∀r∈q,∀s∈rs,∀k,r.F k->¬s.F k):Sep O (q++rs) y:=⟨λr E=>(Xr.1 E).elim (λE=>⟨D r E,C r E⟩)<|h.i r,XW.2 ⟨H,h.p,G⟩,h.s⟩
def Rt(L:List LogE)(tv:Tn):LT:=(L.zip tv).map λp=>(p.2,p.1.aM.length,fj p.1.aM)
def yl{t:VL×Nat×Tn}(h:(Rt L tv)[i]?=some t):∃l u,L[i]?=some l/\tv[i]?=some u/\t=(u,l.aM.length,fj l.aM):=by grind[Rt]
def VE(h:tv.length=L.length):(Rt L tv).length=L.length:=by grind[Rt]
def tsL_x(h:tv.length=L.length)(i:Nat)(t:VL×Nat×Tn)(E:(Rt L tv)[i]?=some t):(qM L tv)[i*6+4]?=some t.1:=by obtain⟨l,u,D,C,rfl⟩:=yl E;have G:=(Do.1 D).1;rw[P9 h G 4 wq];rw[iN wq]at C;cases hV C;rfl
abbrev Fw(lv:VL)(tv:Tn)(L:List LogE):List Rs:=fp 112 6 lv L.length (qM L tv)::(Rt L tv).map (rh 0)
def IK(h:Sep O rs y)(a:O<=b)(Q:Lo y b lv tv L)(w:∀r∈rs,∀k,r.F k->k<b\/∃R cl,y.heap[k]?=some (.map R cl)):Sep O (Fw lv tv L++rs) y:=by
 let⟨K,H,f,X⟩:=Q;have D:∀r∈(Rt L tv).map (rh 0),∃(u:VL)(l:LogE),y.ownsRow b 24 4 u l.aM.length (fj l.aM)/\r=rh 0 (u,l.aM.length,fj l.aM):=λr v=>by obtain⟨t,V,rfl⟩:=Xq.1 v;let⟨i,c⟩:=XM V;obtain⟨l,u,U,J,rfl⟩:=yl c;exact⟨u,l,f i l u U J,W⟩
 have G:∀r∈Fw lv tv L,∀k,r.F k->b<=k/\∃T,Ty y k T:=λr v k e=>by
  rcases IF.1 v with rfl|v
  .exact⟨(H.lt k e).1,_,Ty.az H e⟩
  obtain⟨u,l,E,rfl⟩:=D r v;exact⟨(E.lt k e).1,_,Ty.az E e⟩
 refine h.add2 (λr v=>?_) ?_ (λr v k e=>By a (G r v k e).1) λr v s a k e C=>?_
 .rcases IF.1 v with rfl|v
  .exact fO H (In _)
  obtain⟨u,l,E,rfl⟩:=D r v;exact fO E<|In _
 .refine XT.2 ⟨λr v k e C=>?_,?_⟩
  .obtain⟨u,l,E,rfl⟩:=D r v;exact absurd ((Ty.az H e).aF<|Ty.az E C) K3
  refine YJ.2<|Y7.2 λi j c o I k e C=>?_;let⟨l,u,U,J,m⟩:=yl<|iN c;let⟨c,N,S,g,p⟩:=yl<|iN o;rw[m]at e;rw[p]at C;let⟨c,q2⟩:=Do.1 J;let⟨Y,Z⟩:=Do.1 g;have:=Y7.1 X i j c Y I k (by rw[q2];exact e);rw[Z]at this;exact this C
 let⟨c,T,g2⟩:=G r v k e;rcases w s a k C with P|⟨R,cl,P⟩
 .omega
 let⟨c,z,d⟩:=g2;rw[d]at P;cases P
def Sep.lgs(h:Sep O (Fw lv tv L++rs) y)(G:tv.length=L.length):Low y 0 lv tv L:=by
 refine⟨G,h.hd,λi l t E D=>?_⟩;have C:(Rt L tv)[i]?=some (t,l.aM.length,fj l.aM):=by grind[Rt]
 exact(h.i _<|Xw _<|IN _<|Xq.2 ⟨_,Xe C,W⟩).1
end
def J0{O:Nat}{rs:List Rs}{x:WD}(fr Z B:Nat)(data:BA)(g:Int)(h:Sep O (fN gb ab n A sb::rs) x)(hz:Zr x)(hA:GoodT<|T0 A)(hn:n+3400010<800000000000):cP 13 #[pt gb,nz fr Z B data g] x λe y=>∃lv tv E H,e=.returned (.tuple #[iy (kH A fr Z B data g).st (kH A fr Z B data g).ac (kH A fr Z B data g).aa lv,iI (kH A fr Z B data g).er])/\E<=n+3400010/\tv.length=(kH A fr Z B data g).lg.length/\Sep O (Fw lv tv (kH A fr Z B data g).lg++fN gb ab E (kH A fr Z B data g).aw H::rs) y/\Below O x y:=by
 have R:HostAt gb ab n A sb x:=⟨h.hd.row,h.hd.aw,hz⟩
 have U:=h.ge<|LZ W;have Q:∀y (d:Sep _ _ y),Sep O (Fw dL [] []++fN gb ab n A sb::rs) y:=λy d=>IK d d.s ⟨W,Xy _ _ _ _,λi l t f=>K2,List.Pairwise.nil⟩ λr c k Y=>LZ<|d.lts r c k Y;unfold kH;by_cases C:data.size<=500/\0<=g/\g<=100000
 .rw[At C];obtain⟨m,rfl⟩:∃m:Nat,g=m:=⟨g.toNat,wq⟩
  refine(NX fr Z m x R C.1 wq hA hn).mono ?_;rintro e y c;unfold WA at c;rw[show(m:Int).toNat=m from W];by_cases f:decide (gP (A fr).ai B<0)=true
  .rw[At f]at c⊢;obtain⟨rfl,D,Y⟩:=c;have d:Sep _ (fN gb ab n A sb::rs) y:=h.kb ⟨D.row,D.aw⟩ Y (λk Y=>LZ<|BY.1 Y) λk Y=>LZ Y;exact⟨_,[],n,sb,W,X7 _ _,W,Q y d,Y.bel (λk Y=>K9) h.s⟩
  rw[iF f]at c⊢;obtain⟨lv,b,tv,E,H,rfl,D,P,f,I,⟨S2,Y,X⟩,J⟩:=c;have G:∀k∈gb::S2,(fN gb ab n A sb).F k:=λk Y=>(IF.1 Y).imp id<|X k;have d:Sep _ (fN gb ab E _ _::rs) y:=h.kb ⟨D.row,D.aw⟩ Y G λk Y=>Y.elim (λe=>LZ<|LZ e) λV=>(J k V).imp A4 id;refine⟨lv,tv,E,_,W,P,I.1,IK d (By h.s f) I λr c k Y=>?_,Y.bel (λk Y=>h.ge<|G k Y) h.s⟩;rcases IF.1 c with rfl|c
  .rcases Y with rfl|Y
   .exact LZ (Xg h.hd.row.lt f)
   exact A4<|D.aw.isMap Y
  exact LZ<|Xg (h.tl.lts r c k Y) f
 rw[iF C];refine(Re fr Z g C x).mono ?_;rintro e y⟨rfl,f⟩;exact⟨_,[],n,sb,W,X7 _ _,W,Q y<|h.below f,f.mono h.s⟩
variable {B:Nat}
def DF{mb fr Z B:Nat}{data:BA}{g:Int}{G:Vr}(h:tG s t<|pt mb)(C:rowL x mb 43<|kZ fr Z B data g)(E:K (Wb s d<|nz fr Z B data g) x):Oper.wp prog ⟨some d,.load 43<|.tmp t,G,pos,af,gd⟩ s x K Q:=by have mm:=C.cs;simp only[oI,kZ,wl,XN,XG,Nat.reduceAdd]at mm;go_simp;exact E
def Am{E:Vr}(C:K (Wb s d<|pt x.heap.size)<|x.alloc zd):Oper.wp prog ⟨some d,.alloc 38,E,pos,af,gd⟩ s x K Q:=by go_simp;exact C
def CallK(st gs:Nat)(aa:BA)(er:Int)(D:VL->X4):Kp:=λp v x=>p≠0/\∃ad m c,v=.tuple #[iy st gs aa<|.slice ad m c,.int .i64 er]/\(p=1->D (.slice ad m c) x)
def ResK(st gs:Nat)(aa:BA)(D:VL->X4):Kp:=λp v x=>p≠0/\∃ad m c,v=iy st gs aa (.slice ad m c)/\(p=1->D (.slice ad m c) x)
def RowK(Zq9:Nat->X4)(D2:Nat->VL->X4):Kp:=λp v x=>∃b,v=pt b/\(p<=1->Zq9 b x)/\(p=2->∃lv,D2 b lv x)
def PhSn(P0:X4)(D:VL->X4)(D2:Nat->VL->X4):Nat->X4
 |0,x=>P0 x
 |1,x=>∃lv,D lv x
 |_,x=>∃b lv,D2 b lv x
def Po(d:Nat)(Zq9:Nat->X4)(D2:Nat->VL->X4):Nat->Act->WD->X4
 |0,_,x,x'=>∀b,Zq9 b x->Zq9 b x'
 |_,s,_,x'=>∃b lv,s.tmps.getD d undef=pt b/\D2 b lv x'
section
variable {g:Int}{D:VL->X4}
def E9(E:∀x x',P0 x->bW x x'->P0 x')(C:∀H x x',D H x->bW x x'->D H x')(G:∀b H x x',D2 b H x->bW x x'->D2 b H x')(k:Nat)(x x':WD)(h:PhSn P0 D D2 k x)(I:bW x x'):PhSn P0 D D2 k x':=by
 match k,h with
 |0,h=>exact E x x' h I
 |1,⟨H,h⟩=>exact⟨H,C H x x' h I⟩
 |_+2,⟨b,H,h⟩=>exact⟨b,H,G b H x x' h I⟩
def CallK.bel{x:WD}(L:CallK st gs aa er D p v x)(C:∀J x x',D J x->bW x x'->D J x')(J:bW x x'):CallK st gs aa er D p v x':=by let⟨G,I,m,c,E,H⟩:=L;exact⟨G,I,m,c,E,λh=>C _ x x' (H h) J⟩
def ResK.bel{x:WD}(L:ResK st gs aa D p v x)(C:∀J x x',D J x->bW x x'->D J x')(J:bW x x'):ResK st gs aa D p v x':=by let⟨G,I,m,c,E,H⟩:=L;exact⟨G,I,m,c,E,λh=>C _ x x' (H h) J⟩
def RowK.bel{x:WD}(L:RowK Zq9 D2 p v x)(bZ:∀b x x',Zq9 b x->bW x x'->Zq9 b x')(H:∀b I x x',D2 b I x->bW x x'->D2 b I x')(J:bW x x'):RowK Zq9 D2 p v x':=by let⟨b,E,C,G⟩:=L;exact⟨b,E,λh=>bZ b x x' (C h) J,λh=>(G h).imp λI h=>H b I x x' h J⟩
def rP{x:WD}(hne:¬p=0)(I:p<2)(I:CallK st gs aa er D p v x):CallK st gs aa er D (p+1) v x':=by let⟨G,E,m,c,C,H⟩:=I;exact⟨Nat.succ_ne_zero _,E,m,c,C,λh=>absurd h wq⟩
def vz{x:WD}(E:p<2)(C:CallK st gs aa er D p v x):CallK st gs aa er D (p+1) v x':=rP C.1 E C
def Av{x:WD}(I:p<2)(I:ResK st gs aa D p v x):ResK st gs aa D (p+1) v x':=by let⟨G,E,m,c,C,H⟩:=I;exact⟨Nat.succ_ne_zero _,E,m,c,C,λh=>absurd h wq⟩
def zP{s:Act}{x:WD}(I:p<2)(hrel:Po d Zq9 D2 p s x x')(H:RowK Zq9 D2 p (iY s<|some d) x):RowK Zq9 D2 (p+1) (iY s<|some d) x':=by
 let⟨b,E,C,G⟩:=H;match p,I,hrel with
 |0,_,h=>exact⟨b,E,λ_=>h b<|C<|In _,λh=>absurd h wq⟩
 |1,_,⟨b',lv,e1,e2⟩=>exact⟨b',e1,λh=>absurd h wq,λ_=>⟨lv,e2⟩⟩
def rO{f V:Nat}(hn:(r=1/\f=13/\V=0/\d=0/\e=0)\/(r=2/\f=41/\V=1/\d=9/\e=2)){a:Act}{Q:Y6}(hs:a.tmps.size=66)(q:tG a 0<|pt pb)(a4:tG a 4<|pt mb)(h0:P0 w.drew)(q:∀x x',P0 x->bW x x'->P0 x')(X:∀u x x',D u x->bW x x'->D u x')(bZ:∀b x x',Zq9 b x->bW x x'->Zq9 b x')(n:∀b u x x',D2 b u x->bW x x'->D2 b u x')(hl:∀x,P0 x->cL x pb V (pt U))(Y:∀x,P0 x->rowL x mb 43 (kZ fr Z B data g))(hc:∀x,P0 x->cP f #[pt U,nz fr Z B data g] x λe z=>∃L m c,e=.returned (.tuple #[iy st gs aa<|.slice L m c,iI er])/\D (.slice L m c) z/\∀b,Zq9 b x->Zq9 b z)(z0:∀x,P0 x->Zq9 x.heap.size (x.alloc zd))(z1:∀u x,D u x->Zq9 x.heap.size (x.alloc zd))(zr:∀b x,Zq9 b x->ResAt x b 0 0 ⟨#[]⟩ dL)(T:∀b u x,D u x->Zq9 b x->D2 b u (gB x b st gs aa u))(hQ:∀(u1 u2 u3:VL) b u x,D2 b u x->Q .normal (dQ a [(13+d,pt pb),(14+d,pt pb),(15+d,pq pb V),(16+d,pt U),(17+d,nz fr Z B data g),(18+d,u1),(12+d,u2),(19+d,u3),(20+d,iI er),(7+e,pt b),(8+e,iI er)]) x):(ym f18 r).wp prog Q a w:=by
 have hd:0<=d:=In _;have o:0<=e:=In _;rcases hn with⟨rfl,rfl,rfl,rfl,rfl⟩|⟨rfl,rfl,rfl,rfl,rfl⟩;all_goals
  refine jB _ (λx=>dO _ x) _ (Po (7+gD o) Zq9 D2) [(0,pt pb),(4,pt mb)] [(some<|13+gD hd,.v<|pt pb),(some<|14+gD hd,.v<|pt pb),(some<|15+gD hd,.v _),(some<|16+gD hd,.v _),(some<|17+gD hd,.v _),(some<|18+gD hd,.l<|CallK st gs _ er D),(some<|12+gD hd,.l<|CallK st gs _ er D),(some<|19+gD hd,.l<|ResK st gs _ D),(some<|20+gD hd,.v _),(some<|7+gD o,.l<|RowK Zq9 D2),(none,.v _),(some<|8+gD o,.v<|iI er)] [5,10] [3,4,6,7,8,9] [] (ha:=⟨N0,by rw[hs];rfl,K9,N0⟩) K2 K2 h0 (E9 q X n)
   ⟨(λC hv H=>by
    refine o6 @hv (hc _ C) (λv x' h=>?_) (λl x' h=>K9)<|λx' h=>K9;obtain⟨L,m,c,h1,q,h3⟩:=h;cases ZH h1;exact H _ x' ⟨_,q⟩ h3 nn1 ⟨Nat.one_ne_zero,L,m,c,W,λ_=>q⟩),(@λs x I E K C hv H=>by
    obtain⟨b,j,O,_⟩:=E (7+gD o) _ W;obtain⟨_,L,m,c,R,y⟩:=E (19+gD hd) _ W;have P:=T b _ x (y W)<|O<|DO _;exact pN j R (zr b x<|O<|DO _)<|H _ _ ⟨b,_,P⟩ ⟨b,_,j,P⟩ (λ_=>W) W),AF⟩
   ⟨(@λk s x q J I E K G C hv H=>by
    obtain rfl:k=0:=by have:=G 0 5;omega
    exact dm (hv W) (hl x C)<|kx H),(@λk s x q J I E K G C hv H=>by
    obtain rfl:k=0:=by have:=G 0 5;omega
    exact DF (hv W) (Y x C)<|kx H),(@λk s x q J I E K G C hv H=>gW W<|H _ x (dO _ _) nn1<|E (18+gD hd) _ W),(@λk s x q J I E K G C hv H=>by
    obtain⟨N,L,m,c,R,y⟩:=E (12+gD hd) _ W;exact IJ R<|H _ x (dO _ _) nn1 ⟨N,L,m,c,W,y⟩),(@λk s x q J I E K G C hv H=>by
    obtain⟨N,L,m,c,R,y⟩:=E (12+gD hd) _ W;exact I0 R<|kx H),(@λk s x q J I E K G C hv H=>by
    have S:=G 1 10;refine Am<|H _ _ (ai (dO _ x) _) nn1 ⟨_,W,λ_=>?_,λh=>absurd h wq⟩;match k,S,C with
    |0,_,h=>exact z0 x h
    |1,_,⟨u,h⟩=>exact z1 u x h),AF⟩
   (λi d T9 hq p s x x' A hp C hrel q=>by
    rcases zZ ((Do.1 hq).1)with rfl|rfl|rfl|rfl|rfl|rfl|rfl|rfl|rfl|rfl|rfl|rfl;all_goals first
     |(cases hq;done)
     |(obtain⟨rfl,e9⟩:=Xi (hV hq)
       cases Zk e9;first
        |exact rP (λh=>A (by rw[h];rfl)) hp q
        |exact vz hp q
        |exact Av hp q
        |exact zP hp hrel q))
   (λi d T9 hq p v x x' C hb q=>by
    have Y:=Xe hq;simp only[IF,XV,reduceCtorEq,Zb,Za,XI,Xk,En.l.injEq]at Y;rcases Y with⟨-,rfl⟩|⟨-,rfl⟩|⟨-,rfl⟩|⟨-,rfl⟩
    .exact q.bel X hb
    .exact q.bel X hb
    .exact q.bel X hb
    exact q.bel bZ n hb) ?_
  intro F x C q;obtain⟨b,j,_,O⟩:=q 9 _ _ W;obtain⟨u,O⟩:=O W;have P:=hQ (F 5) (F 6) (F 7) b u x O;rwa[<-j]at P
end
variable {RS:List Rs}
def NoT(T:Nat)(r:Rs):=∀(x:WD)(k:Nat),r.I x->r.F k->¬Ty x k T
theorem JE{T:Nat}(h:T≠e):NoT T (fp e sz v n xs):=λx k C E D=>h<|D.aF<|Ty.az C E
def ED:NoT 38 (fN gb ab n A sb):=λx k C I D=>by
 rcases I with rfl|I
 .exact absurd (D.aF<|Ty.aB C.row) K3
 let⟨H,cl,h⟩:=C.aw.isMap I;let⟨I,E,G⟩:=D;grind
def Jf:NoT 38 (iK hb pu sl pv lv):=λx k C E D=>by
 rcases E with rfl|E|E
 .exact absurd (D.aF<|Ty.aB C.row) K3
 .exact absurd (D.aF<|Ty.az C.pu E) K3
 exact absurd (D.aF<|Ty.az C.sl E) K3
def Rz{L:List LogE}:∀r∈Fw lv tv L,NoT 38 r:=λr C=>by
 rcases IF.1 C with rfl|C
 .grind[JE]
 obtain⟨t,_,rfl⟩:=Xq.1 C;exact JE K3
def Zrow(O:Nat)(RS:List Rs)(b:Nat)(x:WD):=rowL x b 38 [.int .u8 0,.int .i64 0,.string ⟨#[]⟩,dL]/\O<=b/\∀r∈RS,¬r.F b
section
variable {q:List Rs}
def Zrow.below(h:Zrow O RS b x)(hb:bW x y):Zrow O RS b y:=⟨h.1.below hb,h.2⟩
def Zrow.new(h:Sep O (q++RS) x):Zrow O RS x.heap.size (x.alloc zd):=⟨rowL.al x [iB 0,iI 0,.string ⟨#[]⟩,dL] _,h.s,λr D C=>absurd (h.lts r (Xn _ D) _ C)<|Yg _⟩
def Zrow.bz(h:Zrow O RS b x):ResAt x b 0 0 ⟨#[]⟩ dL:=⟨⟨h.1.cell W,h.1.cell W,h.1.cell W,h.1.cell W⟩,World.rowIs.frozen h.1 0,World.rowIs.frozen h.1 1,World.rowIs.frozen h.1 2,World.rowIs.frozen h.1 3⟩
def Zrow.call(h:Zrow O RS b x)(J:Sep O (q++RS) x)(I:∀r∈q,NoT 38 r)(D:Sep O (q'++[MP O x q]) y):Zrow O RS b y:=by let⟨E,C⟩:=(D.i _<|Xn _<|YL _).1;refine⟨World.rowIs.of_block h.1<|C b h.2.1 (World.rowIs.lt h.1) λr G H=>?_,h.2⟩;exact I r G x b (J.i r<|Xw _ G).1 H<|Ty.aB h.1
theorem Zrow.put(h:Zrow O RS b x)(U:Sep O (q++RS) x)(V:∀r∈q,NoT 38 r)(st gs:Nat)(aa:BA)(lv:VL):Sep O (gj b 38 [iB (st:Int),iI (gs:Int),.string aa,lv]::(q++RS)) (gB x b st gs aa lv)/\Below O x (gB x b st gs aa lv):=by
 have H:Sep _ ([gj b 38 _]++(q++RS)) x:=U.add2 (λr Q=>by rw[BY.1 Q];exact h.1) (XO _ _) (λr Q k P=>by rw[BY.1 Q]at P;rw[P];exact h.2.1) λr Q s C k P D=>by
  rw[BY.1 Q]at P;obtain rfl:k=b:=P;rcases Xr.1 C with C|C
  .exact V s C x k (U.i s<|Xw _ C).1 D (Ty.aB h.1)
  exact h.2.2 s C D
 let⟨J,E⟩:=Sep.set H 0<|iB st;let⟨G,b2⟩:=Sep.set J 1<|iI gs;let⟨L,b3⟩:=Sep.set G 2<|.string aa;let⟨I,b4⟩:=Sep.set L 3 lv;exact⟨I,((E.trans b2).trans b3).trans b4⟩
end
abbrev PB(pb gb ab n hb bb:Nat)(A:Nat->Acc)(sb:Vp)(pu:List Pur)(sl:List Slt)(pv lv:VL)(G:Nat->VL×Tn)(rs:List Rs):List Rs:=gj pb 106 [pt gb,pt hb]::fN gb ab n A sb::iK hb pu sl pv lv::eH bb G::rs
def pm3{α:Type}{C rs:List α}{a b c d e:α}:(a::(C++b::c::d::e::rs)).Perm (e::a::(C++b::c::d::rs)):=by rw[(K2:a::(C++b::c::d::e::rs)=(a::C++[b,c,d])++e::rs),(K2:e::a::(C++b::c::d::rs)=e::((a::C++[b,c,d])++rs))];exact X6
def pm4{α:Type}{C rs:List α}{a b c d e f g:α}:(a::b::c::(C++d::e::f::g::rs)).Perm (g::(C++a::b::c::d::e::f::rs)):=by rw[(K2:a::b::c::(C++d::e::f::g::rs)=([a,b,c]++(C++[d,e,f]))++g::rs)];refine X6.trans<|List.Perm.cons _ ?_;rw[show[a,b,c]++(C++[d,e,f])++rs=[a,b,c]++(C++([d,e,f]++rs)) by simp];exact List.perm_append_comm_assoc _ _ _
def pm7{α:Type}{rs:List α}{k d r h m p:α}:(k::d::r::h::m::p::rs).Perm (r::m::p::h::d::k::rs):=by have e:([p,m,h,r]).Perm [r,m,p,h]:=(X6 (l₁:=[p,m,h])).trans<|List.Perm.cons _<|List.Perm.swap _ _ _;exact((List.reverse_perm [k,d,r,h,m,p]).symm.trans<|e.append_right _).append_right rs
def KP{O:Nat}{G:Nat->VL×Tn}{x:WD}(fr Z:Nat)(g:Int)(h:Sep O (PB pb gb ab n hb bb A sb pu sl pv lv G rs) x)(hz:Zr x)(h0:0<O)(hc:Cd ⟨pu,sl,[]⟩)(hr:RelW (T0 A) ⟨pu,sl,[]⟩)(hn:n<=400000000000)(d3:pu.length<=400000000)(b9:sl.length<=400000000)(h4:∀k,(G k).2.length%4=0)(hG:∀k,(G k).2.length+400000<=4000000000000):cP 18 #[pt pb,nz fr Z B data g,pt bb] x λe y=>e=.returned (.bool true)/\∃w E Y C P J H I m,Sep O (PB pb gb ab E hb bb Y C P J H I w rs) y/\Below O x y/\E<=n+3400010/\RelW (T0 Y) ⟨P,J,[]⟩/\Cd ⟨P,J,[]⟩/\P.length<=pu.length+2003/\J.length<=sl.length+1000/\gF ⟨P,J,[]⟩<=gF ⟨pu,sl,[]⟩+501/\m<=100000/\EG G w λk=>if k=1 then 4 else if k=0 then 4*m else 0:=by
 obtain⟨b7,hal⟩:=NU fr Z B data g hr hc (By d3 wq)<|By b9 wq;have c0:=cV<|CZ hr hc;have d:Hd (∀(n:Nat)(rs:List Rs)(y:WD),n+3400010<800000000000->Sep O (fN gb ab n A sb::rs) y->Zr y->cP 13 #[pt gb,nz fr Z B data g] y λe z=>∃lv tv E C,e=.returned (.tuple #[iy (kH A fr Z B data g).st (kH A fr Z B data g).ac (kH A fr Z B data g).aa lv,iI (kH A fr Z B data g).er])/\E<=n+3400010/\tv.length=(kH A fr Z B data g).lg.length/\Sep O (Fw lv tv (kH A fr Z B data g).lg++fN gb ab E (kH A fr Z B data g).aw C::rs) z/\Below O y z):=λn rs y hn hs hz=>J0 fr Z B data g hs hz c0 hn;have j:Hd (∀(rs:List Rs)(y:WD),Sep O (iK hb pu sl pv lv::rs) y->cP 41 #[pt hb,nz fr Z B data g] y (EK O hb rs (tj pu sl fr Z B data g) y)):=λrs y hs=>EF fr Z g hs b7 (By d3 wq)<|By b9 wq;generalize kH A fr Z B data g=R at*;generalize tj pu sl fr Z B data g=S at*;obtain⟨st,gs,aa,L,er,Y⟩:=R;obtain⟨st',gs',out',L',er',P,J⟩:=S;obtain⟨e1,e2,e3,e4,e5,ll,tp,rel,cd,e6,e7,e0⟩:=hal;dsimp only at e1 e2 e3 e4 e5 ll tp rel cd e6 e7 e0 d;subst e1 e2 e3 e4 e5;unfold EK at j;dsimp only at j;have d5:=cV<|aIn rel<|aIn cd<|aIn e6<|aIn e7 e0;have K:=cV ll;have d1:=cV tp;have HZ:=cV hz;have HG4:=cV h4;have HGG:=cV hG;obtain⟨x1,F⟩:=hJ<|x.alloc<|.cells (kZ fr Z B data g).toArray 43;have a9:Hd (Below O x x1):=by rw[F];exact ai (dO _ x) _ |>.mono h.s
 have a0:Hd (Sep O (fN gb ab n A sb::gj x.heap.size 43 (kZ fr Z B data g)::gj pb 106 [pt gb,pt hb]::iK hb pu sl pv lv::eH bb G::rs) x1):=by rw[F];exact(h.row (kZ fr Z B data g) 43).bG
 obtain⟨mb,b1⟩:=hJ x.heap.size;rw[<-b1]at a0;clear h hz hc hr h4 hG rel cd e6 e7 e0 ll tp b7 c0;unfold nz;go_enter func18,ntmps18;go_upto_region 1 with fail
 change Code.wp _ _ _ _ (x.alloc<|.cells (kZ fr Z B data g).toArray 43);rw[<-F,<-b1];clear F b1;refine rO (LZ ⟨W,W,W,W,W⟩) (mb:=mb) (U:=gb) (fr:=fr) (Z:=Z) (B:=B) (data:=data) (g:=g) (st:=st) (gs:=gs) (aa:=aa) (er:=er)
  (P0:=λy=>Sep _ (fN gb ab n A sb::gj mb 43 (kZ fr Z B data g)::gj pb 106 [pt gb,pt hb]::iK hb pu sl pv lv::eH bb G::rs) y/\Below O x1 y)
  (D:=λlw y=>∃tv E C,E<=n+3400010/\tv.length=L.length/\Sep O (Fw lw tv L++fN gb ab E Y C::gj mb 43 (kZ fr Z B data g)::gj pb 106 [pt gb,pt hb]::iK hb pu sl pv lv::eH bb G::rs) y/\Below O x1 y)
  (Zq9:=Zrow O<|gj mb 43 (kZ fr Z B data g)::gj pb 106 [pt gb,pt hb]::iK hb pu sl pv lv::eH bb G::rs)
  (D2:=λb lw y=>∃tv E C,E<=n+3400010/\tv.length=L.length/\Sep O (gj b 38 [iB (st:Int),iI gs,.string aa,lw]::(Fw lw tv L++fN gb ab E Y C::gj mb 43 (kZ fr Z B data g)::gj pb 106 [pt gb,pt hb]::iK hb pu sl pv lv::eH bb G::rs)) y/\Below O x1 y)
  rfl W W ⟨a0.drew,(dO _ _).drew⟩ ?_ ?_ ?_ ?_ ?_ ?_ ?_ ?_ ?_ ?_ ?_ ?_
 .exact λy y' h hb=>⟨h.1.below hb,h.2.trans<|hb.mono h.1.s⟩
 .rintro lw y y' ⟨tv,E,C,q1,q2,Q,N⟩ hb;exact⟨tv,E,_,q1,q2,Q.below hb,N.trans<|hb.mono Q.s⟩
 .exact λb y y' h hb=>h.below hb
 .rintro b lw y y' ⟨tv,E,C,q1,q2,Q,N⟩ hb;exact⟨tv,E,_,q1,q2,Q.below hb,N.trans<|hb.mono Q.s⟩
 .exact λy h=>h.1.tl.tl.c 0 W
 .exact λy h=>h.1.tl.hd
 .intro y h;refine(d n _ y wq (Sep.fix (q:=[fN gb ab n A sb]) h.1)<|HZ.bq h0<|a9.trans h.2).mono ?_;rintro e z⟨lw,tv,E,C,rfl,q1,q2,Q,N⟩;obtain⟨f,cp,rfl⟩:=dt Q.hd;have q5:Sep O ((Fw (.slice f L.length cp) tv L++[fN gb ab E Y C])++[MP O y [fN gb ab n A sb]]) z:=by rwa[XL]
  have q6:=Sep.cF (q:=[fN gb ab n A sb]) h.1 q5;rw[XL]at q6;exact⟨f,_,cp,W,⟨tv,E,_,q1,q2,q6,h.2.trans N⟩,λb hz=>hz.call (q:=[fN gb ab n A sb]) h.1 (λr hr=>by rw[BY.1 hr];exact ED) q5⟩
 .exact λy h=>Zrow.new (q:=[fN gb ab n A sb]) h.1
 .rintro lw y ⟨tv,E,C,q1,q2,Q,N⟩;exact Zrow.new (q:=Fw lw tv L++[fN gb ab E Y _]) (by rw[XL];exact Q)
 .exact λb y h=>h.bz
 .rintro b lw y ⟨tv,E,C,q1,q2,Q,N⟩ hz;obtain⟨k1,k2⟩:=hz.put (q:=Fw lw tv L++[fN gb ab E Y _]) (by rw[XL];exact Q) (λr hr=>by
   rcases Xr.1 hr with hr|hr
   .exact Rz r hr
   rw[BY.1 hr];exact ED) st gs aa lw
  rw[XL]at k1;exact⟨tv,E,_,q1,q2,k1,N.trans k2⟩
 rintro u1 u2 u3 b lw y⟨tv,E,C,hn',b0,a6,c9⟩;have b8:=cV<|a6.bh<|pm3;have c8:=cV<|a9.trans c9;obtain⟨f,cp,rfl⟩:∃f cp,lw=.slice f L.length cp:=dt a6.tl.hd;clear a6 c9 a0 a9 d;simp only[n8,sx9];go_upto_region 2 with fail
 refine rO (A4 ⟨W,W,W,W,W⟩) (mb:=mb) (U:=hb) (fr:=fr) (Z:=Z) (B:=B) (data:=data) (g:=g) (st:=st) (gs:=gs) (aa:=aa) (er:=er)
  (P0:=λz=>Sep O (iK hb pu sl pv lv::gj b 38 [iB (st:Int),iI (gs:Int),.string aa,.slice f L.length cp]::(Fw (.slice f L.length cp) tv L++fN gb ab E Y C::gj mb 43 (kZ fr Z B data g)::gj pb 106 [pt gb,pt hb]::eH bb G::rs)) z/\Below _ x z)
  (D:=λgv z=>∃H I V,Sep O (iK hb P J H I::gj b 38 [iB st,iI (gs:Int),.string aa,.slice f L.length cp]::(Fw (.slice f L.length cp) tv L++fN gb ab E Y C::gj mb 43 (kZ fr Z B data g)::gj pb 106 [pt gb,pt hb]::eH bb G::rs)) z/\Low z 0 gv V L/\Below O x z)
  (Zq9:=Zrow O<|gj b 38 [iB st,iI (gs:Int),.string aa,.slice f L.length cp]::(Fw (.slice f L.length cp) tv L++fN gb ab E Y C::gj mb 43 (kZ fr Z B data g)::gj pb 106 [pt gb,pt hb]::eH bb G::rs))
  (D2:=λc gv z=>∃H I V,Sep O (gj c 38 [iB st,iI gs,.string aa,gv]::iK hb P J H I::gj b 38 [iB st,iI gs,.string aa,.slice f L.length cp]::(Fw (.slice f L.length cp) tv L++fN gb ab E Y C::gj mb 43 (kZ fr Z B data g)::gj pb 106 [pt gb,pt hb]::eH bb G::rs)) z/\Low z 0 gv V L/\Below O x z)
  rfl W W ⟨b8.drew,c8.drew⟩ ?_ ?_ ?_ ?_ ?_ ?_ ?_ ?_ ?_ ?_ ?_ ?_
 .exact λy y' h hb=>⟨h.1.below hb,h.2.trans<|hb.mono h.1.s⟩
 .rintro lw y y' ⟨H,I,V,q1,q2,Q⟩ hb;exact⟨_,_,_,q1.below hb,q2.kbt (Kb.h (S:=[]) hb) K2,Q.trans<|hb.mono q1.s⟩
 .exact λb y y' h hb=>h.below hb
 .rintro b lw y y' ⟨H,I,V,q1,q2,Q⟩ hb;exact⟨_,_,_,q1.below hb,q2.kbt (Kb.h (S:=[]) hb) K2,Q.trans<|hb.mono q1.s⟩
 .intro y h;exact(h.1.tl.tl.ap.tl.tl).c 1 W
 .intro y h;exact(h.1.tl.tl.ap.tl).hd
 .intro y h;refine(j _ y<|Sep.fix (q:=[iK hb pu sl pv lv]) h.1).mono ?_;rintro e z⟨H,I,gv,V,rfl,q1,q2,Q⟩;obtain⟨a2,c2,rfl⟩:=dt Q.2.1;have q5:Sep _ ([iK hb _ _ _ _]++[MP O y [iK hb pu sl pv lv]]) z:=q1;exact⟨a2,_,c2,W,⟨_,_,_,Sep.cF (q:=[iK hb pu sl pv lv]) h.1 q5,Q,h.2.trans q2⟩,λb hz=>hz.call (q:=[iK hb pu sl pv lv]) h.1 (λr hr=>by rw[BY.1 hr];exact Jf) q5⟩
 .exact λy h=>Zrow.new (q:=[iK hb pu sl pv lv]) h.1
 .rintro lw y ⟨H,I,V,q1,q2,Q⟩;exact Zrow.new (q:=[iK hb _ _ _ _]) q1
 .exact λb y h=>h.bz
 .rintro c gv y ⟨H,I,V,q1,q2,Q⟩ hz;obtain⟨k1,k2⟩:=hz.put (q:=[iK hb _ _ _ _]) q1 (λr hr=>by rw[BY.1 hr];exact Jf) st gs aa gv;refine⟨_,_,_,k1,q2.kbt (S:=[c]) (jE (Kb.refl _ y) AI)<|λk hk T hT=>?_,Q.trans k2⟩;rw[BY.1 hk]at hT;rw[hT.aF<|Ty.aB hz.1];decide
 rintro v1 v2 v3 c gv z⟨H,I,V,o,p,d0⟩;obtain⟨ad2,cp2,rfl⟩:∃f cp,gv=.slice f L.length cp:=dt p.2.1;have a7:=cV o;have d4:=cV d0;have d7:=o.tl.tl.c 3 W;have k23:=o.c 3 W;have W3:=cV (SO L z (o.tl.tl.tl.lgs b0) p (by have:=K.aa;omega) (λa ha=>by have:=d1.aa a ha;omega));clear o p d0 b8 c8 j;simp only[n8,sx9];go_upto_region 4 with(first|(go_at_call 42;refine W3.aa.mono ?_;rintro e z4⟨rfl,b6⟩)|fail);have a8:=a7.aa.below b6;have d6:=cV<|d4.trans<|b6.mono a7.s;replace d7:=a8.tl.tl.c 3 W;have W4:=cV (eh (LZ ⟨W,W,W,W,W⟩) (a8.bh<|pm4) (VE b0) (tsL_x b0) (λt ht=>by obtain⟨i,hi⟩:=XM ht;obtain⟨l,u,e1,_,rfl⟩:=yl hi;have:=d1.aa l<|Xe e1;show l.aM.length<=_;omega) HG4 (λk=>by have:=HGG.aa k;have:=K.aa;omega) (by have:=K.aa;omega));clear k23 b6 a8 a7 d4 W3;go_upto_region 5 with(first|(go_at_call 43;refine W4.aa.mono ?_;rintro e z5⟨rfl,w,X,d9,d8⟩)|fail);have i0:=X.tl.tl.tl.c 0 W;have i1:=X.tl.tl.tl.c 1 W;have i2:=X.tl.tl.tl.c 2 W;have j0:=X.tl.c 0 W;have j1:=X.tl.c 1 W;have j2:=X.tl.c 2 W;have HE:Hd (∃w E Y C P J H I m,Sep O (PB pb gb ab E hb bb Y C P J H I w rs) z5/\Below O x z5/\E<=n+3400010/\RelW (T0 Y) ⟨P,J,[]⟩/\Cd ⟨P,J,[]⟩/\P.length<=pu.length+2003/\J.length<=sl.length+1000/\gF ⟨P,J,[]⟩<=gF ⟨pu,sl,[]⟩+501/\m<=100000/\EG G w λk=>if k=1 then 4 else if k=0 then 4*m else 0):=by obtain⟨a1,a2,a3,a4,a5⟩:=d5.aa;refine⟨w,E,Y,C,_,_,H,I,L.length,?_,d6.trans d9,hn',a1,a2,a3,a4,a5,K,d8⟩;exact(X.sw.tl.bh<|pm7).tl.tl
 clear X d9 d8 W4 d6 d7;go_wp2;go_ret;exact⟨W,HE⟩
abbrev noG:Nat->VL×Tn:=λ_=>(dL,[])
def PI(h:rowL x bb 52 [dL,dL,dL,dL]):(eH bb noG).I x:=⟨h,λk D=>Xy _ _ _ _,λk D i v C=>(by cases C),Xy _ _ _ _,λi v k C=>(by cases C)⟩
def Sep.book(h:Sep O rs x):Sep O (eH x.heap.size noG::rs) (x.alloc<|.cells #[dL,dL,dL,dL] 52):=
 h.new (r:=eH x.heap.size noG) (PI<|rowL.al x [dL,dL,dL,dL] _) (ai (dO _ x) _) λk E=>by
  rcases E with rfl|⟨c,D,E|⟨v,C,_⟩⟩|E
  .omega
  .cases E
  .cases C
  cases E
def hg4(k m n:Nat)(h:n=(if k=3 then 4 else if k=2 then 28 else 0)+(if k=1 then 4 else if k=0 then 4*m else 0)):n%4=0:=K9
def hg6(k:Nat):(0+(if k=3 then 4 else if k=2 then 28 else 0))%4=0/\(if k=3 then 4 else if k=2 then 28 else 0)<=28:=K9
def hg5(k m:Nat):(if k=3 then 4 else if k=2 then 28 else 0)+(if k=1 then 4 else if k=0 then 4*m else 0)<=32+4*m:=K9
theorem rL:∀(M:Td)(a:Act),(dQ a M).tmps.size=a.tmps.size/\(dQ a M).defers=a.defers
 |[],a=>⟨W,W⟩
 |p::M,a=>by let⟨C,D⟩:=rL M<|a.put (some p.1) p.2;exact⟨C.trans<|by simp[Act.put],D⟩
theorem zH(j:Nat):∀(M:Td)(a:Act),(∀p∈M,p.1≠j)->(dQ a M).tmps.toList[j]?=a.tmps.toList[j]?
 |[],a,_=>rfl
 |p::M,a,h=>by refine(zH j M (a.put _ _) λq C=>h q<|IN _ C).trans ?_;grind[Act.put]
def rH{a:Act}{lo hi:Nat}{M:Td}{b:Act}{P:Act->Prop}(f:dQ a M=b)(G:M=M.dropLast++[(hi,v)]:=by rfl)(X:(M.dropLast.all λp=>decide (lo<=p.1)&&decide (p.1<hi))=true:=by rfl)(Z:lo<=hi:=by decide)(Z:hi<a.tmps.size:=by simp)(z:a.defers=[]:=by rfl)(h:po (hi-lo) λl=>P ⟨(a.tmps.toList.take lo++(l++v::a.tmps.toList.drop (hi+1))).toArray,[]⟩):P b:=by
 subst f;rw[G];generalize M.dropLast=Nq9 at*;have H:∀p∈Nq9,lo<=p.1/\p.1<hi:=λp f=>K9
 let⟨C,J⟩:=rL (Nq9++[(hi,v)]) a;have D:∀j,j<lo\/hi<j->(dQ a<|Nq9++[(hi,v)]).tmps.toList[j]?=a.tmps.toList[j]? :=λj Y=>zH j _ a λp f=>K9
 have g2:(dQ a<|Nq9++[(hi,v)]).tmps.toList[hi]?=some v:=by rw[(by grind[dQ]:dQ a (Nq9++[(hi,v)])=(dQ a Nq9).put (some hi) v)];have R:=(rL Nq9 a).1;show((dQ a Nq9).tmps.setIfInBounds hi v).toList[hi]?=some v;grind
 generalize dQ a (Nq9++[(hi,v)])=b at*;let⟨⟨L⟩,d⟩:=b;cases(J.trans z:d=[]);have C:L.length=a.tmps.toList.length:=C;have Z:hi<a.tmps.toList.length:=Z;have R:=yI _ h ((L.drop lo).take<|hi-lo) K9;have e:L=a.tmps.toList.take lo++((L.drop lo).take (hi-lo)++v::a.tmps.toList.drop (hi+1)):=by
  refine List.ext_getElem? λj=>?_;have D:=D j;by_cases V:j<lo
  .grind
  rw[Xx K9,XB,Zg wq];by_cases U:j<hi
  .grind
  rw[Xx K9,XB,X8,Zg wq];grind
 grind
theorem It(h:q<18446744073709551616):eU (Az q)=mW q:=by grind[eU,mW,cX,Az]
theorem mk_wv(h:q<18446744073709551616):wv (Az q)=.agg #[iU 7,iU 7,iU 7,iU (q:Int)]:=Xl (λl:Tn=>Value.agg l.toArray)<|It h
def rn(C:q<9223372036854775808)(w:WD):cP 47 #[iI (q:Int)] w (rT (wv<|Az q) w):=by grind[mk_wv,kk]
theorem Ix{α:Type}:∀(n k:Nat)(m:List α)(j:Nat)(u:α),k<n->m[j]?=some u->((List.replicate n m).flatten)[k*m.length+j]?=some u
 |0,k,m,j,u,h,_=>wq
 |n+1,0,m,j,u,_,hu=>K9
 |n+1,k+1,m,j,u,h,hu=>by rw[List.replicate_succ,List.flatten_cons,Xx K9,show(k+1)*m.length+j-m.length=k*m.length+j by grind];exact Ix n k m j u wq hu
def Bk(c z:Nat)(x:WD)(bb Nq9 ocp:Nat)(oad:Gj):=Nq9<=5000000000000/\(∀y,bW x y->y.cell? ⟨bb,c,none⟩=some (.slice oad Nq9 ocp))/\∀i,i<Nq9->∃og ad m cp q4 q n9,oad=some ⟨og,0,none⟩/\m<=9223372036854775807/\Hd (q4=i/4)/\Hd (q=i/4*4)/\Hd (∀y,cP 47 #[.int .i64 (q:Int)] y λe z=>e=.returned (wv n9)/\bW y z)/\Hd (∀y,bW x y->y.cell? ⟨og,i,none⟩=some (.slice ad m cp))/\Hd (∀y g o,(∀j u,(mC c q)[j]?=some u->y.cell? ⟨g,o+j,none⟩=some u)->Wd y g o n9)/\Hd (∀k,k<m->∃g,ad=some ⟨g,0,none⟩/\∀y,bW x y->∀j u,(mC c q)[j]?=some u->y.cell? ⟨g,k*z+j,none⟩=some u)
theorem QS(q j:Nat)(u:VL)(h:(mW q)[j]?=some u):(mC c q)[j]?=some u:=by have C:=(Do.1 h).1;unfold mC;grind
def Bx(h:∀j u,(mC c q)[j]?=some u->cL y g (o+j) u)(D:q<18446744073709551616):Wd y g o (Az q):=by
 have N:∀j u,(eU<|Az q)[j]?=some u->cL y g (o+j) u:=λj u C=>by grind[It,QS]
 exact⟨N 0 _ W,N 1 _ W,N 2 _ W,N 3 _ W⟩
def ua{G:Nat->VL×Tn}{x:WD}(h:Sep O (eH bb G::rs) x)(f:∀k,(G k).2.length<=5000000000000)(c:Nat)(D:c<4:=by decide):∃oad Nq9 ocp,Bk c (cZ c) x bb Nq9 ocp oad:=by
 have J:=h.hd.aa c D;let⟨oad,ocp,R⟩:=dt J;rw[R]at J;have p:=f c;refine⟨_,_,_,p,λy C=>(C.cell h.hd.row.lt).trans (by rw[<-R];exact rowL.cell h.hd.row (match c,D with|0,_=>rfl|1,_=>rfl|2,_=>rfl|3,_=>rfl)),λi l=>?_⟩;obtain⟨-,X,rfl,P,A, -⟩:=fH J i l;let⟨Z,m,S,e,L⟩:=h.hd.md c D i _<|iN l;have:maxLen=9223372036854775807:=N0
 refine⟨X,Z,m,S,_,_,_,W,wq,W,W,λy=>rn wq y,λy C=>(C.cell P).trans ?_,λy g o C=>Bx C wq,λk N=>?_⟩
 .grind
 rcases L with⟨_,l⟩|⟨g,l,rfl,T,F,_⟩
 .omega
 refine⟨g,W,λy C j u U=>(C.cell<|qaa T).trans ?_⟩;have V:=Ix m k _ j u N U;have z:=(Do.1 U).1;rw[BP D<|i/4*4]at V z;have H:k*cZ c+j<m*cZ c:=by grind[cZ]
 have Y:(l.toList.take<|m*cZ c)[k*cZ c+j]?=some u:=by rwa[F]
 rw[ZT,At H,Zs]at Y;grind[cell_of_row]
def p9{D:Nat}(G:Hd<|D=j/4)(h:tG s t<|iI (j:Int))(H:j<=9000000000000)(C:K (Wb s d<|iI (D:Int)) x):Oper.wp prog ⟨some d,.binOp .quo 3 (.tmp t) (.const<|iI 4) 3,ty,pos,af,gd⟩ s x K Q:=by rw[G.aa]at C;have e:(j:Int).tdiv 4=((j/4:Nat)):=rfl;rw[<-(by grind[IntKind.wrap,IntKind.bits,IntKind.signed]:IntKind.i64.wrap ((j/4:Nat))=((j/4:Nat))),<-e]at C;go_simp;exact C
def rg{C:Nat}(G:Hd<|C=j/4)(D:Hd<|q=j/4*4)(h:tG s t<|iI (C:Int))(J:j<=9000000000000)(H:K (Wb s d<|iI (q:Int)) x):Oper.wp prog ⟨some d,.binOp .mul 3 (.tmp t) (.const<|iI 4) 3,ty,pos,af,gd⟩ s x K Q:=by
 have L:C<=9000000000000:=by rw[G.aa];omega
 rw[(by rw[D.aa,G.aa]:q=C*4)]at H;clear J D G;have L:IntKind.i64.wrap (C*4)=((C*4:Nat)):=by grind[IntKind.wrap,IntKind.bits,IntKind.signed]
 go_simp;first
  |exact H
  |(rw[L];exact H)
def v8(he:tG s t<|wv n)(D:tG s u<|wv n)(C:K (Wb s d<|.bool false) x):Oper.wp prog ⟨some d,.binOp .neq 24 (.tmp t) (.tmp u) 24,ty,pos,af,gd⟩ s x K Q:=by
 have G:∀w,(Op.equalIn _ 24 _<|wv n).run _ w=.ok _ w:=λw=>by rw[ig,jg W]
 go_simp;exact C
def Q6(he:tG s t<|Iy n m)(D:tG s u<|Iy n m)(C:K (Wb s d<|.bool false) x):Oper.wp prog ⟨some d,.binOp .neq 54 (.tmp t) (.tmp u) 54,ty,pos,af,gd⟩ s x K Q:=by
 have G:∀w,(Op.equalIn 10000 54 (Iy n m)<|Iy n m).run prog w=.ok true w:=λw=>by grind[P4,jg]
 go_simp;exact C
def DU(h:tG s t<|pq b off)(D:Wd x b off n)(C:Wd x b (off+4) m)(G:K (Wb s d<|Iy n m) x):Oper.wp prog ⟨some d,.load 54<|.tmp t,ty,pos,af,gd⟩ s x K Q:=by obtain⟨J,V,V,R⟩:=D;let⟨H,U,L,P⟩:=C;go_simp;exact G
def jsv{d t:Nat}{D:Td}{Q:Y6}{ty:Vr}{pos:String}{af:U9}{gd:U6}(he:pg I D es ⟨some d,.load 54<|.tmp t,ty,pos,af,gd⟩ t=some (pq b off))(C:∀x,Jq9 x->Wd x b off n/\Wd x b (off+4) m):WL Jq9 I D es Q ⟨some d,.load 54<|.tmp t,ty,pos,af,gd⟩ (some d) (.v<|Iy n m):=λs x h H K G=>DU (H t _ he) (C x h).1 (C x h).2<|G _ x (dO _ _) nn1 W
def Rv{x:WD}{a:Act}{Q:Y6}(A:Frm [pt bb] 183 a)(C:Hd<|Bk 0 4 x bb Nq9 ocp oad)(D:Hd<|bW x y)(X:Hd (∀b z,Frm [pt bb] 183 b->bW x z->Q .normal b z)):Code.wp prog (zu [true,false]<|f21.body.getD .skip) Q a y:=by
 have l:=C.aa.1;apply A.op;simp only[po,XN,XG];intros;conv=>arg 2;whnf
 go_wp2;go_loopw[3] (λt wr=>∃i:Nat,i<=Nq9/\t=iI (i:Int)/\Hd (bW x wr)) (λt _=>Nq9-nI t);case atStart=>grind
 obtain⟨i,hi,rfl,D⟩:=hrel;have l:=C.aa.2.1 wr D;by_cases H:i<Nq9;case neg=>go_wp2;exact X.aa _ _ ⟨_,W,W⟩ D
 obtain⟨N,r,m,r,r,q,Z,rfl,r,P,Y,R,V,S,f⟩:=C.aa.2.2 i H;go_wp2
 as_aux_lemma=>
  go_loopw[4] (λt wr=>∃k:Nat,k<=m/\t=iI (k:Int)/\Hd (bW x wr)) (λt _=>m-nI t);case atStart=>exact⟨0,In _,W,D⟩
  obtain⟨k,r,rfl,D⟩:=hrel;have l:=C.aa.2.1 wr D;have l:=V.aa wr D;have l:(0:Int)<=i:=wq
  have l:(i:Int)<Nq9:=wq
  by_cases J:k<m
  .obtain⟨g,rfl,U⟩:=f.aa k J;have F:(k:Int)<m:=wq
   have T:Hd _:=λy p=>S _ _ _<|U y p;go_upto_region 7 with fail
   refine Gs [(0,(pt bb)),(3,(.int _ _)),(4,(.int _ _))] (nV 34 [pt bb,pt bb,pt bb,_,_,_,_,_,_,wv Z,_,_,_,_,_]) [3,5,6,8,9,11,12,13,14] W (λy z h l=>h.trans<|l.mono h.size) D ⟨(jc W λx L=>C.aa.2.1 x L),(js λs x l K G=>qb (l 37 _ W) (l 38 _ W) H G),(jc W λx L=>V x L),(js λs x l K G=>mA 4 (l 40 _ W) (l 41 _ W) J G),(jw W λx L=>T x L),(js λs x l K G=>p9 P (l 44 _ W) wq G),(js λs x l K G=>rg P Y (l 45 _ W) wq G),(jl W λx _=>R x),(js λs x l K G=>v8 (l 43 _ W) (l 47 _ W) G),AF⟩ λz r=>?_;replace r:=cV r;generalize l:dQ _ _=e;apply rH l (lo:=34) (hi:=48);simp only[po,List.take_succ_cons,Y3,List.drop_succ_cons,List.drop_zero,XN,XG];intros
   as_aux_lemma=>go_wp2;exact⟨⟨k+1,wq,N1,r.aa⟩,by simp[nI];omega⟩
  go_wp2;exact⟨⟨i+1,wq,N1,D⟩,by simp[nI];omega⟩
def Ri{x:WD}{a:Act}{Q:Y6}(A:Frm [pt bb] 183 a)(D:Hd<|Bk 1 6 x bb Nq9 ocp oad)(C:Hd<|bW x y)(p:Hd (∀b z,Frm [pt bb] 183 b->bW x z->Q .normal b z)):Code.wp prog (zu [true,true,false]<|f21.body.getD .skip) Q a y:=by
 have l:=D.aa.1;apply A.op;simp only[po,XN,XG];intros;conv=>arg 2;whnf
 go_wp2;go_loopw[5] (λt wr=>∃i:Nat,i<=Nq9/\t=iI (i:Int)/\Hd (bW x wr)) (λt _=>Nq9-nI t);case atStart=>grind
 obtain⟨i,hi,rfl,C⟩:=hrel;have r:=D.aa.2.1 wr C;by_cases P:i<Nq9;case neg=>go_wp2;exact p.aa _ _ ⟨_,W,W⟩ C
 obtain⟨l,l,m,l,l,q,U,rfl,l,L,S,R,F,l,T⟩:=D.aa.2.2 i P;go_wp2
 as_aux_lemma=>
  go_loopw[6] (λt wr=>∃k:Nat,k<=m/\t=iI (k:Int)/\Hd (bW x wr)) (λt _=>m-nI t);case atStart=>exact⟨0,In _,W,C⟩
  obtain⟨k,e,rfl,C⟩:=hrel;have r:=D.aa.2.1 wr C;have r:=F.aa wr C;have r:(0:Int)<=i:=wq
  have r:(i:Int)<Nq9:=wq
  by_cases V:k<m
  .obtain⟨g,rfl,Y⟩:=T.aa k V;have r:(k:Int)<m:=wq
   have r:=AE (z:=6) λj u _=>Y wr C j u;simp only[A3,A0,mC,mW,z4,XN,XG,Nat.reduceAdd]at r;have G:=rowL.al wr (mC 1 q) 112;replace C:=cV<|C.trans<|(ai (dO _ wr)<|.cells (mC 1 q).toArray 112).mono C.size;go_upto_region 16 with fail
   change Code.wp _ _ _ _ (wr.alloc<|.cells (mC 1 q).toArray 112);obtain⟨nb,Z⟩:∃nb,nb=wr.heap.size:=⟨_,W⟩
   rw[<-Z]at G⊢;generalize wr.alloc (.cells (mC 1 q).toArray 112)=r at*;have f:Hd (∀y,(bW x y/\rowL y nb 112 _)->Wd y nb 0 U/\y.cell? ⟨nb,4,_⟩=some (.slice _ 0 0)/\y.cell? ⟨nb,5,_⟩=some _):=λy X=>⟨l _ _ _ λj u N=>(by rw[XF];exact X.2.cell N),X.2.cell W,X.2.cell W⟩
   refine Gs [(5,(.int _ _)),(7,(pt nb))] (nV 80 [pt nb,wv U,.int _ _,.int _ _,.int _ _,wv U,.bool _,.bool false,.pointer _,.slice _ 0 0,iI 0,.bool false,.bool false,.bool false,.pointer _,.string _,.bool false,.bool false]) [1,3,4,5,6,9,15] W (λy z h l=>⟨h.1.trans<|l.mono h.1.size,h.2.below l⟩) ⟨C,G⟩ ⟨(jw W λx J=>(f x J).1),(js λs x l K H=>p9 L (l 82 _ W) wq H),(js λs x l K H=>rg L S (l 83 _ W) wq H),(jl W λx _=>R x),(js λs x l K H=>v8 (l 81 _ W) (l 85 _ W) H),(jc W λx J=>(f x J).2.1),(jc W λx J=>(f x J).2.2),AF⟩ λz r=>?_;replace r:=cV r;generalize l:dQ _ _=e;apply rH l (lo:=80) (hi:=97);simp only[po,List.take_succ_cons,Y3,List.drop_succ_cons,List.drop_zero,XN,XG];intros
   as_aux_lemma=>go_wp2;exact⟨⟨k+1,wq,N1,r.aa.1⟩,by simp[nI];omega⟩
  go_wp2;exact⟨⟨i+1,wq,N1,C⟩,by simp[nI];omega⟩
def Rn{x:WD}{a:Act}{Q:Y6}(A:Frm [pt bb] 183 a)(C:Hd<|Bk 2 8 x bb Nq9 ocp oad)(G:Hd<|bW x y)(Z:Hd (∀b z,Frm [pt bb] 183 b->bW x z->Q .normal b z)):Code.wp prog (zu [true,true,true,false]<|f21.body.getD .skip) Q a y:=by
 have l:=C.aa.1;apply A.op;simp only[po,XN,XG];intros;conv=>arg 2;whnf
 go_wp2;go_loopw[8] (λt wr=>∃i:Nat,i<=Nq9/\t=iI (i:Int)/\Hd (bW x wr)) (λt _=>Nq9-nI t);case atStart=>exact⟨0,In _,W,G⟩
 obtain⟨i,hi,rfl,G⟩:=hrel;have l:=C.aa.2.1 wr G;by_cases J:i<Nq9;case neg=>go_wp2;exact Z.aa _ _ ⟨_,W,W⟩ G
 obtain⟨N,r,m,r,r,q,X,rfl,r,U,f,V,Y,S,p⟩:=C.aa.2.2 i J;go_wp2
 as_aux_lemma=>
  go_loopw[9] (λt wr=>∃k:Nat,k<=m/\t=iI (k:Int)/\Hd (bW x wr)) (λt _=>m-nI t);case atStart=>exact⟨0,In _,W,G⟩
  obtain⟨k,r,rfl,G⟩:=hrel;have l:=C.aa.2.1 wr G;have l:=Y.aa wr G;have l:(0:Int)<=i:=wq
  have l:(i:Int)<Nq9:=wq
  by_cases L:k<m
  .obtain⟨g,rfl,D⟩:=p.aa k L;have F:(k:Int)<m:=wq
   have T:Hd (∀y,bW x y->Wd y g _ X/\Wd y g _ 0):=λy P=>⟨S _ _ _<|D y P,D y P 4 _ W,D y P 5 _ W,D y P 6 _ W,D y P 7 _ W⟩
   go_upto_region 24 with fail
   refine Gs [(0,(pt bb)),(8,(.int _ _)),(9,(.int _ _))] (nV _ [pt bb,pt bb,_,_,_,_,_,_,_,_,_,_,_,wv X,_,_]) [3,5,6,8,9,11,12,13,14,15] W (λy z h l=>h.trans<|l.mono h.size) G ⟨(jc W λx R=>C.aa.2.1 x R),(js λs x l K H=>qb (l _ _ W) (l _ _ W) J H),(jc W λx R=>Y x R),(js λs x l K H=>mA 8 (l _ _ W) (l _ _ W) L H),(jsv W λx R=>T x R),(js λs x l K H=>p9 U (l _ _ W) wq H),(js λs x l K H=>rg U f (l _ _ W) wq H),(jl W λx _=>V x),(jv (λ_ _=>N0) W),(js λs x l K H=>Q6 (l _ _ W) (l _ _ W) H),AF⟩ λz r=>?_;replace r:=cV r;generalize l:dQ _ _=e;apply rH l (lo:=119) (hi:=134);simp only[po,List.take_succ_cons,Y3,List.drop_succ_cons,List.drop_zero,XN,XG];intros
   as_aux_lemma=>go_wp2;exact⟨⟨k+1,wq,N1,r.aa⟩,by simp[nI];omega⟩
  go_wp2;exact⟨⟨i+1,wq,N1,G⟩,by simp[nI];omega⟩
def RN{x:WD}{a:Act}{Q:Y6}(A:Frm [pt bb] 183 a)(D:Hd<|Bk 3 10 x bb Nq9 ocp oad)(C:Hd<|bW x y)(p:Hd (∀b z,Frm [pt bb] 183 b->bW x z->Q .normal b z)):Code.wp prog (zu [true,true,true,true,false]<|f21.body.getD .skip) Q a y:=by
 have l:=D.aa.1;apply A.op;simp only[po,XN,XG];intros;conv=>arg 2;whnf
 go_wp2;go_loopw[10] (λt wr=>∃i:Nat,i<=Nq9/\t=iI (i:Int)/\Hd (bW x wr)) (λt _=>Nq9-nI t);case atStart=>grind
 obtain⟨i,hi,rfl,C⟩:=hrel;have r:=D.aa.2.1 wr C;by_cases P:i<Nq9;case neg=>go_wp2;exact p.aa _ _ ⟨_,W,W⟩ C
 obtain⟨l,l,m,l,l,q,U,rfl,l,L,S,R,F,l,T⟩:=D.aa.2.2 i P;go_wp2
 as_aux_lemma=>
  go_loopw[11] (λt wr=>∃k:Nat,k<=m/\t=iI (k:Int)/\Hd (bW x wr)) (λt _=>m-nI t);case atStart=>exact⟨0,In _,W,C⟩
  obtain⟨k,e,rfl,C⟩:=hrel;have r:=D.aa.2.1 wr C;have r:=F.aa wr C;have r:(0:Int)<=i:=wq
  have r:(i:Int)<Nq9:=wq
  by_cases V:k<m
  .obtain⟨g,rfl,Y⟩:=T.aa k V;have r:(k:Int)<m:=wq
   have r:=AE (z:=10) λj u _=>Y wr C j u;simp only[A3,A0,mC,mW,z4,XN,XG,Nat.reduceAdd]at r;have G:=rowL.al wr (mC 3 q) 34;replace C:=cV<|C.trans<|(ai (dO _ wr)<|.cells (mC 3 q).toArray 34).mono C.size;go_upto_region 33 with fail
   change Code.wp _ _ _ _ (wr.alloc<|.cells (mC 3 q).toArray 34);obtain⟨nb,Z⟩:∃nb,nb=wr.heap.size:=⟨_,W⟩
   rw[<-Z]at G⊢;generalize wr.alloc (.cells (mC 3 q).toArray 34)=r at*;have f:Hd (∀y,(bW x y/\rowL y nb 34 _)->Wd y nb 0 U/\y.cell? ⟨nb,9,_⟩=some (.slice _ 0 0)/\y.cell? ⟨nb,8,_⟩=some _):=λy X=>⟨l _ _ _ λj u N=>(by rw[XF];exact X.2.cell N),X.2.cell W,X.2.cell W⟩
   refine Gs [(10,(.int _ i)),(12,(pt nb))] (nV _ [pt nb,wv U,.int _ i,.int _ _,.int _ _,wv U,.bool _,.bool false,.pointer _,.slice _ 0 0,iI 0,.bool false,.bool false,.bool false,.pointer _,.string _,.bool false,.bool false]) [1,3,4,5,6,9,15] W (λy z h l=>⟨h.1.trans<|l.mono h.1.size,h.2.below l⟩) ⟨C,G⟩ ⟨(jw W λx J=>(f x J).1),(js λs x l K H=>p9 L (l _ _ W) wq H),(js λs x l K H=>rg L S (l _ _ W) wq H),(jl W λx _=>R x),(js λs x l K H=>v8 (l _ _ W) (l _ _ W) H),(jc W λx J=>(f x J).2.1),(jc W λx J=>(f x J).2.2),AF⟩ λz r=>?_;replace r:=cV r;generalize l:dQ _ _=e;apply rH l (lo:=166) (hi:=183);simp only[po,List.take_succ_cons,Y3,List.drop_succ_cons,List.drop_zero,XN,XG];intros
   as_aux_lemma=>go_wp2;exact⟨⟨k+1,wq,N1,r.aa.1⟩,by simp[nI];omega⟩
  go_wp2;exact⟨⟨i+1,wq,N1,C⟩,by simp[nI];omega⟩
def D0{G:Nat->VL×Tn}{x:WD}(h:Sep O (eH bb G::rs) x)(D:∀k,(G k).2.length<=5000000000000):cP 21 #[pt bb] x λe y=>e=.returned (.bool true)/\bW x y:=by let⟨_,_,_,H⟩:=ua h D 0;let⟨_,_,_,L⟩:=ua h D 1;let⟨_,_,_,P⟩:=ua h D 2;let⟨_,_,_,J⟩:=ua h D 3;replace H:=cV H;replace L:=cV L;replace P:=cV P;replace J:=cV J;go_enter func21,ntmps21;refine wp_seq_k λK h=>?_;replace h:=cV h;go_wp2;refine h.aa _ _ ?_;refine wp_seq_k λK h=>?_;refine Rv ⟨_,W,W⟩ H (dO _ _) λb R Y C=>h _ _ ?_;refine wp_seq_k λK h=>?_;refine Ri Y L C λb X Y C=>h _ _ ?_;refine wp_seq_k λK h=>?_;refine Rn Y P C λb U Y C=>h _ _ ?_;refine wp_seq_k λK h=>?_;refine RN Y J C λb V Y C=>h _ _ ?_;replace C:=cV C;apply Y.op;simp only[po,XN,XG];intros;go_wp2;go_ret;exact⟨W,C.aa⟩
theorem Sp{α:Type}:∀(u v:List α),u.Nodup->(∀a∈u,a∈v)->u.length<=v.length
 |[],v,_,_=>In _
 |a::u,v,hn,h=>by
  let⟨E,C⟩:=X3.1 hn;obtain⟨s,t,rfl⟩:=List.append_of_mem<|h a Xz;have D:=Sp u (s++t) C λb G=>K9
  grind
def Nk{l:List AcE}(U:RelW (T0 A) P)(V:IsList A l):l.length<=gF P:=by
 obtain⟨Q,E,G, -⟩:=V.ex;rw[G];have H:gF P=((P.pu.filter yc).map (·.aj%M)++(P.sl.filter λs=> !s.br).map (·.aj%M)).length:=by rw[Xm,XH,XH,<-List.countP_eq_length_filter,<-List.countP_eq_length_filter];rfl
 rw[H];refine Sp _ _ (E.1.imp λh=>Nat.ne_of_lt h) λk V=>?_;let⟨D,C⟩:=(E.2 k).1 V;by_cases V:∃p∈P.pu,gN p.aj k=true/\yc p=true
 .obtain⟨p,hp,e,f⟩:=V;exact Xw _<|Xq.2 ⟨p,Yj.2 ⟨hp,f⟩,by rw[iw.1 e,WZ D]⟩
 refine Xn _ ?_;have V:(A k).ai%M=0/\(A k).ae.size=0:=by
  have J:(A k).ai=(ks k P).mo:=U.ai k;have I:(A k).ae=(ks k P).ae:=U.ae k;rw[J,I];unfold ks;cases X:P.pu.find? λp=>gN p.aj k with
  |none=>exact⟨W,W⟩
  |some p=>grind[yc,absurd]
 have X:∃j,(A k).ar j%M≠0:=YA λL=>C ⟨V.1,by generalize(A k).ae=c at*;let⟨d⟩:=c;rw[Array.eq_empty_of_size_eq_zero<|V.2],λj=>YA λh=>L ⟨j,h⟩⟩;let⟨j,R⟩:=X;have O:(A k).ar j=fu _ k j P:=U.aK k j;grind[fu,ly,absurd,gN]
def NA:List AcE:=[⟨5,9,⟨#[]⟩,[]⟩,⟨7,0,⟨#[51,95,85]⟩,[]⟩]
theorem AW:jt NA=true:=R5
def IT{C:Nat}(ha:rowL y C 34<|jL 5 9 ⟨#[]⟩ dL++jL 7 0 ⟨#[51,95,85]⟩ dL):AcIn y (sL C 2 2) NA:=by
 refine⟨_,_,W,A4 ⟨C,0,W,World.rowIs.lt ha,λi a E=>?_⟩⟩;have G:i<2:=(Do.1 E).1;obtain rfl|rfl:i=0\/i=1:=wq
 all_goals
  cases hV E;refine⟨dL,λj D=>?_,⟨_,0,W,LZ W⟩⟩;have D:j=0\/j=1\/j=2\/j=3\/j=4\/j=5\/j=6\/j=7\/j=8\/j=9:=wq
  rcases D with rfl|rfl|rfl|rfl|rfl|rfl|rfl|rfl|rfl|rfl<;>exact ha.cell W
def AL(w:WD):cP 20 #[] w λe y=>∃D,e=.returned (sL D 2 2)/\w.heap.size<=D/\rowL y D 34 (jL 5 9 ⟨#[]⟩ dL++jL 7 0 ⟨#[51,95,85]⟩ dL)/\bW w y:=by
 go_enter func20,ntmps20;go_wp2_with fail
 refine(dx 5 K3 _).mono ?_;rintro e L⟨Q,G,rfl,C⟩;unfold wv;replace C:=cV C;go_wp2_with fail
 refine(dx 9 K3 _).mono ?_;rintro e J⟨U,H,rfl,b2⟩;replace b2:=cV<|C.aa.trans<|b2.mono C.aa.size;unfold wv;go_wp2_with fail
 refine(dx 7 K3 _).mono ?_;rintro e z3⟨I,E,rfl,b3⟩;replace b3:=cV<|b2.aa.trans<|b3.mono b2.aa.size;unfold wv;go_wp2;have O:=rowL.al z3 (jL Q U ⟨#[]⟩ dL++jL I 0 ⟨#[51,95,85]⟩ dL) 34;refine IE W W ⟨_,W,b3.aa.size,?_,ai b3.aa _⟩;rw[G.aa,H.aa,E.aa]at O⊢;exact O
def new_no(l:List AcE)(w:WD)(h:AcIn w v l)(hz:Zr w)(J:jt l=false):cP 29 #[v] w (rT (.tuple #[.pointer none,iI 1]) w):=by
 have D:=cV<|Fh l w h hz;rw[J]at D;obtain⟨I,H,rfl,_⟩:=h;let⟨L,C⟩:=dP l.length;rw[<-C.aa]at D⊢;go_enter func29,ntmps29;go_wp2_with fail
 refine D.mono ?_;rintro e G⟨rfl,J⟩;have E:=cV J;go_wp2;refine Kg W W ⟨W,E⟩
def RJ{G:Nat->VL×Tn}{l:List AcE}(h:Sep O (eH bb G::rs) x)(hz:Zr x)(n:0<O)(m:∀y,Sep O rs y->Below O x y->AcIn y v l)(hr:jt l=false)(hl:l.length<=1000000)(U:∀a∈l,a.ar.length<=1000000000)(r:∀k,(G k).2.length%4=0)(w:∀k,(G k).2.length+10000000<=4000000000000):cP 17 #[v,pt bb] x λe y=>∃E,e=.returned (.tuple #[.pointer none,.bool true])/\Sep O (eH bb E::rs) y/\Below O x y/\EG G E λk=>if k=3 then 4 else if k=2 then 8*l.length+4 else 0:=by
 have W1:=cV<|PA h (λy d q=>m y d.tl q) wq U;obtain⟨b,b,z, -⟩:=m x h.tl<|dO _ _;let⟨L,b⟩:=dP l.length;have N:=cV m;have u:=cV hz;have i:=cV r;have f:=cV w;have S:=cV hr;have j:=cV hl;have P:=cV U;rw[<-b.aa]at z;subst z;go_enter func17,ntmps17;go_upto_region 2 with(first|(go_at_call 37;refine W1.aa.mono ?_;rintro e t⟨g,c,F,rfl,D,J,C,b⟩)|fail);replace J:=cV J;replace C:=cV C;replace b:=cV b;replace D:=cV D;go_upto_region 3 with(first|(go_at_call 29;refine(cV<|new_no l t (J.in C) (u.bq n b) S).aa.mono ?_;rintro e u⟨rfl,H⟩)|fail);have Z:Hd (Sep _ (eH bb G::G4 g c l F::(F.map _++rs)) u):=(C.aa.below H).bh<|(X6.cons _).trans<|List.Perm.swap _ _ _;have V:Hd _:=b.aa.trans<|H.mono C.aa.s;have W3:=cV<|L4 J.aa Z D.aa (λy d q=>N y d<|V.trans q) j P i.aa f;clear H C b D J;go_upto_region 4 with(first|(go_at_call 38;refine W3.aa.mono ?_;rintro e A⟨rfl,E,I,o,Y⟩)|fail);have Q:=cV<|V.trans o;have R:=cV I;have p:=cV Y;have T:=cV<|Ee l A<|N A I.tl Q;rw[S.aa]at T;go_upto_region 5 with(first|(go_at_call 39;refine T.aa.mono ?_;rintro e K⟨rfl,X⟩)|fail);have HE:Hd (∃E,(Ending.returned (.tuple #[.pointer none,.bool true])=.returned _)/\Sep _ (eH bb E::rs) K/\Below _ x K/\EG G E _):=⟨E,W,R.below X,Q.trans<|X.mono R.s,p⟩
 go_wp2;refine Kg W W ?_;let⟨q,k0,b,u,r⟩:=HE.aa;exact⟨W,q,b,u,r⟩
end
structure HE where
 pb:Nat
 gb:Nat
 ab:Nat
 n:Nat
 hb:Nat
 A:Nat->Acc
 sb:Vp
 pu:List Pur
 sl:List Slt
 pv:VL
 lv:VL
abbrev HE.rs(h:HE):List Rs:=[gj h.pb 106 [pt h.gb,pt h.hb],fN h.gb h.ab h.n h.A h.sb,iK h.hb h.pu h.sl h.pv h.lv]
structure HE.Ok(h:HE)(a:Nat):Prop where
 cd:Cd ⟨h.pu,h.sl,[]⟩
 rel:RelW (T0 h.A) ⟨h.pu,h.sl,[]⟩
 bn:h.n<=40+3400010*a
 bp:h.pu.length<=8+2003*a
 bs:h.sl.length<=160+1000*a
 bc:gF ⟨h.pu,h.sl,[]⟩<=168+501*a
def HE.Ok.up{h:HE}{a a':Nat}(k:h.Ok a)(e:a<=a'):h.Ok a':=⟨k.cd,k.rel,by have:=k.bn;omega,by have:=k.bp;omega,by have:=k.bs;omega,by have:=k.bc;omega⟩
def Dn(a b c:Nat):Nat:=400000*a+900000*c+8*b*(170+501*a)
def RI(a b:Nat):4*(a*b)<=(a+b)*(a+b):=by
 rcases Nat.le_total a b with h|h
 .obtain⟨d,rfl⟩:=Nat.exists_eq_add_of_le h;grind
 obtain⟨d,rfl⟩:=Nat.exists_eq_add_of_le h;grind
def un{a b c:Nat}(h:a+b<=47665)(E:c<=47665):Dn a b c+8*(40+3400010*a)+20000000<=4000000000000:=by have D:=RI a b;have C:=Yx h h;grind[Dn]
def dn_a(a b c:Nat):Dn a b c+400000<=Dn (a+1) b c:=by grind[Dn]
def dn_b(a b c:Nat):Dn a b c+8*(170+501*a)<=Dn a (b+1) c:=by grind[Dn]
def dn_c(a b c:Nat):Dn a b c+900000=Dn a b (c+1):=by grind[Dn]
structure SW(w:WD)(bb:Nat)(F:List Rs)(a b c:Nat)(v:VL)(ps:Tn)(hs:List HE)(G:Nat->VL×Tn)(y:WD):Prop where
 sp:Sep w.heap.size (eH bb G::fp 55 1 v ps.length ps::(hs.flatMap HE.rs++F)) y
 be:Below w.heap.size w y
 ok:∀h∈hs,h.Ok a
 g4:∀k,(G k).2.length%4=0
 gd:∀k,(G k).2.length<=Dn a b c
section
variable {z:WD}{F:List Rs}{hs s t:List HE}{h:HE}{G:Nat->VL×Tn}
def SW.below(S:SW w bb F a b c v ps hs G y)(C:bW y z):SW w bb F a b c v ps hs G z:=⟨S.sp.below C,S.be.trans<|C.mono S.sp.s,S.ok,S.g4,S.gd⟩
def pmH{α:Type}{D C:List α}{k l E H r3:α}:(k::l::(D++(E::H::r3::C))).Perm (E::H::r3::k::l::(D++C)):=List.perm_append_comm_assoc (k::l::D) [E,H,r3] C
def p8(s t:List HE)(h:HE)(F:List Rs):(s++h::t).flatMap HE.rs++F=s.flatMap HE.rs++(h.rs++(t.flatMap HE.rs++F)):=K2
def Bm{x y a:Nat}(h:x<=y+m)(C:y<=k+m*a):x<=k+m*(a+1):=K9
def SW.sent(S:SW w bb F a b c v ps (s++h::t) G y)(hz:Zr w)(Y:0<w.heap.size)(L:a+b<=47665)(A:c<=47665)(fr Z B:Nat)(data:BA)(g:Int):cP 18 #[pt h.pb,nz fr Z B data g,pt bb] y λe z=>e=.returned (.bool true)/\∃d J,d.pb=h.pb/\SW w bb F (a+1) b c v ps (s++d::t) J z:=by
 have k:=S.ok h K2;have D:=S.sp;rw[p8]at D;have l:=un L A;have R:=k.bn;have Q:=k.bp;have H:=k.bs;refine(KP fr Z g (D.bh<|pmH) (hz.bq Y S.be) Y k.cd k.rel wq wq wq S.g4 (λq=>by have:=S.gd q;omega)).mono ?_;rintro e z⟨rfl,J,j,K,P,X,V,I,O,m,u,r,T,l,N,p,o,U,i,E⟩;have n:=dn_a a b c;replace U:=cV U;refine⟨W,⟨h.pb,h.gb,h.ab,j,h.hb,K,P,X,V,I,O⟩,J,W,?_,S.be.trans r,λf C=>?_,λq=>?_,λq=>?_⟩
 .rw[p8];exact u.bh (pmH).symm
 .rcases Xr.1 C with C|C
  .exact(S.ok f<|Xw _ C).up (ZN _)
  rcases IF.1 C with rfl|C
  .exact⟨N,l,Bm T R,Bm p Q,Bm o H,Bm U.aa k.bc⟩
  exact(S.ok f<|Xn _<|IN _ C).up<|ZN _
 .rw[E q];dsimp only;have:=S.g4 q;split
  .omega
  split<;>omega
 rw[E q];dsimp only;have:=S.gd q;split
 .omega
 split<;>omega
def SW.told(S:SW w bb F a b c v ps (s++h::t) G y)(hz:Zr w)(H:0<w.heap.size)(E:a+b<=47665)(O:c<=47665):cP 19 #[pt h.pb,pt bb] y λe z=>e=.returned (.bool true)/\∃D,SW w bb F a (b+1) c v ps (s++h::t) D z:=by
 have k:=S.ok h K2;have C:=S.sp;rw[p8]at C;have V:=un E O;have U:=k.bn;have R:=k.bp;have J:=k.bs;refine(KH (C.bh<|pmH) (hz.bq H S.be) H k.cd k.rel wq wq wq S.g4 (λq=>by have:=S.gd q;omega)).mono ?_;rintro e z⟨rfl,D,l,V,X,P,Q,I⟩;have X:=Nk k.rel V;have L:=k.bc;have hdb:=dn_b a b c;refine⟨W,D,?_,S.be.trans Q,S.ok,λq=>?_,λq=>?_⟩
 .rw[p8];exact P.bh (pmH).symm
 .rw[I q];dsimp only;have:=S.g4 q;split
  .omega
  split<;>omega
 rw[I q];dsimp only;have:=S.gd q;split
 .omega
 split<;>omega
def Q7{l:List AcE}(I:jt l=true):(l.map uD).length<=8/\(l.flatMap ic).length<=160/\gF ⟨l.map uD,l.flatMap ic,[]⟩<=168:=by
 let⟨E,D⟩:=pY I;have H:∀l:List _,(∀x∈l,x.ar.length<=20)->(l.flatMap ic).length<=20*l.length:=λl=>by
  induction l with
  |nil=>simp
  |cons x l C=>grind[ic]
 grind[gF,yc,uD,ic]
def SW.bS{u:VL}{l:List AcE}(S:SW w bb F a b c v ps hs G y)(hz:Zr w)(H:0<w.heap.size)(I:a+b<=47665)(X:c<=47664)(Y:∀z,Sep w.heap.size F z->bW w z->AcIn z u l)(f:l.length<=100000)(P:∀x∈l,x.ar.length<=1000000000)(J:∀x∈l,x.ai<M):cP 17 #[u,pt bb] y λe z=>(jt l=false/\e=.returned (.tuple #[.pointer none,.bool true])/\∃C,SW w bb F a b (c+1) v ps hs C z)\/∃h C,e=.returned (.tuple #[pt h.pb,.bool true])/\SW w bb F a b (c+1) v ps (hs++[h]) C z:=by
 have f:=un I<|Nat.le_succ_of_le X;have ul:=dn_c a b c;have R:∀z,Sep _ (fp 55 1 v ps.length ps::(hs.flatMap HE.rs++F)) z->Below _ y z->AcIn z u l:=λz V U=>Y z V.tl.ap<|S.be.trans U;have D:∀{C:Nat->VL×List _},(EG G C λk=>if k=3 then 4 else if k=2 then 8*l.length+4 else 0)->(∀k,(C k).2.length%4=0)/\∀k,(C k).2.length<=Dn a b (c+1):=λQ=>by
  refine⟨λq=>?_,λq=>?_⟩
  .rw[Q q];dsimp only;have:=S.g4 q;grind
  rw[Q q];dsimp only;have:=S.gd q;grind
 by_cases f:jt l=true
 .refine(U3 S.sp (hz.bq H S.be) H R f S.g4 (λq=>by have:=S.gd q;omega)).mono ?_;rintro e z⟨pb,p,A,o,n,N,K,T,C,rfl,d,g,j,L⟩;let⟨O,g2⟩:=D L;let⟨c1,c2,c3⟩:=Q7 f;refine A4 ⟨⟨pb,p,o,n,A,jO l,N,l.map uD,l.flatMap ic,K,T⟩,C,W,?_,S.be.trans j,λZ E=>?_,O,g2⟩
  .rw[show(hs++[(⟨pb,p,o,n,A,_,N,_,_,K,T⟩:HE)]).flatMap _++F=hs.flatMap _++(HE.rs _++F) by rw[Zi,XL];rfl];exact g.bh (pmH).symm
  rcases Xr.1 E with E|E
  .exact S.ok Z E
  rw[BY.1 E];exact⟨new_cd f,Sj f J,(by show n<=_;omega),(by show(l.map uD).length<=_;omega),(by show(l.flatMap ic).length<=_;omega),(by show gF ⟨l.map uD,l.flatMap ic,[]⟩<=_;omega)⟩
 have f:jt l=false:=by simpa using f
 refine(RJ S.sp (hz.bq H S.be) H R f wq P S.g4 (λq=>by have:=S.gd q;omega)).mono ?_;rintro e z⟨C,rfl,g,j,L⟩;let⟨O,g2⟩:=D L;exact LZ ⟨f,W,C,g,S.be.trans j,S.ok,O,g2⟩
def Q5:CF 63 55 1 8:=Nw (z:=.pointer none) N0 N0 N0
def SW.cC(S:SW w bb F a b c v ps hs G y)(p:Nat)(hn:ps.length<=1000000):∃C z,(Builtin.append_ #[63,63] 63 #[v,sL y.heap.size 1 1]).run prog (y.alloc<|.cells #[pt p] 55)=.ok C z/\(∃H E,C=.slice H (ps.length+1) E)/\SW w bb F a b c C (ps++[pt p]) hs G z:=by let⟨C,z,J,I,r3⟩:=S.sp.sw.ca Q5 [pt p] W (λu D=>by rw[BY.1 D];rfl) (by grind[maxLen]) wq;refine⟨C,z,J,dt I.hd,?_,S.be.trans r3,S.ok,S.g4,S.gd⟩;rw[Xm];exact I.sw
end
section
variable {hs:List HE}{h:HE}
structure OpE where
 kind:Int
 on:Int
 world:List AcE
 fr:Nat
 tgt:Nat
 vl:Nat
 data:BA
 ac:Int
def Hb(e:OpE)(u:VL):Tn:=.int .i64 e.kind::.int .i64 e.on::u::kZ e.fr e.tgt e.vl e.data e.ac
structure OpOk(w:WD)(e:OpE)(u:VL):Prop where
 ac:AcIn w u e.world
 ll:e.world.length<=100000
 ss:∀x∈e.world,x.ar.length<=1000000000
 bm:∀x∈e.world,x.ai<M
 lo: -9223372036854775808<=e.on
 hi:e.on<=9223372036854775807
def SC(w:WD)(v:VL)(l:List OpE):=∃ad c,v=.slice ad l.length c/\(l=[]\/∃g o,ad=some ⟨g,o,none⟩/\g<w.heap.size/\∀(i:Nat) e,l[i]?=some e->∃u,(∀j x,(Hb e u)[j]?=some x->w.cell? ⟨g,o+i*17+j,none⟩=some x)/\OpOk w e u)
section
variable {z:WD}{F:List Rs}{s t:List HE}{G:Nat->VL×Tn}
def SW.lit(S:SW w bb F a b c v [] hs G y)(p:Nat):SW w bb F a b c (sL y.heap.size 1 1) [pt p] hs G (y.alloc<|.cells #[pt p] 55):=by
 have C:Below _ y (y.alloc<|.cells #[pt p] 55):=ai (dO _ y) _;refine⟨?_,S.be.trans<|C.mono S.sp.s,S.ok,S.g4,S.gd⟩;refine(Sep.new (r:=fp 55 1 _ 1 _) S.sp.sw.tl ?_ C λk C=>?_).sw
 .refine⟨W,A4 ⟨_,1,#[pt p],W,In _,?_,DO _,by grind[maxLen],W,W⟩⟩;show(y.heap.push _)[y.heap.size]?=_;simp
 rw[<-hV (show some y.heap.size=some k from C)];omega
def LI(w:WD)(bb:Nat)(F:List Rs)(i:Nat)(v:VL)(y:WD):=∃hs G a b c,SW w bb F a b c v (hs.map λh=>pt h.pb) hs G y/\0<hs.length/\hs.length<=c/\a+b+c<=i+3
theorem SW.bk(S:SW w bb F a b c v ps hs G y)(C:a+b<=47665)(D:c<=47665):cP 21 #[pt bb] y λe z=>e=.returned (.bool true)/\SW w bb F a b c v ps hs G z:=by
 have E:=un C D;refine(D0 S.sp λk=>?_).mono λe z h=>⟨h.1,S.below h.2⟩
 have:=S.gd k;omega
def SW.at(S:SW w bb F a b c v (hs.map λh=>pt h.pb) hs G y)(H:0<hs.length):∃g D,v=sL g hs.length D/\∀j,j<hs.length->∃s h t,hs=s++h::t/\cL y g j (pt h.pb):=by have C:=S.sp.tl.hd;rw[XH]at C;obtain⟨L,D,rfl⟩:=dt C;obtain⟨_,g,rfl,_⟩:=fH C 0 H;refine⟨g,D,W,λj E=>⟨hs.take j,hs[j],hs.drop<|j+1,K2,?_⟩⟩;let⟨_,I,e,_,J,_⟩:=fH C j E;grind
end
section
open Go.ChangeShapes Go.WideShapes Go.ChangeAt Go.RowKit
def aD:ownKnob prog.godebug=none:=N0
def TU:laidOutB prog=true:=N0
def yY:prog.cellsOf 24=4:=N0
def xB:prog.cellsOf 22=1:=N0
def GZ(x0 x1 x2 x3:Nat)(E:x0<18446744073709551616)(D:x1<18446744073709551616)(C:x2<18446744073709551616)(G:x3<18446744073709551616):∃n,wv n=.agg #[iU (x0:Int),iU (x1:Int),iU (x2:Int),iU (x3:Int)]:=by refine⟨x0+18446744073709551616*(x1+18446744073709551616*(x2+18446744073709551616*x3)),?_⟩;unfold wv;rw[(by unfold cX;rw[Je];omega:cX (x0+18446744073709551616*(x1+18446744073709551616*(x2+18446744073709551616*x3))) 0=(x0:Int)),(by unfold cX;rw[LP];omega:cX (x0+18446744073709551616*(x1+18446744073709551616*(x2+18446744073709551616*x3))) 1=(x1:Int)),(by unfold cX;rw[Li];omega:cX (x0+18446744073709551616*(x1+18446744073709551616*(x2+18446744073709551616*x3))) 2=(x2:Int)),(by unfold cX;rw[Ij];omega:cX (x0+18446744073709551616*(x1+18446744073709551616*(x2+18446744073709551616*x3))) 3=(x3:Int))]
def wP{x:Int}(h:(Lit.int .u64 x).wf=true):∃n:Nat,x=(n:Int)/\n<18446744073709551616:=by have C:=bounds_u64 h;exact⟨x.toNat,wq,wq⟩
end
section
open Go.ChangeShapes Go.WideShapes Go.ChangeAt Go.RowKit
section
variable {Hq9:Type} {enc:Vr×VL->Hq9} {W:WD} {fuel:Nat} {cs:Tn} {x:DataW Hq9×List MemPlace}
abbrev tt(enc:Vr×VL->Hq9)(W:WD)(fuel t:Nat)(cs:Tn)(x:DataW Hq9×List MemPlace):=DataW.trod enc prog W 0 (λ_=>true) true fuel t cs=some x
def o8(d:DataW Hq9):1<=Rows.uptoBulk d:=by
 rcases d with l|_|_|_|_|_|_|_
 .cases l<;>simp[Rows.uptoBulk]
 all_goals simp[Rows.uptoBulk]
theorem Lw(c:Nat):∀l:List<|DataW Hq9,(∀d∈l,c<=Rows.uptoBulk d)->c*l.length<=Rows.uptoBulkAll l
 |[],_=>In _
 |d::r,h=>by have D:=h d Xz;have C:=Lw c r λd E=>h d<|IN _ E;grind[Rows.uptoBulkAll,X2,Nat.mul_add]
theorem NR:∀(l:List<|DataW Hq9)(d:DataW Hq9),d∈l->Rows.uptoBulk d<=Rows.uptoBulkAll l
 |[],_,h=>by cases h
 |e::r,d,h=>by
  simp only[Rows.uptoBulkAll];rcases IF.1 h with rfl|h
  .omega
  have:=NR r d h;omega
theorem o7{c0 c1 c2 c3:VL}(h:tt enc W fuel 24 [c0,c1,c2,c3] x):∃n,n<M/\c0=.int .u64 (cX n 0)/\c1=.int .u64 (cX n 1)/\c2=.int .u64 (cX n 2)/\c3=.int .u64 (cX n 3)/\Rows.uptoBulk x.1=5:=by
 obtain⟨y0,y1,y2,y3,m,rfl,hy0,hy1,hy2,hy3⟩:=trod_array4 underlying24 xB h;obtain⟨x0,e0,rfl,w0⟩:=DataW.trod_int underlying22 hy0;obtain⟨x1,e1,rfl,w1⟩:=DataW.trod_int underlying22 hy1;obtain⟨x2,e2,rfl,w2⟩:=DataW.trod_int underlying22 hy2;obtain⟨x3,e3,rfl,w3⟩:=DataW.trod_int underlying22 hy3;simp at e0 e1 e2 e3;subst e0 e1 e2 e3;obtain⟨n0,rfl,l0⟩:=wP w0;obtain⟨n1,rfl,l1⟩:=wP w1;obtain⟨n2,rfl,l2⟩:=wP w2;obtain⟨n3,rfl,l3⟩:=wP w3;obtain⟨n,hn⟩:=GZ n0 n1 n2 n3 l0 l1 l2 l3;unfold wv at hn;injection hn with hn
 have e:=Xl Array.toList hn;simp only[List.cons.injEq,and_true] at e;refine⟨n%M,Xs _ (by decide),?_⟩;simp only[MT,Nat.reduceLT];exact⟨e.1.symm,e.2.1.symm,e.2.2.1.symm,e.2.2.2.symm,rfl⟩
def A6{c:VL}(h:tt enc W fuel 3 [c] x):∃k,c=iI k/\ -9223372036854775808<=k/\k<=9223372036854775807:=by obtain⟨k,e, -,w⟩:=DataW.trod_int underlying3 h;exact⟨k,List.singleton_inj.1 e,bounds_i64 w⟩
def KS{c:VL}(h:tt enc W fuel 9 [c] x):∃s,c=.string s:=by obtain⟨s,e, -⟩:=DataW.trod_string N0 h;grind
def Ck(k m:Nat)(h:tt enc W fuel t cs x)(D:prog.underlying t=some (.struct<|prog.fieldsOf t)/\prog.cellsOf t=k/\(prog.fieldsOf t).size=m:=by exact⟨N0,N0,N0⟩):∃(C:List<|DataW Hq9×List MemPlace)(n:Nat),cs.length=k/\C.length=m/\Rows.uptoBulk x.1=Rows.uptoBulkAll (C.map (·.1))+1/\∀(i u o z:Nat)(G:((prog.fieldsOf t)[i]?).map (λf=>(f.type,f.offset))=some (u,o):=by kernel_rfl)(E:prog.cellsOf u=z:=by kernel_rfl),DataW.trod enc prog W 0 (λ_=>true) true n u ((cs.drop o).take z)=C[i]? :=by obtain⟨C,n, -,rfl,I,H,J⟩:=DataW.trod_struct D.1 h;refine⟨C,n,I.trans D.2.1,H.trans D.2.2,rfl,λi u o z G E=>?_⟩;grind
theorem H2{α:Type}[Inhabited α]{st et z c:Nat}{v:VL}(R:α->Tn->Nat->Prop)(hz:0<z)(each:∀n cs (x:DataW Hq9×List MemPlace),tt enc W n et cs x->c<=Rows.uptoBulk x.1/\∃q,R q cs (Rows.uptoBulk x.1))(h:tt enc W fuel st [v] x)(hu:prog.underlying st=some (.slice et):=by kernel_rfl)(hc:prog.cellsOf et=z:=by kernel_rfl):∃l:List α,c*l.length<=Rows.uptoBulk x.1/\∃ad k,v=.slice ad l.length k/\(l=[]\/∃g o,ad=some ⟨g,o,none⟩/\g<W.heap.size/\∀(i:Nat) q,l[i]? =some q->∃cs m,R q cs m/\m<=Rows.uptoBulk x.1/\∀j,j<z->W.cell? ⟨g,o+i*z+j,none⟩=some (cs[j]!)):=by
 rcases Go.Deep.open_slice hu h with⟨hcs,rfl⟩|⟨a,len,E,m,n,D,Pl,hcs,_,hl,hm,hmm,rfl,hcell⟩
 ·exact⟨[],In _,_,0,List.singleton_inj.1 hcs,Or.inl rfl⟩
 obtain rfl:=List.singleton_inj.1 hcs;have hlm:len<=m:=by rw[hmm];split<;>omega
 have ht:∀d∈(List.range len).map D,Rows.uptoBulk d<=Rows.uptoBulkAll _:=NR _
 have he:∀i,i<len->∃q:α,c<=Rows.uptoBulk (D i)/\∃cs,R q cs (Rows.uptoBulk (D i))/\∀j,j<z->W.cell? _=some (cs[j]!):=λi hi=>by
  obtain⟨cs,h1,h2⟩:=hcell i (by omega);obtain⟨h3,q,h4⟩:=each _ _ _ h2;rw[hc] at h1;refine⟨q,h3,cs,h4,λj hj=>?_⟩;have h5:=(World.cells?_some h1).2.2 j hj;have h6:=(World.cells?_some h1).2.1;rw[Go.Deep.add_add] at h5;rw[h5,List.getElem!_eq_getElem?_getD,iN (by omega)];rfl
 obtain⟨f,hf⟩:=Go.Deep.choose_lt he;have hlen:((List.range len).map f).length=len:=by simp
 have hb:Rows.uptoBulk (.slice ((List.range len).map D) ((List.range (m - len)).map λj=>D (len+j)))=Rows.uptoBulkAll ((List.range len).map D)+Rows.uptoBulkAll ((List.range (m - len)).map λj=>D (len+j))+1:=by simp only[Rows.uptoBulk]
 rw[hb];refine⟨_,?_,_,_,by rw[hlen],?_⟩
 ·have:=Lw c _ λd hd=>by
   obtain⟨i,hi,rfl⟩:=Xq.1 hd;exact(hf i (XS.1 hi)).1
  rw[XH,List.length_range] at this;rw[hlen];omega
 ·by_cases h0:len=0
  ·subst h0;exact Or.inl rfl
  obtain⟨-,_, -,hc0⟩:=hf 0 (by omega);have hc0:=hc0 0 hz;rw[show a.add _=a by simp[Addr.add]] at hc0;have hs:=World.cell?_spot hc0;obtain⟨g,o,sp⟩:=a;obtain rfl:sp=none:=hs;refine Or.inr ⟨g,o,rfl,Yb _ _ hc0,λi q hq=>?_⟩;have hi:i<len:=by rw[<-hlen];exact(Do.1 hq).1
  rw[Xu,ZG hi] at hq;obtain rfl:=hV hq;obtain⟨-,cs,h1,h2⟩:=hf i hi;have h3:=ht _ (Xq.2 ⟨i,XS.2 hi,rfl⟩);refine⟨cs,_,h1,by omega,λj hj=>?_⟩;rw[<-h2 j hj,show(⟨g,o,_⟩:Addr).add _=⟨g,o+i*z+j,none⟩ by simp[Addr.add,ZB]]
def QV(h:tt enc W fuel 54 cs x):∃q:Nat×Nat,cs=eU q.1++eU q.2:=by
 obtain⟨C,n,G,D, -,E⟩:=Ck 8 2 h;match cs,G,C,D with
 |[c0,c1,c2,c3,c4,c5,c6,c7],_,[x0,x1],_=>obtain⟨a, -,rfl,rfl,rfl,rfl, -⟩:=o7<|E 0 24 0 4;obtain⟨b, -,rfl,rfl,rfl,rfl, -⟩:=o7<|E 1 24 4 4;exact⟨(a,b),rfl⟩
def td_ac(h:tt enc W fuel 34 cs x):13<=Rows.uptoBulk x.1/\∃q:AcE,∃L,cs=jL q.aj q.ai q.ae L/\SlIn W L q.ar/\q.ar.length<=Rows.uptoBulk x.1/\q.ai<M:=by
 let⟨E,n,P,G,Q,L⟩:=Ck 10 4 h;match cs,P,E,G with
 |[c0,c1,c2,c3,c4,c5,c6,c7,c8,c9],_,[x0,x1,x2,x3],_=>obtain⟨a, -,rfl,rfl,rfl,rfl,J⟩:=o7<|L 0 24 0 4;obtain⟨b,C,rfl,rfl,rfl,rfl,I⟩:=o7<|L 1 24 4 4;obtain⟨s,rfl⟩:=KS<|L 2 9 8 1;let⟨l,P,D,k,e,H⟩:=H2 (α:=Nat×Nat) (z:=8) (c:=1) (λq cs _=>cs=eU q.1++eU q.2) K3 (λ_ _ _ h=>⟨o8 _,QV h⟩)<|L 3 32 9 1;have b2:=o8 x2.1;have b3:=o8 x3.1;simp only[List.map_cons,List.map_nil,Rows.uptoBulkAll]at Q;refine⟨wq,⟨a,b,s,l⟩,c9,rfl,⟨D,k,e,H.imp_right ?_⟩,K9,C⟩;grind
def td_msg(h:tt enc W fuel 43 cs x):18<=Rows.uptoBulk x.1/\∃(H Z I:Nat)(s:BA)(k:Int),cs=kZ H Z I s k:=by
 let⟨C,n,J,D,I,H⟩:=Ck 14 5 h;match cs,J,C,D with
 |[c0,c1,c2,c3,c4,c5,c6,c7,c8,c9,c10,c11,c12,c13],_,[x0,x1,x2,x3,x4],_=>obtain⟨a, -,rfl,rfl,rfl,rfl,G⟩:=o7<|H 0 24 0 4;obtain⟨b, -,rfl,rfl,rfl,rfl,E⟩:=o7<|H 1 24 4 4;obtain⟨c, -,rfl,rfl,rfl,rfl,b2⟩:=o7<|H 2 24 8 4;obtain⟨s,rfl⟩:=KS<|H 3 9 12 1;obtain⟨k,rfl, -⟩:=A6<|H 4 3 13 1;have b3:=o8 x3.1;have b4:=o8 x4.1;simp only[List.map_cons,List.map_nil,Rows.uptoBulkAll]at I;exact⟨wq,a,b,c,s,k,rfl⟩
def td_op(h:tt enc W fuel 65 cs x):22<=Rows.uptoBulk x.1/\∃q:OpE,∃u,cs=Hb q u/\(Rows.uptoBulk x.1<=1048576->OpOk W q u):=by
 let⟨J,n,X,L,f,Y⟩:=Ck 17 4 h;match cs,X,J,L with
 |[c0,c1,c2,c3,c4,c5,c6,c7,c8,c9,c10,c11,c12,c13,c14,c15,c16],_,[x0,x1,x2,x3],_=>
  obtain⟨k,rfl, -⟩:=A6<|Y 0 3 0 1;obtain⟨on,rfl,j,b⟩:=A6<|Y 1 3 1 1;have:Inhabited _:=⟨MU⟩
  let⟨l,X,I,R,e,H⟩:=H2 (α:=AcE) (z:=10) (c:=13) (λq cs m=>∃X,cs=jL q.aj q.ai q.ae X/\SlIn W X q.ar/\q.ar.length<=m/\q.ai<M) K3 (λ_ _ _ h=>td_ac h)<|Y 2 35 2 1;let⟨b3,d,Z,A,s,g,em⟩:=td_msg<|Y 3 43 3 14;have V:=o8 x0.1;have U:=o8 x1.1;have b2:=o8 x2.1;simp only[List.map_cons,List.map_nil,Rows.uptoBulkAll]at f;have P:∀y∈l,y.ar.length<=Rows.uptoBulk _/\y.ai<M:=λy C=>by
   let⟨i,b⟩:=List.mem_iff_getElem?.1 C;rcases H with rfl|⟨g,o, -, -,G⟩
   .cases C
   obtain⟨cs,m,⟨X, -, -,D,E⟩,Q, -⟩:=G i y b;exact⟨By D Q,E⟩
  refine⟨wq,⟨k,on,l,d,Z,A,s,g⟩,c2,?_,λY=>⟨⟨I,R,e,H.imp_right ?_⟩,(by dsimp only;omega),λy C=>?_,λy C=>(P y C).2,j,b⟩⟩
  .exact Xl (λr=>iI k::iI on::c2::r) em
  .rintro⟨g,o,h1,h2,G⟩;refine⟨g,o,h1,h2,λi p Y=>?_⟩;obtain⟨cs,m,⟨X,rfl,E, -⟩, -,D⟩:=G i p Y;exact⟨X,D,E⟩
  grind
def IR{d:DataW Hq9}{p:List MemPlace}(Q:Value.okWide prog W .any O 61 v)(h:DataW.Trod enc prog W 0 (λ_=>true) true 61 v d p)(Y:Rows.uptoBulk d<=1048576):∃l,SC W v l/\l.length<=47662:=by
 have E:prog.underlying 61=some (.slice 65):=N0
 obtain⟨U,D,C,rfl⟩:=okWide_slice E Q;let⟨fuel,V⟩:=h;have:Inhabited OpE:=⟨⟨0,0,[],0,0,0,⟨#[]⟩,0⟩⟩
 let⟨l,U,J,R,e,P⟩:=H2 (z:=17) (c:=22) (λq cs m=>∃u,cs=Hb q u/\(m<=1048576->OpOk W q u)) K3 (λ_ _ _ h=>td_op h) V E;replace U:22*l.length<=Rows.uptoBulk d:=U;refine⟨l,⟨J,R,e,P.imp_right ?_⟩,wq⟩;rintro⟨g,o,U,V,X⟩;refine⟨g,o,U,V,λi q U=>?_⟩;obtain⟨cs,m,⟨u,rfl,I⟩,L,H⟩:=X i q U;refine⟨u,λj x G=>?_,I<|By L Y⟩;rw[H j<|(Do.1 G).1,List.getElem!_eq_getElem?_getD,G];rfl
end
end
def FrS(sc:VL)(bb:Nat)(v:VL)(i:Nat)(a:Act):=∃u1 u2 u4 u6 u7 u8,Frm [sc,u1,u2,pt bb,u4,.bool true,u6,u7,u8,v,.int .i64 (i:Int)] 122 a
section
variable {F:List Rs}{a:Act}
def pf(A:FrS sc bb v i a)(hi:i<=47661)(E:Hd<|LI w bb F (i+1) v y)(C:Hd (∀b z,FrS sc bb v i b->LI w bb F (i+1) v z->Q .normal b z)):Code.wp prog (zu [true,true,true,true,true,true,true,true,true,false,true,false,false,true,false,false,true,true,true,true,true]<|f5.body.getD .skip) Q a y:=by
 let⟨u1,u2,u4,u6,u7,u8,A⟩:=A;let⟨J,G,D,nb,I,S,r⟩:=E.aa;have H:=cV<|S.bk wq wq;apply A.op;simp only[po,XN,XG];intros;conv=>arg 2;whnf
 go_wp2_with fail
 refine H.mono ?_;rintro e z⟨rfl,S⟩;replace S:=cV S;go_wp2;refine C.aa _ _ ?_ ⟨J,G,D,nb,I,S.aa,r⟩;exact⟨_,_,_,_,_,_,_,W,W⟩
def Q4{L nb O Y:Nat}{s t:List HE}{h:HE}{G:Nat->VL×Tn}{e:OpE}{u:VL}(x:∃p n cp,v=.slice p n cp)(A:Frm [sc,u1,u2,pt bb,u4,.bool true,u6,u7,u8,v,iI (i:Int),pt Y,u12,pt h.pb] 119 a)(hi:i<=47661)(r:Hd<|Zr w/\0<w.heap.size)(l:Hd<|(s++h::t).length<=O/\L+nb+O<=i+3)(d:Hd<|SW w bb F L nb O v ((s++h::t).map λh=>pt h.pb) (s++h::t) G y)(V:Hd<|OpOk w e u)(R:Hd<|rowL y Y 65<|Hb e u)(q:Hd (∀b z J,FrS sc bb J i b->LI w bb F (i+1) J z->Q .normal b z)):Code.wp prog (zu [true,true,true,true,true,true,true,true,true,false,true,false,false,true,false,false,true,true,true,true]<|f5.body.getD .skip) Q a y:=by
 obtain⟨va,vn,vc,rfl⟩:=x;let⟨kind,on,world,x,Z,vl,data,ac⟩:=e;have c0:y.cell? ⟨Y,0,_⟩=some (.int _ kind):=R.aa.cell W;have C:∀J,Hd _:=λJ=>cV λb z=>q.aa b z J;let⟨q,f⟩:=r.aa;have r:(s++h::t).length=s.length+t.length+1:=K9
 have r:=l.aa;apply A.op;simp only[po,XN,XG];intros;conv=>arg 2;whnf
 refine wp_seq_k λK I=>?_;replace I:=cV I;by_cases l:kind=1
 .subst l;have c2:y.cell? ⟨Y,2,_⟩=some u:=R.aa.cell W;obtain⟨T,l,uc,rfl⟩:∃T l uc,u=.slice T l uc:=by let⟨p,c,e,_⟩:=V.aa.ac;grind
  have P:=cV<|d.bS q f wq wq (λz _ l=>V.ac.below l) V.ll V.ss V.bm;go_wp2_with fail
  refine P.mono ?_;rintro e U(⟨-,rfl,H,E⟩|⟨X,H,rfl,E⟩)
  .have D:Hd (LI w bb F (i+1) _ U):=⟨_,H,L,nb,_,E,wq,wq,wq⟩
   go_wp2;refine I _ _<|pf ?_ hi D<|C _;exact⟨_,_,_,_,_,_,_,W,W⟩
  obtain⟨J,l,m,⟨p,cp,rfl⟩,S⟩:=E.cC X.pb K9;have D:Hd (LI w bb F (i+1) _ l):=⟨s++h::t++[X],H,L,nb,_,by simpa using S,K9,K9,wq⟩
  have j:=cV m;go_wp2_with(at_builtin;refine Lib.wpList_append_run _ W _ _ _ _ W _ _ W W _ _ j ?_);refine I _ _<|pf ?_ hi D<|C _;exact⟨_,_,_,_,_,_,_,W,W⟩
 by_cases l:kind=2
 .subst l;have l:=R.aa.cs;simp only[oI,Hb,kZ,wl,XN,XG,Nat.reduceAdd]at l;have P:=cV<|d.sent q f wq wq x Z vl data ac;go_wp2_with fail
  refine P.mono ?_;rintro e U⟨rfl,X,H,l,E⟩;rw[show((s++h::t).map _)=(s++X::t).map λh=>pt h.pb by simp]at E;have D:Hd (LI w bb F (i+1) _ U):=⟨_,H,_,nb,O,E,K9,K9,wq⟩
  go_wp2;refine I _ _<|pf ?_ hi D<|C _;exact⟨_,_,_,_,_,_,_,W,W⟩
 by_cases l:kind=3
 .subst l;have P:=cV<|d.told q f wq wq;go_wp2_with fail
  refine P.mono ?_;rintro e U⟨rfl,H,E⟩;have D:Hd (LI w bb F (i+1) _ U):=⟨_,H,L,_,O,E,wq,r.1,wq⟩
  go_wp2;refine I _ _<|pf ?_ hi D<|C _;exact⟨_,_,_,_,_,_,_,W,W⟩
 have l:(kind==1)=false:=K9
 have l:(kind==2)=false:=K9
 have l:(kind==3)=false:=K9
 have D:Hd (LI w bb F (i+1) _ y):=⟨_,G,L,nb,O,d,wq,r.1,wq⟩
 go_wp2;refine I _ _<|pf ?_ hi D<|C _;exact⟨_,_,_,_,_,_,_,W,W⟩
def Au{E:Nat}{e:OpE}{u:VL}(A:Frm [sc,u1,u2,pt bb,u4,.bool true,u6,u7,u8,v,iI (i:Int),pt E,iI (k:Int)] 120 a)(c:k<=9223372036854775807)(hi:i<=47661)(Y:Hd<|Zr w/\0<w.heap.size)(H:Hd<|LI w bb F i v y)(U:Hd<|OpOk w e u)(R:Hd<|rowL y E 65<|Hb e u)(O:Hd (∀b z L,FrS sc bb L i b->LI w bb F (i+1) L z->Q .normal b z)):Code.wp prog (zu [true,true,true,true,true,true,true,true,true,false,true,false,false,true,false,false,true,true,true]<|f5.body.getD .skip) Q a y:=by
 let⟨c,G,f,nb,T,S,D,P,J⟩:=H.aa;obtain⟨g,cp,rfl,C⟩:=S.at D;have X:=Xs k D;obtain⟨n,V⟩:∃n,n=c.length:=⟨_,W⟩
 rw[<-V]at X C D A H S;have d:n<=47664:=wq
 clear V;obtain⟨r,l⟩:∃r,r=k%n:=⟨_,W⟩
 rw[<-l]at X;obtain⟨s,h,t,rfl,c⟩:=C (n-1-r) wq;have Z:Hd (∀b,Frm [sc,u1,u2,pt bb,u4,.bool _,u6,u7,u8,_,.int _ i,pt E,iI k,pt _] _ b->Code.wp _ _ Q b y):=λb c=>Q4 ⟨_,_,_,W⟩ c hi Y ⟨P,J⟩ S U R O;have j:(k:Int).tmod (n:Int)=r:=K9
 have m:n-1=((n-1:Nat):Int):=wq
 have p:((n-1:Nat))-r=((n-1-r:Nat):Int):=wq
 clear H C S U R Y O l P J;apply A.op;simp only[po,XN,XG];intros;conv=>arg 2;whnf
 refine wp_seq_k λK I=>?_;replace I:=cV I;go_wp2;refine I _ _<|Z _ ?_;exact⟨_,W,W⟩
def Rq{e:OpE}{u:VL}(A:FrS (.slice (some ⟨g,o,none⟩) N cp) bb v i a)(hi:i<=47661)(p:i<N)(V:Hd<|Zr w/\0<w.heap.size)(J:Hd<|LI w bb F i v y)(d:g<w.heap.size)(U:Hd (∀j x,(Hb e u)[j]?=some x->cL w g (o+i*17+j) x))(I:Hd<|OpOk w e u)(P:Hd (∀b z O,FrS (.slice (some ⟨g,o,none⟩) N cp) bb O i b->LI w bb F (i+1) O z->Q .normal b z)):Code.wp prog (zu [true,true,true,true,true,true,true,true,true,false,true,false,false,true,false,false]<|f5.body.getD .skip) Q a y:=by
 let⟨u1,u2,u4,u6,u7,u8,A⟩:=A;let⟨kind,on,world,l,Z,q,data,ac⟩:=e;obtain⟨D,E,uc,rfl⟩:∃D E uc,u=.slice D E uc:=by let⟨m,c,e,_⟩:=I.aa.ac;grind
 have X:∀j x,(Hb _ _)[j]?=some x->y.cell? _=some x:=λj x h=>((by let⟨_,_,_,_,_,S,_⟩:=J.aa;exact S.be:bW w y).cell d).trans<|U j x h;have Y:=AE (z:=17) λj u _=>X j u;simp only[A3,A0,Hb,kZ,wl,XN,XG,Nat.reduceAdd]at Y;have R:=cV<|rowL.al y (Hb ⟨kind,on,world,l,Z,q,data,ac⟩<|.slice D E uc) 65;replace J:Hd (LI w bb F i v _):=(λ⟨n,G,a,b,c,S,r⟩=>⟨n,G,a,b,c,S.below<|ai (dO _ y)<|.cells (Hb ⟨kind,on,world,l,Z,q,data,ac⟩<|.slice D E uc).toArray 65,r⟩) J;have lo:=I.aa.lo;have f:=I.aa.hi;clear X U;apply A.op;simp only[po,XN,XG];intros;conv=>arg 2;whnf
 refine wp_seq_k λK C=>?_;replace C:=cV C;go_wp2;refine C _ _ ?_;change Code.wp _ _ _ _ (y.alloc<|.cells (Hb ⟨kind,on,world,l,Z,q,data,ac⟩<|.slice D E uc).toArray 65);obtain⟨L,H⟩:∃L,L=y.heap.size:=⟨_,W⟩
 rw[<-H]at R⊢;generalize y.alloc (.cells (Hb ⟨kind,on,world,l,Z,q,data,ac⟩<|.slice D E uc).toArray 65)=l at*;have c1:l.cell? ⟨L,1,_⟩=some (.int _ on):=R.aa.cell W;clear H;refine wp_seq_k λK C=>?_;replace C:=cV C;go_wp2;refine C _ _ ?_;refine wp_seq_k λK C=>?_;replace C:=cV C;by_cases T:on<0
 .obtain⟨k,hk⟩:∃k:Nat, -(on+1)=k:=⟨(-(on+1)).toNat,wq⟩
  go_wp2;refine C _ _ ?_;exact Au ⟨_,W,W⟩ wq hi V J I R P
 obtain⟨k,rfl⟩:∃k:Nat,on=k:=⟨on.toNat,wq⟩
 go_wp2;refine C _ _ ?_;exact Au ⟨_,W,W⟩ wq hi V J I R P
end
section
variable {F:List Rs}{a:Act}
def FrS.ten(A:FrS sc bb v i a):nI (a.tmps.getD 10 undef)=i:=by obtain⟨_,_,_,_,_,_,l,rfl,_⟩:=A;rfl
theorem MD{cp:Nat}{ad:Gj}{I:List OpE}{u1 u2 u4 u6 u7 u8:VL}(A:Frm [.slice ad N cp,u1,u2,pt bb,u4,.bool true,u6,u7,u8,v] 123 a)(hN:N<=47662)(HZ:Hd (Zr w/\0<w.heap.size))(HL:Hd (LI w bb F 0 v y))(HI:Hd (N=I.length/\(I=[]\/∃g o,ad=some ⟨g,o,none⟩/\g<w.heap.size/\∀(i:Nat) e,I[i]? =some e->∃u,(∀j x,(Hb e u)[j]? =some x->w.cell? ⟨g,o+i*17+j,none⟩=some x)/\OpOk w e u)))(hQ:Hd (∀b z v',FrS (.slice ad N cp) bb v' N b->LI w bb F N v' z->Q .normal b z)):Code.wp prog (zu [true,true,true,true,true,true,true,true,true,false] (f5.body.getD .skip)) Q a y:=by
 apply A.op;simp only[po,XN,XG]
 intros
 conv=>arg 2;whnf
 refine wp_seq_k λK HK=>?_
 replace HK:=cV HK;go_wp2;refine HK.aa _ _ ?_;refine wp_block (wp_loop (λa y=>∃i v,i<=N/\FrS _ bb v i a/\LI w bb F i v y) (λa _=>N - nI (a.tmps.getD 10 undef)) ⟨0,v,In _,⟨_,_,_,_,_,_,_,rfl,rfl⟩,HL.aa⟩ λa y hI=>?_);obtain⟨i,v,hi,A,HL⟩:=hI;rw[A.ten];obtain⟨Q2,hQ2⟩:∃Q2,Q2=Exit.then (λa' w'=>(∃i v,i<=N/\FrS (.slice ad N cp) bb v i a'/\LI w bb F i v w')/\N - nI (a'.tmps.getD 10 undef)<N - i) (Exit.inBlock 0 Q):=⟨_,rfl⟩
 rw[<-hQ2];replace HL:=cV HL;by_cases hlt:i<N
 ·have HB:Hd (∀(a:Act)(K:K6),FrS (.slice ad N cp) bb v i a->(∀b z v',FrS (.slice ad N cp) bb v' i b->LI w bb F _ v' z->K b z)->Code.wp _ (.block 1 _) (Exit.then K Q2) a y):=λa K hA hK=>by
   obtain⟨hl,h9⟩:=HI.aa;rcases h9 with rfl|⟨g,o,rfl,hg,hcell⟩
   ·grind
   obtain⟨u,hc0,hok⟩:=hcell i I[i] (iN (by omega));exact wp_block (Rq hA (by omega) hlt HZ HL hg hc0 hok λb z v' hb hl=>hK b z v' hb hl)
  have hEq:Hd (∀b z v',FrS _ bb v' _ b->LI w bb F _ v' z->Q2 .normal b z):=λb z v' hb hl=>by
   rw[hQ2];exact⟨⟨_,v',hlt,hb,hl⟩,by rw[hb.ten];omega⟩
  refine wp_seq_k λK HK=>?_
  replace HK:=cV HK;obtain⟨_,_,_,_,_,_,A⟩:=A;apply A.op;simp only[po,XN,XG]
  intros
  go_wp2;refine HK.aa _ _ ?_;refine wp_seq_k λK HK=>?_
  replace HK:=cV HK;refine HB.aa _ K ?_ λb z v' hb hl=>?_
  ·exact⟨_,_,_,_,_,_,_,rfl,rfl⟩
  refine HK.aa _ _ ?_;obtain⟨_,_,_,_,_,_,A⟩:=hb;replace hl:=cV hl;apply A.op;simp only[po,XN,XG]
  intros
  go_wp2;refine hEq.aa _ _ v' ?_ hl.aa;exact⟨_,_,_,_,_,_,_,rfl,rfl⟩
 ·obtain rfl:i=N:=by omega
  have hEq:Hd (∀b,FrS _ bb v i b->Q2 (.exit 0) b y):=λb hb=>by
   rw[hQ2];exact hQ.aa b y v hb HL.aa
  obtain⟨_,_,_,_,_,_,A⟩:=A;apply A.op;simp only[po,XN,XG]
  intros
  go_wp2;refine hEq.aa _ ?_;exact⟨_,_,_,_,_,_,_,rfl,rfl⟩
def KC{E nb H:Nat}{l:List HE}{G:Nat->VL×Tn}(A:FrS sc bb v i a)(U:Hd<|Zr w/\0<w.heap.size)(O:Hd<|0<l.length)(c:E+(nb+l.length)<=47665)(j:H<=47665)(C:Hd<|SW w bb F E nb H v (l.map λh=>pt h.pb) l G y)(V:Hd (∀b z L,FrS sc bb v i b->SW w bb F E (nb+l.length) H v (l.map λh=>pt h.pb) l L z->Q .normal b z)):Code.wp prog (zu [true,true,true,true,true,true,true,true,true,true,false]<|f5.body.getD .skip) Q a y:=by
 obtain⟨c,p,T,c,o,u8,A⟩:=A;obtain⟨g,Y,rfl, -⟩:=C.aa.at O.aa;obtain⟨n,X⟩:∃n,n=l.length:=⟨_,W⟩
 have m:Hd (∀(k:Nat) z G,k<n->SW w bb F E (nb+k) H (sL g n Y) _ l G z->∃pb,z.cell? ⟨g,k,_⟩=some (pt pb)/\Calls _ 19 #[pt pb,pt bb] z λe Z=>e=.returned _/\∃L,SW w bb F E (nb+k+1) H _ (l.map _) l L Z):=λk z G c S=>by let⟨K,d,e,P⟩:=S.at O.aa;injection e with e;injection e with e;injection e with e;subst e;obtain⟨s,h,t,rfl,I⟩:=P k wq;exact⟨_,I,S.told U.1 U.2 wq j⟩
 rw[<-X]at A C V;have f:n<=47665:=wq
 clear X O U;apply A.op;simp only[po,XN,XG];intros;conv=>arg 2;whnf
 go_wp2;go_loopw[5,17] (λt5 D wr=>∃k:Nat,k<=n/\t5=.bool true/\D=iI (k:Int)/\Hd (∃G,SW w bb F E (nb+k) H (sL g n Y) (l.map λh=>pt h.pb) l G wr)) (λ_ D _=>n-nI D);case atStart=>exact⟨0,In _,W,W,_,C⟩
 obtain⟨k,c,rfl,rfl,C⟩:=hrel;let⟨G,S⟩:=C.aa;by_cases J:k<n
 .obtain⟨pb,I,R⟩:=m.aa k wr G J S;replace R:=cV R;go_wp2_with fail
  refine R.mono ?_;rintro e z⟨rfl,C⟩;replace C:=cV C;go_wp2;exact⟨⟨k+1,wq,W,N1,C⟩,by grind[nI]⟩
 cases(wq:k=n)
 replace S:=cV S;go_wp2;refine V.aa _ _ G ?_ S.aa;exact⟨_,_,_,_,_,_,_,W,W⟩
end
def CL{v:VL}(I:List OpE)(w:WD)(l:SC w v I)(hl:I.length<=47662)(hz:Zr w):cP 5 #[v] w (rT (.bool true) w):=by
 obtain⟨c,c,rfl,c⟩:=l;obtain⟨N,m⟩:∃N,Hd (N=I.length):=⟨_,W⟩
 rw[<-m.aa]at hl⊢;have Z:=cV c;have E:=hz.2;have O:=cV hz;obtain⟨R,H⟩:∃R,R=w.alloc (.cells #[dL,dL,dL,dL] 52):=⟨_,W⟩
 have L:Hd (Sep w.heap.size [eH w.heap.size noG] R):=by
  have V:Sep _ [] w:=⟨λr c=>(by cases c),List.Pairwise.nil,DO _⟩
  rw[H];exact V.book
 have P:Hd (bW w R):=by grind[ai,dO]
 go_enter func5,ntmps5;go_wp2_with fail
 change Calls _ _ _ (w.alloc<|.cells #[dL,dL,dL,dL] 52) _;rw[<-H];obtain⟨bb,C⟩:∃bb,bb=w.heap.size:=⟨_,W⟩
 rw[(by rw[C]:eH w.heap.size noG=eH bb noG)]at L;clear H;refine(AL R).mono ?_;rintro e n⟨g,rfl,Y,X,c⟩;obtain⟨F,j⟩:∃F:List Rs,Hd (F=[gj g 34<|jL 5 9 ⟨#[]⟩ dL++jL 7 0 ⟨#[51,95,85]⟩ dL]):=⟨_,W⟩
 have f:Hd (SW w bb F 0 0 0 dL [] [] noG n):=by refine⟨?_,P.trans<|c.mono P.size,λh l=>(by cases l),λk=>W,λk=>In _⟩;rw[j.aa];exact(((L.new (r:=gj g 34<|jL 5 9 ⟨#[]⟩ dL++jL 7 0 ⟨#[51,95,85]⟩ dL) X c λk c=>by rw[(c:k=g)];exact Y).sw).new (Xy _ _ _ _) (dO _ _) λk c=>by cases c).sw
 have p:=cV<|(f.bS O E wq wq (λz u _=>IT (by rw[j.aa]at u;exact u.hd)) K3 (λx T=>by
  have V:x=⟨5,9,⟨#[]⟩,[]⟩\/x=⟨7,0,⟨#[51,95,85]⟩,[]⟩:=by grind[NA]
  grind) (λx T=>by
  have V:x=⟨5,9,⟨#[]⟩,[]⟩\/x=⟨7,0,⟨#[51,95,85]⟩,[]⟩:=by grind[NA]
  grind)).mono λe z t=>t.resolve_left λV=>by grind[AW]
 rw[<-C];replace C:=cV C;replace E:=cV E;go_upto_region 3 with(first|(go_at_call 17;refine p.mono ?_;rintro e c⟨h,c,rfl,S1⟩)|fail);replace S1:=cV S1;go_wp2_with fail
 refine(dx 5 K3 _).mono ?_;rintro e c⟨c,l,rfl,l⟩;replace S1:=cV<|S1.aa.below l;unfold wv;go_wp2_with fail
 refine(dx 7 K3 _).mono ?_;rintro e q⟨q,Q2,rfl,l⟩;replace S1:=cV<|S1.aa.below l;unfold wv;go_wp2_with fail
 refine(dx 2 K3 _).mono ?_;rintro e o⟨U,Q3,rfl,l⟩;replace S1:=cV<|S1.aa.below l;unfold wv;go_wp2_with fail
 have S2:=S1.aa.below<|ai (dO _ o)<|.cells (kZ c q U ⟨#[]⟩ 1000).toArray 43;change Calls _ _ #[pt h.pb,nz c q U ⟨#[]⟩ 1000,pt bb] (o.alloc<|.cells (kZ c q U ⟨#[]⟩ 1000).toArray 43) _;refine(SW.sent S2 O E.aa wq wq c q U _ _).mono ?_;rintro e c⟨rfl,q,c,J,S2⟩;replace S2:=cV S2;rw[<-J];clear J;go_wp2_with fail
 refine(SW.told S2.aa O E.aa wq wq).mono ?_;rintro e c⟨rfl,c,S3⟩;have d:Hd (LI w bb F 0 _ _):=⟨[q],c,_,_,_,S3.lit _,Nat.one_pos,DO _,DO _⟩
 go_upto_region 10 with fail
 rename_i K D;replace D:=cV D;go_wp2;refine D.aa _ _ ?_;refine wp_seq_k λK h=>?_;refine MD ⟨_,W,W⟩ hl ⟨O,E.aa⟩ d ⟨m,Z⟩<|cV λb z v l d=>?_;refine h _ _ ?_;obtain⟨u,G,c,nb,c,S,c,q,q⟩:=d;refine wp_seq_k λK h=>?_;refine KC l ⟨O,E.aa⟩ c wq wq S<|cV λb z G l S=>?_;refine h _ _ ?_;let⟨_,_,_,_,_,_,A⟩:=l;have s:=cV<|S.bk wq wq;apply A.op;simp only[po,XN,XG];intros;go_wp2_with fail
 refine s.mono ?_;rintro e c⟨rfl,S⟩;replace S:=cV S.be;go_wp2;go_ret;exact⟨W,S.aa⟩
section
open Go.ChangeShapes Go.WideShapes Go.ChangeAt Go.RowKit Go.ChangeMaps
def zeroG:prog.globalNamed "cinder/host.zero"=some 0:=N0
def zeroT:(prog.globals[0]?).map (·.type)=some 24:=N0
theorem AQQ{q:WD}{C:Nat}{cs:Ys}{p:List MemPlace}(u:DataW.trod (λ_=>()) prog q 0 (λ_=>true) false C 24 cs.toList=some (Rows.laid_cinder_host_zero,p)):cs=#[iU 0,iU 0,iU 0,iU 0]:=by
 let⟨l⟩:=cs;cases C with
 |zero=>simp[DataW.trod]at u
 |succ C=>
  simp only[DataW.trod,underlying24,yY,xB]at u;split at u
  .rename_i hl;obtain⟨q,c1,c2,c3,rfl⟩:∃q c1 c2 c3,l=[q,c1,c2,c3]:=by
    match l,hl with
    |[a,b,c,d],_=>exact⟨a,b,c,d,W⟩
   have e:List.range 4=[0,1,2,3]:=rfl;rw[e]at u;simp only[Y1,List.mapM_cons,List.mapM_nil,Option.bind_eq_bind,Option.bind_eq_some_iff,Option.pure_def,Option.some.injEq]at u;obtain⟨Z,⟨h,L,_,⟨X,P,_,⟨o,J,_,⟨Y,Q,_,rfl,rfl⟩,rfl⟩,rfl⟩,rfl⟩,G⟩:=u;obtain⟨x0,D,rfl,f⟩:=DataW.trod_int underlying22 L;obtain⟨j,H,rfl,R⟩:=DataW.trod_int underlying22 P;obtain⟨g,E,rfl,m⟩:=DataW.trod_int underlying22 J;obtain⟨V,I,rfl,U⟩:=DataW.trod_int underlying22 Q;simp at D H E I;subst D H E I;simp[Rows.laid_cinder_host_zero]at G;obtain⟨⟨rfl,rfl,rfl,rfl⟩,_⟩:=G;rfl
  grind
theorem rm{W:WD}{cs:Ys}(C:W.var? prog "cinder/host.zero"=some cs)(D:cs=#[iU 0,iU 0,iU 0,iU 0]):Zr W:=by
 subst D;unfold World.var? at C;rw[zeroG]at C;simp at C;split at C
 .rename_i cs t z hb;cases hV C;refine⟨⟨?_,?_,?_,?_⟩,(WY.1 hb).1⟩<;>simp[World.cell?,hb]
 grind
def pF{W:WD}(h:laidMet prog Rows.sendsUptoRow.laid W):Zr W:=by
 obtain⟨I,C, -, -⟩:=h;obtain⟨g,t,I,D,p,q,H,G,E,I,_,_⟩:=(C)
 cases hV (zeroG.symm.trans H);cases hV (zeroT.symm.trans G);grind[rm,AQQ]
def ownD:ownKnob prog.godebug=none:=N0
def PC(os:Os):laidMet prog Rows.sendsUptoRow.laid ((World.doorLaid prog 400 os).forCall (λ_ _=>0) ⟨#[],args,[]⟩).memory:=laidMet_of_run' 8 N0 N0
def sends(os:Os){D:Type}(E:Vr×VL->D):∃C,DataW.whole E prog ((World.doorLaid prog 400 os).forCall (λ_ _=>0) ⟨#[],#[.slice none 0 0],[]⟩).memory f5.params.toList Rows.sendsSpec.vars false #[.slice none 0 0].toList 8=some ([.nil],[],C):=⟨[],N0⟩
def sg(E:Type){G:Vr×VL->E}(b:WD)(c gs:List<|DataW E){C:List MemPlace}(D:∀(j:Nat) t v,f5.params[j]?=some t->args[j]?=some v->Value.okWide prog b .any O t v)(P:DataW.Whole G prog f5.params.toList Rows.sendsSpec.vars false b args.toList c gs C)(hz:Zr b)(u:Rows.uptoSmall E (c++gs)=true):cP 5 args b λe W'=>∃v,e=.returned v/\Rows.sendsSpec.post G prog f5 false true false false b args v W':=by
 have L:=P;obtain⟨p,q,I,g,rfl,f,U⟩:=P;have Q:=I;rw[params5]at Q D;obtain⟨c,Z,y,R,Y,o,J,rfl,rfl,H,A⟩:=trodAll_cons Q;obtain⟨rfl,rfl,rfl⟩:=trodAll_nil A;cases(K9:args=#[c])
 obtain⟨rfl,rfl⟩:=trodVars_none g;let⟨l,A,V⟩:=IR (D 0 61 c W W) H (by have z:=Xd u;grind[Rows.uptoBulkAll]);refine(CL l b A V hz).mono λe W'⟨d,c⟩=>?_;subst d;exact⟨_,W,_,_,_,[],_,[],L,trodAll_mk1<|shut_bool underlying4 _,(trodAll_cons_mk (Below.trod TU N0 (Xd N0) H c (show∀x∈Y,x.block<b.heap.size by let⟨m,X⟩:=H;exact DataW.trod_lt m _ _ _ X)) trodAll_mk0),W,c.frame _,λh=>by cases h⟩
def xS(os:Os)(C:os.Started)(G:Type)(E:Vr×VL->G)(F:Stop.Interp):ReturnsInHanded {} checked os 5 .any ((Rows.OpenSpec.upto Rows.sendsSpec).preRow E prog f5 Rows.sendsUptoRow.domain false Rows.sendsUptoRow.laid) (((Rows.OpenSpec.upto Rows.sendsSpec).at F).post E prog f5 false true false false):=by
 let⟨J,R⟩:=sends os E;refine returnsInHanded_of_row ownD C N0 func5
  (witness_row_at _ _ _ W N0 N0 N0
   (OpenSpec.preRow_of_cond 8 R N0 (λk U=>by cases U;kernel_rfl) N0<|PC os)) ?_
 intro U O args V P I H L _ D _ Q _ _;exact sg G U V P H L (pF Q)<|D _ W
def plainU(f:FuncId)(fn:Func)(E:pinned.checked.prog.funcNamed "cinder/cinderlaw.Sends"=some f)(C:pinned.checked.prog.funcs[f]?=some fn):false=pinned.checked.prog.looks []/\∀(j:Nat) t,fn.params[j]?=some t->pinned.checked.prog.wantsStandIn t=false:=by
 cases(hV ((N0:prog.funcNamed "cinder/cinderlaw.Sends"=some 5).symm.trans E) |>.symm:f=5);cases((hV<|func5.symm.trans C).symm:fn=f5);refine⟨N0,λj t D=>?_⟩;rw[params5]at D;cases(K9:t=61)
 exact(N0:prog.wantsStandIn 61=false)
end
end
end cin
end Go.Proofs.YtohoajjdoihekaaGreatDoor
