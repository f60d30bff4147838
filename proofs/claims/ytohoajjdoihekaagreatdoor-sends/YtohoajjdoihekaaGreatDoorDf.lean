import Derived.Test.YtohoajjdoihekaaGreatDoorYgda
import Derived.Deep.RegionHeld3
set_option linter.unusedVariables false
set_option linter.unusedSimpArgs false
set_option linter.defProp false
namespace Go.Proofs.YtohoajjdoihekaaGreatDoor
namespace cin
open Go.RowKit Go.Maps Go.Proofs.Tryz Tryz
set_option maxRecDepth 100000
set_option maxHeartbeats 8000000
variable {run:RS->RS}{tr Ry R:RS}{y x:WD}{Z q1 q2 o1 o2 gv b1 gs O H Y a n J p d hb:Nat}{u2 u3 u7 u8 u9 u10 u11 u17 u19 u12 u13 u1 pv lv:VL}{l:hZ}{Q:Y6}{pu:List Pur}{sl:List Slt}{rs:List Rs}{data:BA}
section
variable {b2 b3:Nat}
def call_3{v:Nat}(J:Nat)(f8:Hd (∀G,Pot G<|run G))(d1:Hd<|pW run R.depth)(f:Hd<|GoodR R)(N:Hd<|Cb R Ry q1 q2 o1 o2 gv)(f9:Hd<|tr=D3 run J Z v (q1,q2) (o1,o2) gv Ry)(u:Hd<|Sx O H Y x Ry Ry (bx b3 v::bx b2 Z::bx b1 gs::l) y){c u20:VL}{a:Act}(A:Frm [pt H,iI (J:Int),u2,u3,pt b1,pt b2,pt b3,u7,u8,u9,u10,u11,iI (q1:Int),iI (q2:Int),iI (o1:Int),iI (o2:Int),iI (gv:Int),u17,c,u19,u20] 234 a):Code.wp prog (WT 19<|f131.body.getD .skip) (bodyPost prog f131<|Dp O H Y tr (.tuple #[]) l x) a y:=by
 apply A.op;clear A;iterate 234 intro
 simp only[po,XN,XG];conv=>arg 2;whnf
 have hpu:=f.aa.pu;have hsl:=f.aa.sl;have c:=f.aa.lg;rw[<-N.aa.w]at hpu hsl c;have b7:=N.aa.fq;have c:Ry.mem.length<=65568:=by let⟨_,_,_,c,_⟩:=u.aa.q.ex;exact c
 have c9:Ry.depth<=16:=by rw[N.aa.aS];exact f.aa.aS
 have hgl:=By N.gv u.q.ac;have HB:=cV u.b;let⟨X,C,V,c⟩:=u.aa.q;have c0:=(u.q.cell (o:=0)<|λ_ _=>W).1;have e0:=c.1.wa.row.cell (i:=0) W;have e1:=c.1.wa.row.cell (i:=1) W;have e2:=c.1.wa.row.cell (i:=2) W;let⟨L,b6,f4,f7,a7⟩:=DX.rows c;replace a7:=cV a7;replace b6:=cV b6;have HF:Hd (DX O H Y Ry X C V _ y):=c;have e8:=cV<|aIn f4 f7;clear c f4 f7 u;go_wp2_with fail
 refine(Ow HF.1.wa wq wq wq).mono ?_;rintro e y9⟨V9,rfl,d6,d3,c⟩;let⟨a1,k1,a2,k2,a3,k3,u,s2,s3⟩:=d3.sl c.size;let⟨pv9,lv9,gv9,tv9⟩:=V9;dsimp only at d6 u s2 s3;subst u s2 s3;have u:=cV<|WQ.copy HF.1.wa e8.1 e8.2 d6 d3 c;have m:=cV<|c.trans<|(ai (dO _ y9)<|.cells #[.slice a1 Ry.w.pu.length k1,.slice a2 Ry.w.sl.length k2,.slice a3 Ry.w.lg.length k3] 146).mono c.size;let⟨t0,t1,t2,t3,_⟩:=(HF.below m).q.tail.aJ;clear d3 d6 c e0 e1 e2 c0;go_wp2_with fail
 refine(qE Z u).mono ?_;rintro e U⟨rfl,hQ,c8⟩;let⟨a9,f6⟩:=iG Z Ry.w;let⟨pi,e7⟩:=dP<|(ag Z Ry.w).1;let⟨P1,c⟩:=dP<|(ag Z Ry.w).2;rw[<-e7.aa,<-c.aa]at a9;rw[<-c.aa]at f6 hQ;rw[<-e7.aa];obtain⟨cd,e5⟩:∃cd:BA,Hd (cd=P1.pu[pi].ae):=⟨_,cV W⟩
 have g1:cd=(mB (ag Z Ry.w).2 (ag Z Ry.w).1).ae:=by rw[e5.aa,<-c.aa,<-e7.aa,sd _]
 replace u:=cV hQ;replace m:=cV<|m.trans c8;let⟨xb,HXB⟩:=dP y9.heap.size;rw[<-HXB.aa]at u⊢;clear hQ c8 t0 t1 t2 t3;obtain⟨G0,j⟩:∃G0:RS,Hd (G0={uT J Z v (q1,q2) gv Ry cd P1 with ak:=Z,ax:=Ry.ak,value:=v}):=⟨_,W⟩
 have b9:Hd (G0={uT J Z v (q1,q2) gv Ry (mB (ag Z Ry.w).2 (ag Z Ry.w).1).ae (ag Z Ry.w).2 with ak:=Z,ax:=Ry.ak,value:=v}):=by rwa[<-g1,<-c.aa]
 clear g1;have c:=HF.aa.below m;let⟨g9,d0,j0,f5⟩:=u.aa.ps a9;have j8:cL U g9 (pi*9+8) (.string cd):=by rw[e5.aa];exact f5 8 _ wq W
 let⟨N9,e4⟩:=dP P1.pu.length;rw[<-e4.aa]at j0;have f3:pi<N9:=by rw[e4.aa];exact a9
 let⟨sf,d4⟩:=dP Ry.ak;obtain⟨c4,c5,c6,c7⟩:U.cell? _=some (lu sf 0)/\U.cell? _=some (lu sf 1)/\U.cell? _=some (lu sf 2)/\U.cell? _=some (lu sf 3):=by rw[d4.aa];exact⟨(c.q.cell (o:=4)<|λ_ _=>W).1,(c.q.cell (o:=5)<|λ_ _=>W).1,(c.q.cell (o:=6)<|λ_ _=>W).1,(c.q.cell (o:=7)<|λ_ _=>W).1⟩
 have e6:=(c.q.cell (o:=17)<|λ_ _=>W).1;have f0:=(c.q.cell (o:=20)<|λ_ _=>W).1;let⟨dp,b0⟩:=dP Ry.depth;have Bp:dp<=16:=by rw[b0.aa];exact c9
 rw[<-b0.aa]at e6;let⟨rd,d9⟩:=dP Ry.aR;rw[<-d9.aa]at f0;let⟨b5,e9⟩:=dP<|(J==250);have d5:((J:Int)==250)=b5:=by
  rw[e9.aa];by_cases h:J=250
  .rw[h];rfl
  rw[Xb.2 h];exact Xb.2 wq
 let⟨g5,g0,f1,g4,_⟩:=c.q.aJ;let⟨t0,t1,t2,t3,_⟩:=c.q.tail.aJ;let⟨F,d7⟩:=dP<|dI<|dM Ry.mem q1 q2;have f2:=c.1.row.cell (i:=22) W;have a8:=cV c.1.me;let⟨g3,E,S⟩:=dt a8.aa;have t:Hd (((g3=none/\E=0)\/∃g,g3=some ⟨g,0,none⟩)/\Ry.mem.length<=E/\E<=9223372036854775807):=by
  rcases a8.aa.2 with⟨e,h0⟩|⟨g,cap',cur,e,_,_,h4,h5,_⟩
  .rw[S]at e;injection e with e1 e2 e3;exact⟨LZ ⟨e1,e3⟩,wq,wq⟩
  rw[S]at e;injection e with e1 e2 e3;subst e3;exact⟨A4 ⟨g,e1⟩,h4,by unfold maxLen at h5;omega⟩
 replace j:Hd (G0=⟨cd,F,⟨_⟩,Z,sf,v,gv,dp+1,0,0,rd||b5,[],[],⟨_⟩,P1⟩):=j.aa.trans (by rw[d7.aa,d4.aa,b0.aa,d9.aa,e9.aa];rfl);have d8:Hd (∀z,Below _ _ z->DQ y.heap.size z.heap.size xb G0 (L++(bx b3 v::bx b2 Z::bx b1 gs::l)) _):=λz hz=>(u.below hz).frame G0 (by rw[j.aa]) (by rw[j.aa]) (by rw[j.aa]) (by rw[j.aa];exact hgl);rw[j.aa]at d8;clear f5 d4 b0 d9 e9 u e8 a9 f6 e4 e5 c9 c;replace S:=cV S;go_wp2;rename_i hgo;cases rd
 .refine jB (λx x'=>bW x x') (λx=>dO _ x) (λ_ x=>bW U x) (λ_ _ _ _=>True) [(0,(pt H)),(1,(iI (J:Int))),(5,(pt b2)),(6,(pt b3)),(12,(iI (q1:Int))),(13,(iI (q2:Int))),(16,(iI (gv:Int))),(18,(pt xb)),(19,(iI (pi:Int)))] [(some 108,.v<|pt xb),(some 109,.v<|sL g9 N9 d0),(some 110,.v<|iI (pi:Int)),(some 111,.v<|pq g9<|pi*9),(some 112,.v<|pq g9<|pi*9+8),(some 113,.v<|.string cd),(some 114,.v<|pt H),(some 115,.v<|pt H),(some 116,.v<|pq H 22),(some 117,.v C),(some 118,.v<|iI (q1:Int)),(some 119,.v<|iI (q1:Int)),(some 120,.v<|iI (q2:Int)),(some 121,.v<|iI ((q1+q2:Nat):Int)),(some 122,.l<|λ_ v _=>PartOf C v q1 q2),(some 123,.v<|.string F),(some 124,.v<|wv Z),(some 125,.v<|pt H),(some 126,.v<|pt H),(some 127,.v<|pq H 4),(some 128,.v<|wv sf),(some 129,.v<|wv v),(some 130,.v<|iI (gv:Int)),(some 131,.v<|pt H),(some 132,.v<|pt H),(some 133,.v<|pq H 17),(some 134,.v<|iI (dp:Int)),(some 135,.v<|iI ((dp+1:Nat):Int)),(some 136,.v<|pt H),(some 137,.v<|pt H),(some 138,.v<|pq H 20),(some 139,.v<|.bool false),(some 140,.v<|.bool false),(some 141,.v<|iI (J:Int)),(some 142,.v<|.bool b5),(some 143,.v<|.bool b5),(some 144,.v<|.agg #[pt xb,.string cd,.string F,.string ⟨#[]⟩,lu Z 0,lu Z 1,lu Z 2,lu Z 3,lu sf 0,lu sf 1,lu sf 2,lu sf 3,lu v 0,lu v 1,lu v 2,lu v 3,iI (gv:Int),iI ((dp+1:Nat):Int),iI 0,iI 0,.bool b5,.slice none 0 0,.slice none 0 0,.string ⟨#[]⟩]),(some 145,.l (λ_ u0 x=>∃c,u0=pt c/\DQ y.heap.size c xb G0 (L++(bx b3 v::bx b2 Z::bx b1 gs::l)) x/\bW y x)),(some 20,.l (λ_ u0 x=>∃c,u0=pt c/\DQ y.heap.size c xb G0 (L++(bx b3 v::bx b2 Z::bx b1 gs::l)) x/\bW y x))] [] [1,3,5,9,13,14,15,16,20,21,26,27,31,34,36,37,38] [] K2 K2 ((dO _ _).drew) (λk x x' h u=>h.trans<|u.mono h.size)
    True.intro
    ⟨(λ_ D I P=>dm (I W) (ff D j0)<|kx P),(λ_ D I P=>by
     have Q:Below _ _ _:=D;exact mA 9 (I W) (I W) f3<|kx P),(λ_ D I P=>dm (I W) (ff D j8)<|kx P),(λ_ D I P=>by
     have Q:Below U.heap.size _ _:=D;exact dm (v:=C) (I W) (ff Q f2)<|kx P),(λ_ _ I P=>BM (I W) (I W) wq<|kx P),(λ_ D I P=>by
     have Q:Below U.heap.size _ _:=D;exact zA ((I W).trans S.aa) (I W) (I W) b7 t.aa.2.1 t.aa.2.2 t.aa.1<|λr hr=>P _ _ (dO _ _) nn1 (by rw[S.aa];exact hr)),(@λk s x hk a0 a4 hl K a5 D I P=>by
     have Q:Below _ _ x:=D;have hp:=hl 122 _ W;have hr:=(PartOf.bD hp (dh a8.aa Q) b7).bJ;rw[show(⟨_⟩:BA)=F from d7.aa.symm]at hr;exact Fs W hr<|kx P),(λ_ D I P=>dD (n:=Z) (I W) (ff D t0) (ff D t1) (ff D t2) (ff D t3)<|kx P),(λ_ D I P=>by
     have Q:Below _ _ _:=D;exact dD (n:=sf) (I W) (ff Q c4) (ff Q c5) (ff Q c6) (ff Q c7)<|kx P),(λ_ D I P=>dD (n:=v) (I W) (ff D g5) (ff D g0) (ff D f1) (ff D g4)<|kx P),(λ_ D I P=>by
     have Q:Below _ _ _:=D;exact dm (I W) (ff Q e6)<|kx P),(λ_ _ I P=>JD dp 1 wq wq (I W)<|kx P),(λ_ D I P=>by
     have Q:Below _ _ _:=D;exact dm (I W) (ff Q f0)<|kx P),(λ_ _ I P=>st_eqK (I W) d5<|kx P),(λ_ D I P=>by
     have Q:Below _ _ _:=D;exact xr (I W) (I W) (I W) (I W) (I W) (I W) (I W) (I W) (I W)<|kx P),(@λk s x hk a0 a4 hl K a5 D I P=>by
     have Q:Below _ _ x:=D;refine Di (I W) (P _ _ (ai (dO _ x) _) nn1 ⟨x.heap.size,W,?_,?_⟩)
     .rw[j.aa];exact d8 x Q
     exact m.trans<|(Q.mono m.size).trans<|(ai (dO _ x) _).mono<|By m.size Q.size),(@λk s x hk a0 a4 hl K a5 D I P=>nY _ 20 W<|P _ x (dO _ _) nn1<|hl _ _ W),AF⟩
    (λ_ _ _ _ _ _ _ _ _ h=>absurd h<|Nat.not_lt_zero _) (λi d T' he p v x x' D u hT=>by
     have hm:=Xe he;simp only[IF,XV,reduceCtorEq,Zb,Za,XI,Xk,En.l.injEq]at hm;rcases hm with⟨-,rfl⟩|⟨-,rfl⟩|⟨-,rfl⟩
     .exact hT
     .obtain⟨c,e,h1,T⟩:=hT;exact⟨c,e,h1.below u,T.trans<|u.mono T.size⟩
     let⟨c,e,h1,T⟩:=hT;exact⟨c,e,h1.below u,T.trans<|u.mono T.size⟩) ?_
  intro gg z hz hT;let⟨c,e,h1,T⟩:=hT 38 _ _ W;simp only[n8,sx9];rw[e];exact hgo _ _<|Jt J f8 d1 f N HF b6 a7 HB T h1 b9 f9 ⟨_,W,W⟩
 refine jB (λx x'=>bW x x') (λx=>dO _ x) (λ_ x=>bW U x) (λ_ _ _ _=>True) [(0,(pt H)),(1,(iI (J:Int))),(5,(pt b2)),(6,(pt b3)),(12,(iI (q1:Int))),(13,(iI (q2:Int))),(16,(iI (gv:Int))),(18,(pt xb)),(19,(iI (pi:Int)))] [(some 108,.v<|pt xb),(some 109,.v<|sL g9 N9 d0),(some 110,.v<|iI (pi:Int)),(some 111,.v<|pq g9<|pi*9),(some 112,.v<|pq g9<|pi*9+8),(some 113,.v<|.string cd),(some 114,.v<|pt H),(some 115,.v<|pt H),(some 116,.v<|pq H 22),(some 117,.v C),(some 118,.v<|iI (q1:Int)),(some 119,.v<|iI (q1:Int)),(some 120,.v<|iI (q2:Int)),(some 121,.v<|iI ((q1+q2:Nat):Int)),(some 122,.l<|λ_ v _=>PartOf C v q1 q2),(some 123,.v<|.string F),(some 124,.v<|wv Z),(some 125,.v<|pt H),(some 126,.v<|pt H),(some 127,.v<|pq H 4),(some 128,.v<|wv sf),(some 129,.v<|wv v),(some 130,.v<|iI (gv:Int)),(some 131,.v<|pt H),(some 132,.v<|pt H),(some 133,.v<|pq H 17),(some 134,.v<|iI (dp:Int)),(some 135,.v<|iI ((dp+1:Nat):Int)),(some 136,.v<|pt H),(some 137,.v<|pt H),(some 138,.v<|pq H 20),(some 139,.v<|.bool true),(some 140,.v<|.bool true),(some 141,.v undef),(some 142,.v undef),(some 143,.v<|.bool true),(some 144,.v<|.agg #[pt xb,.string cd,.string F,.string ⟨#[]⟩,lu Z 0,lu Z 1,lu Z 2,lu Z 3,lu sf 0,lu sf 1,lu sf 2,lu sf 3,lu v 0,lu v 1,lu v 2,lu v 3,iI (gv:Int),iI ((dp+1:Nat):Int),iI 0,iI 0,.bool true,.slice none 0 0,.slice none 0 0,.string ⟨#[]⟩]),(some 145,.l (λ_ u0 x=>∃c,u0=pt c/\DQ y.heap.size c xb G0 (L++(bx b3 v::bx b2 Z::bx b1 gs::l)) x/\bW y x)),(some 20,.l (λ_ u0 x=>∃c,u0=pt c/\DQ y.heap.size c xb G0 (L++(bx b3 v::bx b2 Z::bx b1 gs::l)) x/\bW y x))] [] [1,3,5,9,13,14,15,16,20,21,26,27,31,36,37,38] [33,34] (by intro i hi;simp at hi;rcases hi with rfl|rfl<;>exact⟨_,W⟩) K2 ((dO _ _).drew) (λk x x' h u=>h.trans<|u.mono h.size)
   True.intro
   ⟨(λ_ D I P=>dm (I W) (ff D j0)<|kx P),(λ_ D I P=>by
    have Q:Below _ _ _:=D;exact mA 9 (I W) (I W) f3<|kx P),(λ_ D I P=>dm (I W) (ff D j8)<|kx P),(λ_ D I P=>by
    have Q:Below _ _ _:=D;exact dm (v:=C) (I W) (ff Q f2)<|kx P),(λ_ _ I P=>BM (I W) (I W) wq<|kx P),(λ_ D I P=>by
    have Q:Below _ _ _:=D;exact zA ((I W).trans S.aa) (I W) (I W) b7 t.aa.2.1 t.aa.2.2 t.aa.1<|λr hr=>P _ _ (dO _ _) nn1 (by rw[S.aa];exact hr)),(@λk s x hk a0 a4 hl K a5 D I P=>by
    have Q:Below _ _ x:=D;have hp:=hl 122 _ W;have hr:=(PartOf.bD hp (dh a8.aa Q) b7).bJ;rw[show(⟨_⟩:BA)=F from d7.aa.symm]at hr;exact Fs W hr<|kx P),(λ_ D I P=>dD (n:=Z) (I W) (ff D t0) (ff D t1) (ff D t2) (ff D t3)<|kx P),(λ_ D I P=>by
    have Q:Below U.heap.size _ _:=D;exact dD (n:=sf) (I W) (ff Q c4) (ff Q c5) (ff Q c6) (ff Q c7)<|kx P),(λ_ D I P=>dD (n:=v) (I W) (ff D g5) (ff D g0) (ff D f1) (ff D g4)<|kx P),(λ_ D I P=>by
    have Q:Below U.heap.size _ _:=D;exact dm (I W) (ff Q e6)<|kx P),(λ_ _ I P=>JD dp 1 wq wq (I W)<|kx P),(λ_ D I P=>by
    have Q:Below U.heap.size _ _:=D;exact dm (I W) (ff Q f0)<|kx P),(λ_ _ I P=>xr (I W) (I W) (I W) (I W) (I W) (I W) (I W) (I W) (I W)<|kx P),(@λk s x hk a0 a4 hl K a5 D I P=>by
    have Q:Below U.heap.size _ x:=D;refine Di (I W) (P _ _ (ai (dO _ x) _) nn1 ⟨x.heap.size,W,?_,?_⟩)
    .rw[j.aa];exact d8 x Q
    exact m.trans<|(Q.mono m.size).trans<|(ai (dO _ x) _).mono<|By m.size Q.size),(@λk s x hk a0 a4 hl K a5 D I P=>nY 145 20 W<|P _ x (dO _ _) nn1<|hl _ _ W),AF⟩
   (λ_ _ _ _ _ _ _ _ _ h=>absurd h<|Nat.not_lt_zero _) (λi d T' he p v x x' D u hT=>by
    have hm:=Xe he;simp only[IF,XV,reduceCtorEq,Zb,Za,XI,Xk,En.l.injEq]at hm;rcases hm with⟨-,rfl⟩|⟨-,rfl⟩|⟨-,rfl⟩
    .exact hT
    .obtain⟨c,e,h1,T⟩:=hT;exact⟨c,e,h1.below u,T.trans<|u.mono T.size⟩
    let⟨c,e,h1,T⟩:=hT;exact⟨c,e,h1.below u,T.trans<|u.mono T.size⟩) ?_
 intro gg z hz hT;let⟨c,e,h1,T⟩:=hT 38 _ _ W;simp only[n8,sx9];rw[e];exact hgo _ _<|Jt J f8 d1 f N HF b6 a7 HB T h1 b9 f9 ⟨_,W,W⟩

def call_2{z:RS}{v:Nat}(J:Nat)(hrp:Hd (∀G,Pot G<|run G))(F:Hd<|pW run R.depth)(X:Hd<|GoodR R)(C:Hd<|tr=du (dA z) λa R=>du (dA R) λn R=>du (dA R) λr R=>du (dA R) λon R=>du (dJ a n R) λq R=>du (dJ r on R) λo R=>Bu run J gs Z v q o R)(D:Hd<|Sx O H Y x (dU 100 R) z (bx b3 v::bx b2 Z::bx b1 gs::l) y){u e u16 u18 u20:VL}{a:Act}(A:Frm [pt H,iI (J:Int),u2,u3,pt b1,pt b2,pt b3,u7,u8,u9,u10,u11,u12,u13,u,e,u16,u17,u18,u19,u20] 234 a):Code.wp prog (WT 7<|f131.body.getD .skip) (bodyPost prog f131<|Dp O H Y tr (.tuple #[]) l x) a y:=by
 apply A.op;clear A;iterate 234 intro
 simp only[po,XN,XG];conv=>arg 2;whnf
 go_wp2_with fail
 refine fE C D ?_;clear C D;intro a u u C D;go_wp2_with fail
 refine fE C D ?_;clear C D;intro n u u C D;go_wp2_with fail
 refine fE C D ?_;clear C D;intro r u u C D;go_wp2_with fail
 refine fE C D ?_;clear C D;intro on u u C D;let⟨h,f,V,m,j⟩:=D.aa.cs 2 _ _ W;let⟨u,e,p32,p33,p3f⟩:=D.aa.cs 3 _ _ W;go_wp2_with fail
 refine qm a n C D ?_;clear C D;intro q1 q2 R25 y25 C D t;clear h f V m j u e p32 p33 p3f;let⟨e,u,p02,p03,p0f⟩:=D.aa.cs 0 _ _ W;let⟨vm,ze,p12,p13,p1f⟩:=D.aa.cs 1 _ _ W;go_wp2_with fail
 refine qm r on C D ?_;clear C D;intro o1 o2 I r C D r;clear e u p02 p03 p0f vm ze p12 p13 p1f;replace D:Hd (Sx _ H Y x _ _ _ _):=⟨D.q.tail.tail.tail.tail,D.b,D.s⟩
 unfold Bu at C;have u:=D.aa.c 19 λ_ _=>W;by_cases K:I.ao=0
 .replace C:=cV<|C.trans<|At K;have d0:((I.ao:Int) !=0)=false:=by rw[K];rfl
  let⟨N,U⟩:=dP I.ac;have u:N<=1000000:=by rw[U.aa];exact D.q.ac
  have u:=D.aa.c 16 λ_ _=>W;let⟨gv,L⟩:=dP<|kB gs I;rw[<-L.aa]at C;rw[<-U.aa]at u;unfold kB at L;rw[<-U.aa]at L;go_wp2;go_quiet (fail);replace D:Hd (Sx O H Y x _ _ _ _):=⟨D.q.below<|A2 (dO _ _) nq,A2 D.b nq,D.s⟩
  let⟨h,f,V,m,j⟩:=D.aa.cs 2 _ _ W;go_wp2_with fail
  refine vK (ij gs 200000 K3 _) D ?_;clear D;intro u D;clear h f V m j;let⟨ga,g⟩:=dP<|ec gs 200000;rw[<-g.aa]at L⊢;have u:ga<=200000:=by rw[g.aa];unfold ec;split<;>omega
  go_upto_if 86 with fail;go_cut[16] (λk i=>k=iI (gv:Int)/\Hd (Sx O H Y x (dU 100 R) I (bx b3 v::bx b2 Z::bx b1 gs::l) i));case first=>
   by_cases S:ga<N-N/64
   .have d:=dT<|(ga:Int)<(N:Int)-(N:Int)/64;have T:gv=ga:=L.aa.trans<|At S;go_wp2;go_meet;simp_all
   have d:=dF<|ga<(N:Int)-(N:Int)/64;have T:(N:Int)-(N:Int)/64=gv:=by rw[L.aa.trans<|iF S];omega
   go_wp2;go_meet;simp_all
  clear D;obtain⟨rfl,D⟩:=hcut;have T:gv<=N:=by rw[L.aa];split<;>omega
  clear L g u;let⟨c3,z3,e⟩:=D.aa.q.cell (o:=3)<|λ_ _=>W;obtain⟨Q,P⟩:∃Q:RS,Hd (Q={I with aI:=⟨#[]⟩}):=⟨_,W⟩
  have u:Hd (DQ _ H Y Q _ (wc.setCell _<|.string ⟨_⟩)/\Below _ x (wc.setCell ⟨H,3,none⟩<|.string ⟨#[]⟩)):=⟨by rw[P.aa];exact D.q.set (o:=3) (λ_ _=>W) W W W D.q.ac,D.b.setCell e _⟩
  rw[<-P.aa]at C;have e:I.depth=Q.depth:=by rw[P.aa]
  rw[e]at C;have e:=(u.1.cell (o:=17)<|λ_ _=>W).1;have p:=cV D.s;clear D;have D:Hd (Sx _ H Y x Q Q _ _):=⟨u.1,u.2,Sm.refl _⟩
  go_upto_if 95 with fail;go_cut[] (λi=>Q.depth≠16/\Hd (Sx O H Y x Q Q (bx b3 v::bx b2 Z::bx b1 gs::l) i));case rest=>
   clear D;let⟨E,D⟩:=hcut;replace C:=cV<|C.trans<|iF E;have u:Hd (Cb R Q q1 q2 o1 o2 gv):=by
    have e:=p.aa.bT wq;have e:=U.aa;have e:=(kI _ R).trans p;have hS:I.ac=Q.ac:=by rw[P.aa]
    exact⟨by rw[P.aa];exact e.w,by rw[P.aa];exact e.depth,E,wq,wq,by rw[P.aa];exact By (t.bN<|r.ov K).1 r.mo,t.n7,t.p7,by rw[P.aa];exact(r.bN K).1⟩
   rename_i hgo;refine hgo _ _ ?_;exact call_3 J hrp F X u C D ⟨_,W,W⟩
  by_cases E:Q.depth=16
  .replace C:=cV<|C.trans<|At E;have u:((Q.depth:Int)==16)=true:=by rw[E];rfl
   go_wp2_with fail
   refine lT (dx 0 wq _) D ?_;clear D;intro r D;go_wp2_with fail
   refine gf (iq 0 D.q) C D λy D=>?_;go_wp2;refine bI W W ⟨W,D.1.tail.tail.tail,D.2⟩
  have u:((Q.depth:Int)==16)=false:=Xb.2 wq;go_wp2;go_meet;case rel=>exact⟨E,D⟩
 have d0:((I.ao:Int) !=0)=true:=Zp.2 wq;replace D:=D.aa.aZ<|cV<|C.trans<|iF K;go_wp2;refine bI W W ⟨W,D.1.tail.tail.tail,D.2⟩
def FX(J:Nat)(Q:∀G,Pot G<|run G)(I:R.depth<16->∀(b gb k:Nat)(G:RS)(L:hZ)(z:WD),DQ b gb k G L z->GoodR G->G.depth=R.depth+1->cP 71 #[pt gb] z (Dp b gb k (run G) (.tuple #[]) L z))(E:GoodR R)(h:DQ O H Y R l x):cP 131 #[pt H,iI (J:Int)] x (Dp O H Y (RR run J R) (.tuple #[]) l x):=by
 replace I:=cV I;replace Q:=cV Q;replace E:=cV E;refine jG (fK (dU 100 R) λR=>du (dA R) λf R=>du (dA R) λZ R=>du (uS J R) λv R=>fK (vV v R) λR=>du (dA R) λa R=>du (dA R) λn R=>du (dA R) λu R=>du (dA R) λon R=>du (dJ a n R) λq R=>du (dJ u on R) λo R=>Bu run J f Z v q o R) W h λu C D=>?_;go_enter func131,ntmps131;go_wp2_with fail
 refine w_pay0 100 wq C D ?_;intro u u C D;go_wp2_with fail
 refine fE C D ?_;intro f u s C D;go_wp2_with fail
 refine fE C D ?_;intro Z N u C D;go_wp2_with fail
 refine lT (dx 0 wq _) D ?_;intro t D;have j:=cV D.q.hb.1;replace D:=cV<|D.box 0;obtain⟨v,y,P⟩:∃v K,Hd (uS J N=(v,K)):=⟨_,_,W⟩
 rw[P.aa,dW]at C;go_upto_if 30 with fail;go_cut[] (λp=>Hd<|Sx O H Y x (dU 100 R) y (bx t.heap.size v::bx u.heap.size Z::bx s.heap.size f::l) p);case first=>
  clear C;by_cases g:J=241
  .have d:((J:Int)==241)=true:=by rw[g];rfl
   have C:Hd ((v,y)=du (dA N) λa S=>(a,S)):=by have r:=P.aa;unfold uS at r;rw[At g]at r;exact r.symm
   clear g P;go_wp2_with fail
   refine Vn C D j λe T D=>?_;obtain⟨e,e,s2,e,e,e,e,e,sf⟩:=T;unfold lp at D;clear C;go_wp2;go_meet;omega
  have d:((J:Int)==241)=false:=Xb.2 wq;have r:=P.aa;unfold uS at r;rw[iF g]at r;obtain⟨rfl,rfl⟩:=Xi r;go_wp2;go_meet;omega
 have D:=hcut;obtain⟨i,r,r,r,r⟩:=D.aa.cs 0 _ _ W;go_wp2_with fail
 refine vK (je v _) D ?_;intro A D;let⟨r,V⟩:=dP<|decide (v%M=0);rw[<-V.aa];obtain⟨X,P⟩:∃K,Hd (K=vV v y):=⟨_,W⟩
 replace C:=P.aa▸C;go_upto_if 36 with fail;go_cut[] (λp=>Hd<|Sx O H Y x (dU 100 R) X (bx t.heap.size v::bx u.heap.size Z::bx s.heap.size f::l) p);case first=>
  unfold vV at P;cases r
  .have C:Hd (X=fK _ λR=>QO R):=cV<|P.trans<|iF<|of_decide_eq_false V.symm;go_wp2_with fail
   refine gR 900 C D ?_;intro m u C D;have F:=D.aa.c 20 λ_ _=>W;let⟨u,U⟩:=dP m.aR;rw[<-U.aa]at F;cases u
   .rw[<-(C.trans<|iF (by rw[<-U.aa];decide))]at D;go_wp2;go_meet;omega
   replace C:Hd (X=fK (fA _) λR=>R):=cV<|C.trans<|At U.symm;go_wp2_with fail
   refine TX (jh D.q D.q.ac) C D (hM _) ?_;intro u A C D;rw[C.aa.symm]at D;go_wp2;go_meet;omega
  rw[<-(P.trans<|At<|Xd V.symm)]at D;go_wp2;go_meet;omega
 have D:=hcut;rename_i hgo;refine hgo _ _ ?_;exact call_2 J Q I E C D ⟨_,W,W⟩
def zu:List Bool->Code->Code
 |[],c=>c
 |b::l,.seq x y=>zu l<|bif b then y else x
 |_::l,.block _ c=>zu l c
 |_::l,.loop c=>zu l c
 |_,c=>c
def Vh(Q:Y6)(a:Act)(y:WD):=Code.wp prog (zu [false,false,false,true,false,true,true,true,true]<|f71.body.getD .skip) Q a y
def ef{n:Int}(h:(a:Int)≠n:=by omega):((a:Int)==n)=false:=Xb.2 h
def KA(a b:Act):=b.tmps.size=167/\b.defers=[]/\b.tmps.toList.take 2=a.tmps.toList.take 2/\b.tmps.toList.drop 156=a.tmps.toList.drop 156
def QD(O H Y:Nat)(tr:RS)(l:hZ)(x:WD)(Q:Y6)(a:Act):=∀(b:Act)(y1:WD),KA a b->Hd (DQ O H Y tr l y1/\Below O x y1)->Q .normal b y1
def Frm.dq{O H Y:Nat}{l:hZ}{x:WD}{h:Tn}{a:Act}(A:Frm h n a)(k:po n λm=>Hd (QD O H Y tr l x Q ⟨(h++m).toArray,[]⟩)->Vh Q ⟨(h++m).toArray,[]⟩ y):QD O H Y tr l x Q a->Vh Q a y:=A.op (P:=λa=>Hd (QD O H Y tr l x Q a)->Vh Q a y) k
theorem reck_R(J:Nat)(C:J<=29)(h:DQ O H Y R l x):cP 121 #[pt H,iI (J:Int)] x (Dp O H Y (Nh J R) (.tuple #[]) l x):=by grind[VJ,Vt,TT,Vi]
def Ru(J:Nat)(E:95<=J/\J<=159)(G:R.ae.size<=70000)(G:R.pc<=100000)(h:DQ O H Y R l x):cP 129 #[pt H,iI (J:Int)] x (Dp O H Y (uI J R) (.tuple #[]) l x):=by
 unfold uI;by_cases D:J<128
 .rw[At D];grind[push_R]
 rw[iF D];by_cases C:J<144
 .rw[At C];grind[dup_R]
 rw[iF C];grind[swap_R]
def info_R(J:Nat)(I:J<63)(C:R.data.size<=70000)(D:R.ae.size<=70000)(E:R.aI.size<=70000)(L:R.w.pu.length<=900000000)(P:30<=J)(h:DQ O H Y R l x):cP 122 #[pt H,iI (J:Int)] x (Dp O H Y (lU J R) (.tuple #[]) l x):=by
 by_cases G:J∈([48,49,51,52,53,54,55,56,57,61,62]:Tl)
 .simp at G;rcases G with rfl|rfl|rfl|rfl|rfl|rfl|rfl|rfl|rfl|rfl|rfl
  .exact qI K2 h
  .exact Mc L h
  .exact qI K2 h
  .exact qI K2 h
  .exact QM C h
  .exact uj K2 C D E h
  .exact mK K2 C D E h
  .exact uj K2 C D E h
  .exact mK K2 C D E h
  .exact uj K2 C D E h
  exact mK K2 C D E h
 rw[Dr ⟨P,I⟩ G];simp at G;grind[NT]
section
variable {a:Act}
def et{a:Nat}{n:Int}(h:(a:Int)=n):((a:Int)==n)=true:=X1.2 h
def Dc(O H Y:Nat)(T:RS)(l:hZ)(y:WD)(f:FuncId)(vs:Ys):=cP f vs y<|Dp O H Y T (.tuple #[]) l y
theorem SL(E:J=80)(A:Frm [pt H,u1,iI (J:Int),iI (p:Int)] 163 a)(C:Hd<|tr=eE run J p R)(D:Hd<|Sx O H Y x R R l y)(G:QD O H Y tr l x Q a):Vh Q a y:=by
 revert G;refine A.dq ?_;simp only[po,XN,XG];unfold Vh;intros;rename_i G;conv=>arg 2;whnf
 have U:=ef (a:=J) (n:=0);have L:=W8 (show¬(J:Int)<30 by omega);have P:=W8 (show¬(J:Int)<63 by omega);have I:((J:Int)==80)=true:=K9
 replace E:=cV E;replace C:Hd (tr=fK _ λR=>(dA R).2):=cV (C.trans (by have E:=E.aa;unfold eE;rw[AQ,AQ,AQ,AV];rfl));go_wp2_with fail
 refine TX (vx 2 wq D.q) C D (kI 2 R) λV X C D=>?_;go_wp2_with fail
 refine gf (pB D.q) C D λZ D=>?_;go_wp2;exact G.aa _ _ ⟨W,W,W,W⟩ D
theorem disp_0(E:J=0)(A:Frm [pt H,u1,iI (J:Int),iI (p:Int)] 163 a)(C:Hd<|tr=eE run J p R)(D:Hd<|Sx O H Y x R R l y)(G:QD O H Y tr l x Q a):Vh Q a y:=by
 revert G;refine A.dq ?_;simp only[po,XN,XG];unfold Vh;intros;rename_i G;conv=>arg 2;whnf
 have U:((J:Int)==0)=true:=K9
 replace E:=cV E;let⟨L,I,V⟩:=D.aa.q.cell (o:=19)<|λ_ _=>W;replace C:=cV (C.trans (by unfold eE;rw[At E.aa]));have P:Hd (DQ _ H Y tr l (y.setCell ⟨H,19,none⟩<|.int _ 1)/\Below _ x (y.setCell ⟨H,19,none⟩<|iI 1)):=⟨by rw[C.aa];exact D.q.set (λ_ _=>W) W W W D.q.ac,D.b.setCell V _⟩
 go_wp2;exact G.aa _ _ ⟨W,W,W,W⟩ P
theorem dispC(h0:J≠0)(h80:J≠80)(hg:GoodR R)(hp:p<=2000)(hrp:∀G,Pot G<|run G)(HRUN:pW run R.depth)(h:DQ O H Y R l y):((1<=J/\J<30)/\Dc O H Y (eE run J p R) l y 121 #[pt H,iI (J:Int)])\/((30<=J/\J<63)/\Dc O H Y (eE run J p R) l y 122 #[pt H,iI (J:Int)])\/((J=81)/\Dc O H Y (eE run J p R) l y 125 #[pt H,iI (J:Int)])\/((J=82)/\Dc O H Y (eE run J p R) l y 125 #[pt H,iI (J:Int)])\/((J=83)/\Dc O H Y (eE run J p R) l y 125 #[pt H,iI (J:Int)])\/((J=84)/\Dc O H Y (eE run J p R) l y 126 #[pt H,iI (J:Int)])\/((J=85)/\Dc O H Y (eE run J p R) l y 126 #[pt H,iI (J:Int)])\/((J=92)/\Dc O H Y (eE run J p R) l y 126 #[pt H,iI (J:Int)])\/((J=93)/\Dc O H Y (eE run J p R) l y 126 #[pt H,iI (J:Int)])\/((86<=J/\J<=91)/\Dc O H Y (eE run J p R) l y 127 #[pt H,iI (J:Int),iI (p:Int)])\/((J=94)/\Dc O H Y (eE run J p R) l y 128 #[pt H,.string ⟨#[]⟩,.bool true,.bool false])\/((95<=J/\J<=159)/\Dc O H Y (eE run J p R) l y 129 #[pt H,iI (J:Int)])\/((160<=J/\J<=164)/\Dc O H Y (eE run J p R) l y 130 #[pt H,iI<|(J:Int)-160])\/((J=241)/\Dc O H Y (eE run J p R) l y 131 #[pt H,iI (J:Int)])\/((J=244)/\Dc O H Y (eE run J p R) l y 131 #[pt H,iI (J:Int)])\/((J=250)/\Dc O H Y (eE run J p R) l y 131 #[pt H,iI (J:Int)])\/((J=243)/\Dc O H Y (eE run J p R) l y 132 #[pt H,iI 1])\/((J=253)/\Dc O H Y (eE run J p R) l y 132 #[pt H,iI 2])\/((63<=J/\J<80)/\Dc O H Y (eE run J p R) l y 133 #[pt H])\/((164<J/\J≠241/\J≠244/\J≠250/\J≠243/\J≠253)/\Dc O H Y (eE run J p R) l y 133 #[pt H]):=by
 have h9:R.w.sl.length<=1000000000:=by have:=hg.sl;omega
 have hc:(1<=J/\J<30)\/(30<=J/\J<63)\/(J=81)\/(J=82)\/(J=83)\/(J=84)\/(J=85)\/(J=92)\/(J=93)\/(86<=J/\J<=91)\/(J=94)\/(95<=J/\J<=159)\/(160<=J/\J<=164)\/(J=241)\/(J=244)\/(J=250)\/(J=243)\/(J=253)\/(63<=J/\J<80)\/(164<J/\J≠241/\J≠244/\J≠250/\J≠243/\J≠253):=wq
 unfold Dc eE;rcases hc with ho|ho|ho|ho|ho|ho|ho|ho|ho|ho|ho|ho|ho|ho|ho|ho|ho|ho|ho|ho;all_goals repeat first|refine .inl ⟨ho,?_⟩|refine .inr ?_|refine⟨ho,?_⟩
 all_goals repeat rw[AQ]
 all_goals try rw[AV]
 ·grind[reck_R]
 ·exact info_R J wq hg.data (By hg.ae K3) hg.aI (by have:=hg.pu;omega) wq h
 ·grind[Uh]
 ·subst ho;exact jD (.inl rfl) h
 ·subst ho;exact jD (.inr rfl) h
 ·subst ho;exact ja false h9 h
 ·subst ho;exact jn false h9 h
 ·subst ho;exact ja true h9 h
 ·subst ho;exact jn true h9 h
 ·exact ways_R J p ho wq (By hg.ae K3) h
 ·exact sP (In _) _ h
 ·exact Ru J ho (By hg.ae K3) (By hg.pc K3) h
 ·rw[(wq:J-160=((J-160:Nat):Int))];exact log_R wq (By (X7 _ _) hg.lg) h
 ·exact FX J hrp HRUN hg h
 ·exact FX J hrp HRUN hg h
 ·exact FX J hrp HRUN hg h
 ·exact Qo 1 K3 h
 ·exact Qo 2 K3 h
 ·exact jh h h.ac
 exact jh h h.ac
def disp(b:J≠0->GoodR R)(c:p<=2000)(D:Hd (∀G,Pot G<|run G))(C:Hd<|pW run R.depth)(A:Frm [pt H,u1,iI (J:Int),iI (p:Int)] 163 a)(F:Hd<|tr=eE run J p R)(f:Hd<|Sx O H Y x R R l y)(z:QD O H Y tr l x Q a):Vh Q a y:=by
 by_cases h:J=0
 .grind[disp_0]
 by_cases I:J=80
 .grind[SL]
 have u:=dispC h I (b h) c D.aa C f.q;clear b c D C h I;revert z;refine A.dq ?_;simp only[po,XN,XG];unfold Vh;intros;rename_i z;conv=>arg 2;whnf
 rcases u with⟨c,u⟩|⟨c,u⟩|⟨c,u⟩|⟨c,u⟩|⟨c,u⟩|⟨c,u⟩|⟨c,u⟩|⟨c,u⟩|⟨c,u⟩|⟨c,u⟩|⟨c,u⟩|⟨c,u⟩|⟨c,u⟩|⟨c,u⟩|⟨c,u⟩|⟨c,u⟩|⟨c,u⟩|⟨c,u⟩|⟨c,u⟩|⟨c,u⟩;all_goals
  first|have b:=ef (a:=J) (n:=0)|have b:=et (a:=J) (n:=0) wq
  first|have g:=ef (a:=J) (n:=80)|have g:=et (a:=J) (n:=80) wq
  first|have j:=ef (a:=J) (n:=84)|have j:=et (a:=J) (n:=84) wq
  first|have T:=ef (a:=J) (n:=85)|have T:=et (a:=J) (n:=85) wq
  first|have N:=ef (a:=J) (n:=92)|have N:=et (a:=J) (n:=92) wq
  first|have S:=ef (a:=J) (n:=93)|have S:=et (a:=J) (n:=93) wq
  first|have t:=ef (a:=J) (n:=94)|have t:=et (a:=J) (n:=94) wq
  first|have X:=ef (a:=J) (n:=241)|have X:=et (a:=J) (n:=241) wq
  first|have U:=ef (a:=J) (n:=244)|have U:=et (a:=J) (n:=244) wq
  first|have L:=ef (a:=J) (n:=250)|have L:=et (a:=J) (n:=250) wq
  first|have d:=ef (a:=J) (n:=243)|have d:=et (a:=J) (n:=243) wq
  first|have Z:=ef (a:=J) (n:=253)|have Z:=et (a:=J) (n:=253) wq
  first|have s:=W8 (show¬(J:Int)<30 by omega)|have s:=OsQ<|show(J:Int)<30 by omega
  first|have b:=W8 (show¬(J:Int)<63 by omega)|have b:=OsQ<|show(J:Int)<63 by omega
  first|have K:=W8 (show¬(J:Int)≥81 by omega)|have K:=OsQ<|show(J:Int)≥81 by omega
  first|have k:=W8 (show¬(J:Int)<=83 by omega)|have k:=OsQ<|show(J:Int)<=83 by omega
  first|have m:=W8 (show¬(J:Int)≥86 by omega)|have m:=OsQ<|show(J:Int)≥86 by omega
  first|have o:=W8 (show¬(J:Int)<=91 by omega)|have o:=OsQ<|show(J:Int)<=91 by omega
  first|have i:=W8 (show¬(J:Int)≥95 by omega)|have i:=OsQ<|show(J:Int)≥95 by omega
  first|have V:=W8 (show¬(J:Int)<=159 by omega)|have V:=OsQ<|show(J:Int)<=159 by omega
  first|have E:=W8 (show¬(J:Int)≥160 by omega)|have E:=OsQ<|show(J:Int)≥160 by omega
  first|have P:=W8 (show¬(J:Int)<=164 by omega)|have P:=OsQ<|show(J:Int)<=164 by omega
  first|obtain⟨b,b⟩:=c|clear c
  go_wp2_with fail
  refine gf u F f λb f=>?_;go_wp2;exact z.aa _ _ ⟨W,W,W,W⟩ f
end
def Pz{S:RS}{a:Act}(C:GoodR S)(Z:J≠0->S.pc<S.ae.size)(V:Hd (∀G,Pot G<|run G))(D:Hd<|pW run S.depth)(A:Frm [pt H,u1,iI (J:Int)] 164 a)(E:Hd<|tr=eE run J S.pc {S with pc:=S.pc+1})(U:Hd<|Sx O H Y x S S l y)(X:QD O H Y tr l x Q a):Code.wp prog (zu [false,false,false,true,false,true,true]<|f71.body.getD .skip) Q a y:=by
 revert X;refine A.op (P:=λa=>Hd (QD _ H Y tr l x Q a)->Code.wp _ _ Q a y) ?_;simp only[po,XN,XG];intros;rename_i X;conv=>arg 2;whnf
 let⟨p,g⟩:=dP S.pc;let⟨f,j,c⟩:=U.aa.q.cell (o:=18)<|λ_ _=>W;rw[<-g.aa]at f Z E;have u:p<=2000:=by rw[g.aa];exact C.pc
 obtain⟨I,L⟩:∃I:RS,Hd (I={S with pc:=p+1}):=⟨_,W⟩
 rw[<-L.aa]at E;have d:Hd (J≠0->GoodR I):=λh=>by rw[L.aa];exact⟨C.ae,C.data,C.aI,C.aa,by have T:=C.ae;grind,C.aS,C.bp,C.pu,C.sl,C.lg⟩
 have z:Hd (Sx _ H Y x I I l _):=⟨by rw[L.aa];exact U.q.set (o:=18) (λ_ _=>W) W W W U.q.ac,U.b.setCell c _,Sm.refl _⟩
 replace D:Hd (pW run I.depth):=by rw[L.aa];omega
 replace C:=cV C;refine wp_seq_k λF hgo=>?_;replace hgo:=cV hgo;go_wp2;refine hgo.aa _ _ ?_;refine wp_seq_k λK hgo=>?_;replace hgo:=cV hgo;go_wp2;refine hgo.aa _ _ ?_;exact disp d.aa u V D ⟨_,W,W⟩ E z λb m k h=>X.aa b m k h
def round1{S:RS}{a:Act}(i:S.ao=0)(U:GoodR S)(X:Hd (∀G,Pot G<|run G))(I:Hd<|pW run S.depth)(A:Frm [pt H] 166 a)(L:Hd<|tr=eE run (FL S) S.pc {S with pc:=S.pc+1})(C:Hd<|Sx O H Y x S S l y)(d:QD O H Y tr l x Q a):Code.wp prog (zu [false,false,false]<|f71.body.getD .skip) Q a y:=by
 revert d;refine A.op (P:=λa=>Hd (QD _ H Y tr l x Q a)->Code.wp _ _ Q a y) ?_;simp only[po,XN,XG];intros;rename_i d;conv=>arg 2;whnf
 have t:=C.aa.c 19 λ_ _=>W;have u:((S.ao:Int)==0)=true:=K9
 let⟨J,u⟩:=dP<|FL S;rw[<-u.aa]at L;have D:=C.aa.c 18 λ_ _=>W;have c1:=C.aa.c 1 λ_ _=>W;let⟨ae,g⟩:=dP S.ae;let⟨p,m⟩:=dP S.pc;have N:=U.ae;have F:=U.pc;rw[<-g.aa]at c1 N;rw[<-m.aa]at D F;have E:J=if p<ae.size then mS ae p else 0:=by
  rw[u.aa,m.aa,g.aa];unfold FL;rw[<-xU];by_cases u:S.pc<S.ae.size
  .grind
  rw[iF u,xU,If,Ym (by rw[ik];omega)];rfl
 have Z:Hd (J≠0->S.pc<S.ae.size):=λh=>by rw[<-m.aa,<-g.aa];grind
 replace U:=cV U;refine wp_seq_k λr K=>?_;replace K:=cV K;go_wp2;refine K.aa _ _ ?_;refine wp_block ?_;refine wp_seq_k λr o=>?_;replace o:=cV o;go_wp2;refine o.aa _ _ ?_;refine wp_seq_k λr j=>?_;replace j:=cV j;refine wp_seq_k λr f=>?_;replace f:=cV f;have V:Hd (Sx _ H Y x S S l _):=⟨C.q.below (dO _ _).drew,C.b.drew,C.s⟩
 by_cases u:p<ae.size
 .rw[At u]at E;have n:=rW _ p u;replace E:=cV E
  go_big_region
  refine f.aa _ _ ?_;refine wp_cond_true W ?_;have D:=V.aa.c 18 λ_ _=>W;have c1:=V.aa.c 1 λ_ _=>W;rw[<-g.aa]at c1;rw[<-m.aa]at D;replace C:Hd (Sx _ H Y x S S l _):=⟨V.q.below (dO _ _).drew,V.b.drew,V.s⟩
  let⟨z,r⟩:=hJ y.drew;rw[<-r]at D c1 C⊢;clear r
  go_big_region
  refine j.aa _ _ ?_;rw[(by rw[E.aa];grind[wrap64,rU]:wrap64 _=J)];exact Pz U.aa Z.aa X I ⟨_,W,W⟩ L C λb T k h=>d.aa b T k h
 rw[iF u]at E;replace E:=cV E
 go_big_region
 refine f.aa _ _ ?_;refine wp_cond_false W ?_;have C:=V;go_wp2;refine j.aa _ _ ?_;cases(E.aa:J=0);exact Pz U.aa Z.aa X I ⟨_,W,W⟩ L C λb T k h=>d.aa b T k h
def KA.op{a b:Act}{P:Act->Prop}(k:KA a b)(h:po 154 λl=>P ⟨(a.tmps.toList.take 2++(l++a.tmps.toList.drop 156)).toArray,[]⟩):P b:=by let⟨⟨L⟩,d⟩:=b;let⟨C,D,G,k4⟩:=k;have C:L.length=167:=C;cases(D:d=[]);have E:=yI _ h ((L.drop 2).take 154) K9;grind[k4,List.drop_drop,List.take_append_drop]
structure Rr(O H Y d:Nat)(x:WD)(R:RS)(l:hZ)(gk:Nat)(S:RS)(y:WD):Prop where
 e:lH (iR d) gk S=lH (iR d) (R.ac+1) R
 g:S.ao=0->S.ac<gk
 q:DQ O H Y S l y
 b:Below O x y
 ok:S.ao=0->GoodR S
 aS:S.depth=R.depth
def run_S(U:Hd (∀(b gb m:Nat)(G:RS)(L:hZ)(z:WD),DQ b gb m G L z->GoodR G->G.depth=R.depth+1->cP 71 #[pt gb] z (Dp b gb m (iR d G) (.tuple #[]) L z)))(h:DQ O H Y R l x)(j:GoodR R):cP 71 #[pt H] x (Dp O H Y (iR (d+1) R) (.tuple #[]) l x):=by
 have I:Hd (Rr _ H Y d x R l _ R x):=⟨W,λ_=>YS _,h,dO _ _,λ_=>j,W⟩
 let⟨c,E⟩:=dP<|EH<|lH (iR d) (R.ac+1) R;rw[show iR (d+1) R=c from E.aa.symm];clear h j;go_enter func71,ntmps71;go_wp2
 go_loopg [2,3] (R.ac+1) (λgk c t3 wr=>∃S,Hd<|Rr O H Y d x R l gk S wr)
 case atStart=>grind
 clear I;let⟨S,I⟩:=hrel;have n:=(I.q.cell (o:=19)<|λ_ _=>W).1;by_cases P:S.ao=0;case neg=>
  have c:((S.ao:Int)==0)=false:=Xb.2 wq;have c:lH (iR d) (R.ac+1) R=S:=by
   rw[<-I.aa.e];cases gk with
   |zero=>rfl
   |succ k=>exact iF P
  rw[c]at E;unfold EH at E;by_cases Z:S.ao=3
  .have F:((S.ao:Int)==3)=true:=by rw[Z];rfl
   replace E:=cV<|E.trans<|At Z;let⟨c,i,u⟩:=I.aa.q.cell (o:=16)<|λ_ _=>W;have X:=I.aa.q.set (o:=16) (v:=.int _ 0) (R':={S with ac:=0}) (λ_ _=>W) W W W<|In _;let⟨t,c,_⟩:=X.cell (o:=23)<|λ_ _=>W;have f:=X.set (o:=23) (v:=.string ⟨_⟩) (R':={S with ac:=0,aa:=⟨#[]⟩}) (λ_ _=>W) W W W<|In _;rw[<-E.aa]at f;have J:=cV<|aIn f<|(I.b.setCell (p:=⟨H,16,none⟩) u<|iI 0).setCell (p:=⟨H,23,none⟩) u<|.string ⟨#[]⟩;clear X f I;go_wp2;refine bI W W ⟨W,J.1,J.2⟩
  have F:((S.ao:Int)==3)=false:=Xb.2 wq;replace E:=cV<|E.trans<|iF Z;have J:=cV<|aIn I.q I.b;rw[<-E.aa]at J;clear I;go_wp2;refine bI W W ⟨W,J.1,J.2⟩
 cases gk with
 |zero=>have:=I.aa.g P;omega
 |succ gk=>
 have C:=I.aa.ok P;let⟨T,V⟩:=dP<|eE (iR d) (FL S) S.pc {S with pc:=S.pc+1};have J:Hd (Sx _ H Y x S S l wr):=⟨I.q,I.b,Sm.refl _⟩
 have K:Hd (∀y,Hd (DQ _ H Y T l y/\Below O x y)->Rr _ H Y d x R l gk T y):=λy A=>by
  have c:=stp_at (sU d) S C.pc C.ae;rw[<-V.aa]at c;have u:lH (iR d) (gk+1) S=lH (iR d) gk T:=by rw[V.aa];exact At P
  have D:=c.1;refine⟨u.symm.trans I.e,λe=>by have u:=(c.2 e).1;have u:=I.aa.g P;omega,A.aa.1,A.aa.2,λe=>⟨?_,?_,D.aI C.aI,D.aa C.aa,(c.2 e).2,?_,D.bp C.bp,?_,?_,?_⟩,D.depth.trans I.aS⟩
  .rw[D.ae];exact C.ae
  .rw[D.data];exact C.data
  .rw[D.depth];exact C.aS
  .exact By D.pu C.pu
  .exact By D.sl C.sl
  exact By D.lg C.lg
 have Q:Hd (pW (iR d) S.depth):=by rw[I.aa.aS];exact λ_=>U
 refine round1 P C (cV<|sU d) Q ⟨_,W,W⟩ V J λb N k h=>?_;apply k.op;simp only[po,List.take_succ_cons,Y3,List.drop_succ_cons,List.drop_zero,XN,XG];intros;have s:=cV<|K N h;clear K V J Q C h;go_wp2
 go_roundg gk
 exact⟨T,s⟩;omega
theorem Wq:∀(d:Nat){O H Y:Nat}{R:RS}{l:hZ}{x:WD},DQ O H Y R l x->GoodR R->R.depth+d=17->cP 71 #[pt H] x (Dp O H Y (iR d R) (.tuple #[]) l x)
 |0,_,_,_,R,_,_,_,hg,hd=>by have:=hg.aS;omega
 |d+1,O,H,Y,R,l,x,h,hg,hd=>run_S (cV λb J E G L z D C I=>Wq d D C wq) h hg
variable {B:Nat}
def OkR(G:RS):=GoodR G/\1<=(iR 16 G).ao/\(iR 16 G).ao<=3
def zl(Q:RW)(k fr Z B:Nat)(data:BA)(g:Nat):RS:=⟨(mB Q k).ae,data,⟨#[]⟩,Z,fr,B,g,1,0,0,false,[],[],⟨#[]⟩,Q⟩
def LE(pu:List Pur)(sl:List Slt)(R:RS):SnD:=if R.ao=1 then⟨0,R.ac,R.aa,R.w.lg,0,R.w.pu,R.w.sl.filter λs=> !s.br⟩else⟨R.ao-1,R.ac,R.aa,[],0,pu,sl⟩
def tj(pu:List Pur)(sl:List Slt)(fr Z B:Nat)(data:BA)(g:Int):SnD:=
 if data.size<=500/\0<=g/\g<=100000 then
  if (fP fr Z B ⟨pu,sl,[]⟩).1=true then LE pu sl<|iR 16<|zl (ag Z (fP fr Z B ⟨pu,sl,[]⟩).2).2 (ag Z (fP fr Z B ⟨pu,sl,[]⟩).2).1 fr Z B data g.toNat
  else⟨0,0,⟨#[]⟩,[],5,pu,sl⟩
 else⟨0,0,⟨#[]⟩,[],1,pu,sl⟩
def kZ(fr Z B:Nat)(data:BA)(g:Int):Tn:=wl fr++(wl Z++(wl B++[.string data,.int .i64 g]))
abbrev sx1(x:WD)(fr Z B:Nat)(data:BA)(g:Int):WD:=(x.alloc<|.cells (kZ fr Z B data g).toArray 43).alloc zd
def EF(fr Z:Nat)(g:Int)(h:Sep O (iK hb pu sl pv lv::rs) x)(hg:data.size<=500/\0<=g/\g<=100000->(fP fr Z B ⟨pu,sl,[]⟩).1=true->OkR (zl (ag Z (fP fr Z B ⟨pu,sl,[]⟩).2).2 (ag Z (fP fr Z B ⟨pu,sl,[]⟩).2).1 fr Z B data g.toNat))(d8:pu.length<=800000000)(d5:sl.length<=800000000):cP 41 #[pt hb,nz fr Z B data g] x (EK O hb rs (tj pu sl fr Z B data g) x):=by
 let⟨S,c⟩:=dP<|tj pu sl fr Z B data g;rw[<-c.aa];by_cases j:data.size<=500/\0<=g/\g<=100000;case neg=>
  have HE:Hd (∀y,bW x y->EK O hb rs S x (.returned<|.tuple #[iy 0 0 ⟨#[]⟩ dL,iI 1]) y):=λy hy=>by rw[c.aa];unfold tj;rw[iF j];exact⟨pv,lv,dL,[],W,h.below hy,hy.mono h.s,W,Xy _ _ _ _,λi l t q=>by cases q⟩
  clear h c hg;have u:decide ((500:Int)<(data.size:Int))=true\/(decide ((500:Int)<(data.size:Int))=false/\decide (g<0)=true)\/(decide ((500:Int)<(data.size:Int))=false/\decide (g<0)=false/\decide (100000<g)=true):=by
   by_cases r:data.size<=500
   .by_cases h2:0<=g
    .exact A4 (A4 ⟨W8 wq,W8 wq,OsQ wq⟩)
    exact A4<|LZ ⟨W8 wq,OsQ wq⟩
   exact LZ<|OsQ wq
  clear j d8 d5;unfold nz;have HR:Hd (ResAt (sx1 x fr Z B data g) (x.heap.size+1) 0 0 ⟨#[]⟩ dL):=by show ResAt _ _ _ _ _ _;unfold ResAt;simp[go_sem]
  rcases u with u|⟨u,d2⟩|⟨u,d2,d3⟩;all_goals
   go_enter func41,ntmps41;go_wp2;let⟨⟨q0,q1,q2,r⟩,_⟩:=HR.aa;change bodyPost _ _ _ _ _ (sx1 x fr Z B data g);have HB:bW x (sx1 x fr Z B data g):=ai (ai (dO _ x) _) _;generalize sx1 x fr Z B data g=y at*;exact sp (v:=.tuple #[iy 0 0 ⟨#[]⟩ dL,iI 1]) (by simp[results,results41,go_sem,iy,dL,q0,q1,q2,r]) W<|HE.aa y HB
 obtain⟨m,rfl⟩:∃m:Nat,g=(m:Int):=⟨g.toNat,wq⟩
 have u:=dF<|(500:Int)<(data.size:Int);have d2:=dF<|(m:Int)<0;have d3:=dF<|(100000:Int)<(m:Int);have u:m<=100000:=wq
 obtain⟨P,HP⟩:∃P:RW,Hd (P=⟨pu,sl,[]⟩):=⟨_,W⟩
 have D:Hd (S=if (fP fr Z B P).1=true then LE pu sl (iR 16<|zl (ag Z (fP fr Z B P).2).2 (ag Z (fP fr Z B P).2).1 fr Z B data m)else⟨0,0,⟨#[]⟩,[],5,pu,sl⟩):=by show S=_;rw[c.aa,HP.aa];unfold tj;rw[At j];rfl
 have L:Hd ((fP fr Z B P).1=true->OkR (zl (ag Z (fP fr Z B P).2).2 (ag Z (fP fr Z B P).2).1 fr Z B data m)):=by rw[HP.aa];exact hg j
 clear c hg j
 -- the world is copied
 let⟨y1,c⟩:=hJ<|sx1 x fr Z B data m;have aA:bW x y1:=by rw[c];exact ai (ai (dO _ x) _) _
 have i0:Hd (DP 0 P ⟨pv,lv,dL,[]⟩ y1):=by have hI:=(h.below aA).hd;rw[HP.aa];exact⟨hI.pu,hI.sl,Xy _ _ _ _,W,λi l t q=>by cases q⟩
 have i3:=cV (yN i0.aa (by rw[HP.aa];exact By d8 wq) (by rw[HP.aa];exact By d5 wq) (by rw[HP.aa];exact In _));have e8:=(h.below aA).hd.row;obtain⟨r0,r1,r2⟩:cL y1 hb 0 pv/\cL y1 hb 1 lv/\cL y1 hb 2 dL:=⟨e8.cell W,e8.cell W,e8.cell W⟩
 have HR:Hd (ResAt y1 (x.heap.size+1) 0 0 ⟨#[]⟩ dL):=by show ResAt _ _ _ _ _ _;rw[c];unfold ResAt;simp[go_sem]
 have HRW:Hd (rowL y1 (x.heap.size+1) 38 [iB 0,iI 0,.string ⟨#[]⟩,dL]/\x.heap.size<=x.heap.size+1):=by refine⟨?_,ZN _⟩;rw[c];have h9:=rowL.al (x.alloc<|.cells (kZ fr Z B data m).toArray 43) [iB 0,iI 0,.string ⟨#[]⟩,dL] 38;rw[show(x.alloc<|.cells (kZ fr Z B data m).toArray 43).heap.size=x.heap.size+1 by simp]at h9;exact h9
 have b8:Hd (rowL y1 x.heap.size 43<|kZ fr Z B data m):=by rw[c];exact(rowL.al x (kZ fr Z B data m) _).below<|ai (dO _ _) _
 unfold nz;go_enter func41,ntmps41;go_upto_region 3 with fail
 change Code.wp _ _ _ _ (sx1 x fr Z B data m);rw[<-c];have a8:=cV h;have b0:=cV aA;have j0:=cV d8;have hsl2:=cV d5;clear c e8 h d8 d5 aA;have i8:Hd (∀(A:DV)(F:WD),PW y1.heap.size P A F->bW y1 F->(∃a1 n1 c1 a2 n2 c2 a3 n3 c3,A.pv=.slice a1 n1 c1/\A.lv=.slice a2 n2 c2/\A.gv=.slice a3 n3 c3)/\WQ y1.heap.size F.heap.size P [] (F.alloc<|.cells #[A.pv,A.lv,A.gv] 146)):=λA F hp c=>by have i5:bW F (F.alloc<|.cells #[A.pv,A.lv,A.gv] 146):=ai (dO _ F) _;have hw:=hp F.heap.size _ (rowL.al F [A.pv,A.lv,A.gv] _) i5 c.size;let⟨a1,c1,e1⟩:=dt hw.pu;let⟨a2,c2,e2⟩:=dt hw.sl;let⟨a3,c3,e3⟩:=dt hw.lg;exact⟨⟨_,_,_,_,_,_,_,_,_,e1,e2,e3⟩,A,hw,λp hp=>(by cases hp),qac,By c.size i5.size⟩
 go_upto_region 4 with(first|(go_at_call 68;refine i3.aa.mono ?_;rintro e F⟨⟨v1,v2,v3,tv⟩,rfl, -,i6,c⟩;obtain⟨⟨a1,n1,c1,a2,n2,c2,a3,n3,c3,rfl,rfl,rfl⟩,HW⟩:=i8.aa _ _ i6 c)|fail);let⟨y3,e7⟩:=hJ<|F.alloc<|.cells #[.slice a1 n1 c1,.slice a2 n2 c2,.slice a3 n3 c3] 146;have f9:Hd (bW y1 y3):=by rw[e7];exact ai c _
 have g0:Hd (WQ y1.heap.size F.heap.size P [] y3):=by rw[e7];exact HW
 rw[<-e7];let⟨Y,i1⟩:=hJ F.heap.size;rw[<-i1]at g0⊢;clear e7 i1 i6 c HW i8 i3 i0 r0 r1 r2;have i4:Hd (P.pu.length<=900000000):=by rw[HP.aa];exact By j0.aa wq
 have g1:=cV<|ML fr Z B g0.aa i4.aa;let⟨ok,HOK⟩:=dP<|(fP fr Z B P).1;let⟨c,g7⟩:=dP<|(fP fr Z B P).2;rw[<-HOK.aa,<-g7.aa]at g1 D L;have I:=b8.aa.below f9.aa;have g9:=I.cs;simp only[oI,kZ,wl,XN,XG,Nat.reduceAdd]at g9;go_upto_region 5 with(first|(go_at_call 69;refine g1.aa.mono ?_;rintro e y4⟨rfl,a9,j7⟩)|fail);clear g9 I g1 g0;have b1:=cV<|f9.aa.trans j7;replace a9:=cV a9;have h0:=cV<|HR.aa.below b1.aa;have i2:=HR;clear f9 j7 HR;cases j:ok with
 |false=>
  subst j;let⟨⟨q0,q1,q2,r⟩,f0,f1,f2,f3⟩:=h0.aa;unfold dL at r;have HE:Hd (∀y,bW x y->EK O hb rs S x (.returned<|.tuple #[iy 0 0 ⟨#[]⟩ dL,iI 5]) y):=λy hy=>by rw[D.aa,iF K3];exact⟨pv,lv,dL,[],W,a8.aa.below hy,hy.mono a8.aa.s,W,Xy _ _ _ _,λi l t q=>by cases q⟩
  have g4:Hd (bW x<|gB y4 (x.heap.size+1) 0 0 ⟨#[]⟩ dL):=kr (kr (kr (kr (b0.aa.trans<|b1.aa.mono b0.aa.size) K2) K2) K2) K2;clear a9 D L;go_wp2;let⟨⟨q0,q1,q2,r⟩,_⟩:=h0.aa.put (st:=0) (gs:=0) (aa:=⟨#[]⟩) (lv:=dL);change bodyPost _ _ _ _ _ (gB y4 (x.heap.size+1) 0 0 ⟨#[]⟩ dL);generalize gB y4 (x.heap.size+1) 0 0 ⟨#[]⟩ dL=y at*;exact sp (v:=.tuple #[iy 0 0 ⟨#[]⟩ dL,iI 5]) (by simp[results,results41,go_sem,iy,dL,q0,q1,q2,r]) W<|HE.aa y g4.aa
 |true=>
  subst j;replace L:=cV<|L.aa W;replace D:Hd (S=LE pu sl (iR 16<|zl (ag Z c).2 (ag Z c).1 fr Z B data m)):=D.aa.trans<|At W;have e9:c.pu.length<=1000000000:=by rw[g7.aa];have:=(wW fr Z B P).2.1;have:=i4.aa;omega
  have f5:=cV<|qE Z a9.aa e9;let⟨Q,HQ⟩:=dP<|(ag Z c).2;let⟨k,HK⟩:=dP<|(ag Z c).1;have g5:k<Q.pu.length:=by rw[HQ.aa,HK.aa];exact(iG Z c).1
  rw[<-HQ.aa,<-HK.aa]at f5 D L;clear HQ HK g7 e9;have I:=b8.aa.below b1.aa;have m4:=I.cell (i:=4) W;have m5:=I.cell (i:=5) W;have m6:=I.cell (i:=6) W;have m7:=I.cell (i:=7) W;go_upto_region 8 with(first|(go_at_call 70;refine f5.aa.mono ?_;rintro e c⟨rfl,j1,j2⟩)|fail);clear m4 m5 m6 m7 I f5 a9;have g6:=cV<|b1.aa.trans j2;clear j2 b1;have I:=b8.aa.below g6.aa;have h7:=I.cs;simp only[oI,kZ,wl,XN,XG,Nat.reduceAdd]at h7;obtain⟨G,HG⟩:∃G:RS,Hd (G=zl Q k fr Z B data m):=⟨_,W⟩
  let⟨cd,f8⟩:=dP<|(mB Q k).ae;have i9:Hd (DQ y1.heap.size c.heap.size Y G []<|c.alloc<|.cells #[pt Y,.string cd,.string data,.string ⟨#[]⟩,lu Z 0,lu Z 1,lu Z 2,lu Z 3,lu fr 0,lu fr 1,lu fr 2,lu fr 3,lu B 0,lu B 1,lu B 2,lu B 3,iI (m:Int),iI 1,iI 0,iI 0,.bool false,dL,dL,.string ⟨#[]⟩] 159):=by rw[f8.aa,HG.aa];exact j1.frame (zl Q k fr Z B data m) W W W<|By u K3
  obtain⟨V,hdw, -, -, -⟩:=j1;let⟨ap,cp,e1⟩:=dt hdw.pu;have w0:=rowL.cell (i:=0) hdw.row W;have d7:=hdw.pu;rw[e1]at w0 d7;let⟨NP,d6⟩:=dP Q.pu.length;rw[<-d6.aa]at w0 g5;obtain⟨gp,rfl,hcc⟩:∃gp,ap=some ⟨gp,0,none⟩/\cL c gp (k*9+8) (.string cd):=by
   rcases d7.2 with⟨e2,e3⟩|⟨g',E,cur,e2,_⟩
   .have:=d6.aa;omega
   injection e2 with e2 _ e4;subst e2 e4;have h5:k<Q.pu.length:=by rw[<-d6.aa];exact g5
   refine⟨g',W,Gi (f:=qX) (λa=>W) d7 h5 wq ?_⟩;rw[f8.aa,sd h5];rfl
  have hk9:(0:Int)<=(k:Int):=wq
  have hk8:(k:Int)<(NP:Int):=wq
  clear hdw d7 e1 I b8
  go_region_held3 (λJ=>cL J Y 0 (sL gp NP cp)/\cL J gp (k*9+8) (.string cd)/\cL J x.heap.size 0 (lu fr 0)/\cL J x.heap.size 1 (lu fr 1)/\cL J x.heap.size 2 (lu fr 2)/\cL J x.heap.size 3 (lu fr 3)/\cL J x.heap.size 4 (lu Z 0)/\cL J x.heap.size 5 (lu Z 1)/\cL J x.heap.size 6 (lu Z 2)/\cL J x.heap.size 7 (lu Z 3)/\cL J x.heap.size 8 (lu B 0)/\cL J x.heap.size 9 (lu B 1)/\cL J x.heap.size 10 (lu B 2)/\cL J x.heap.size 11 (lu B 3)/\cL J x.heap.size 12 (.string data)/\cL J x.heap.size 13 (iI (m:Int))) (go_keep) (fail)
  clear h7 w0 hcc hk9 hk8 g5 d6 f8;go_upto_region 9 with fail
  let⟨y6,c0⟩:=hJ<|(c.alloc<|.cells #[pt Y,.string cd,.string data,.string ⟨#[]⟩,lu Z 0,lu Z 1,lu Z 2,lu Z 3,lu fr 0,lu fr 1,lu fr 2,lu fr 3,lu B 0,lu B 1,lu B 2,lu B 3,iI (m:Int),iI 1,iI 0,iI 0,.bool false,dL,dL,.string ⟨#[]⟩] 159).drew;have f7:Hd (DQ y1.heap.size c.heap.size Y G [] y6):=by rw[c0];exact i9.aa.below (dO _ _).drew
  have h4:Hd (bW y1 y6):=by rw[c0];exact(ai g6.aa _).drew
  let⟨H,bg⟩:=hJ c.heap.size;change Code.wp _ _ _ _ ((c.alloc<|.cells #[pt Y,.string cd,.string data,.string ⟨#[]⟩,lu Z 0,lu Z 1,lu Z 2,lu Z 3,lu fr 0,lu fr 1,lu fr 2,lu fr 3,lu B 0,lu B 1,lu B 2,lu B 3,iI (m:Int),iI 1,iI 0,iI 0,.bool false,dL,dL,.string ⟨#[]⟩] 159).drew);rw[<-c0,<-bg];rw[<-bg]at f7;rw[<-HG.aa]at D L;have f4:=cV (Wq 16 f7.aa L.aa.1 (by rw[HG.aa];rfl));let⟨R,c⟩:=dP<|iR 16 G;have hv:=L.aa.2;rw[<-c.aa]at f4 D hv;have j3:Hd (R.w.sl.length<=1000000000):=by have h9:=(sU 16 G).sl;rw[<-c.aa]at h9;have h8:=L.aa.1.sl;show R.w.sl.length<=_;omega
  clear c0 bg i9 g6 f7 HG c;go_upto_region 10 with(first|(go_at_call 71;refine f4.aa.mono ?_;rintro e y7⟨rfl,c,j6⟩)|fail);have g3:=cV<|h4.aa.trans j6;replace c:=cV c;clear j6 h4 f4;have h3:=(c.aa.cell (o:=16) λ_ _=>W).1;have j5:=(c.aa.cell (o:=23) λ_ _=>W).1;let⟨gs,e0⟩:=dP R.ac;let⟨K,d4⟩:=dP R.aa;rw[<-e0.aa]at h3;rw[<-d4.aa]at j5
  go_region_held3 (λJ=>cL J H 16 (iI (gs:Int))/\cL J H 23 (.string K)) (go_keep) (fail)
  go_upto_region 11 with fail
  let⟨d,b7⟩:=hJ<|(y7.alloc<|.cells #[iB 0,iI (gs:Int),.string K,.slice none 0 0] 38).drew;let⟨U,c8⟩:=hJ y7.heap.size;have f6:Hd (DQ y1.heap.size H Y R [] d):=by rw[b7];exact c.aa.below (ai (dO _ _) _).drew
  have d9:Hd (bW y1 d):=by rw[b7];exact(ai g3.aa _).drew
  have z:Hd (rowL d U 38 [iB 0,iI (gs:Int),.string K,.slice none 0 0]):=by rw[b7,c8];exact(rowL.al y7 [iB 0,iI (gs:Int),.string K,.slice none 0 0] _).below (dO _ _).drew
  have c9:Hd (y1.heap.size<=U):=by rw[c8];exact g3.aa.size
  rw[<-b7,<-c8];clear b7 c8 c g3 h3 j5;have j9:Hd (ResAt d (x.heap.size+1) 0 0 ⟨#[]⟩ dL):=i2.aa.below d9.aa;have c19:=(f6.aa.cell (o:=19) λ_ _=>W).1;have c:=z.aa.cell (i:=0) W;have c:=z.aa.cell (i:=1) W;have c:=z.aa.cell (i:=2) W;have t3:=z.aa.cell (i:=3) W;have c:=World.rowIs.frozen z.aa;by_cases c:R.ao=1;case neg=>
   have HE:Hd (∀y,bW x y->EK O hb rs S x (.returned<|.tuple #[iy (R.ao-1) gs K dL,iI 0]) y):=λy hy=>by rw[D.aa];unfold LE;rw[iF c,e0.aa,d4.aa];exact⟨pv,lv,dL,[],W,a8.aa.below hy,hy.mono a8.aa.s,W,Xy _ _ _ _,λi l t q=>by cases q⟩
   have i7:=b0.aa.size;obtain⟨st,j8,hst⟩:∃st,Hd (st+1=R.ao)/\(st=1\/st=2):=⟨R.ao-1,by show _-1+1=_;omega,wq⟩
   have g4:Hd (bW x<|gB (d.setCell ⟨U,0,none⟩<|iB (st:Int)) (x.heap.size+1) st gs K dL):=kr (kr (kr (kr (kr (b0.aa.trans<|d9.aa.mono i7)<|By i7 c9.aa) K2) K2) K2) K2;have b9:U≠x.heap.size+1:=by have h9:=c9.aa;have h8:=mZ (x:=y1) i2.aa.1.1;omega
   have HRX:Hd (ResAt (gB (d.setCell ⟨U,0,none⟩<|iB (st:Int)) (x.heap.size+1) st gs K dL) (x.heap.size+1) st gs K dL):=(j9.aa.kb ((Kb.refl [U] d).setCell (p:=⟨U,0,none⟩) (LZ Xz) _)<|by simpa using b9.symm).put;let⟨⟨q0,q1,q2,r⟩,f0,f1,f2,f3⟩:=j9.aa;unfold dL at r;rw[<-j8.aa]at c19 HE;have d0:(((st+1:Nat):Int)==1)=false:=Xb.2 wq;clear D f6 e0 d4 c hv j8;rcases hst with rfl|rfl;all_goals
    go_wp2;let⟨⟨q0,q1,q2,r⟩,_⟩:=HRX.aa;first
     |(change bodyPost _ _ _ _ _ (gB (d.setCell ⟨U,0,none⟩<|iB ((1:Nat):Int)) (x.heap.size+1) 1 gs K dL);generalize gB (d.setCell ⟨U,0,none⟩<|iB ((1:Nat):Int)) (x.heap.size+1) 1 gs K dL=y at*)
     |(change bodyPost _ _ _ _ _ (gB (d.setCell ⟨U,0,none⟩<|iB ((2:Nat):Int)) (x.heap.size+1) 2 gs K dL);generalize gB (d.setCell ⟨U,0,none⟩<|iB ((2:Nat):Int)) (x.heap.size+1) 2 gs K dL=y at*)
    refine sp (v:=.tuple #[iy _ gs K dL,iI 0]) (by simp[results,results41,go_sem,iy,dL,q0,q1,q2,r]) W<|HE.aa y g4.aa
  have d0:((R.ao:Int)==1)=true:=by rw[c];rfl
  obtain⟨X,C,V,r, -, -⟩:=f6.aa;have hdw:=r.wa;let⟨a4,p4,e4⟩:=dt hdw.lg;obtain⟨a5,r,r⟩:=dt hdw.sl;obtain⟨r,r,r⟩:=dt hdw.pu;have w2:=rowL.cell (i:=2) hdw.row W;have wf:=World.rowIs.frozen hdw.row;rw[e4]at w2;let⟨n4,r⟩:=dP R.w.lg.length;rw[<-r.aa]at w2;have j4:Y≠U:=λe=>absurd ((Ty.aB hdw.row).aF<|e▸Ty.aB z.aa) K3;go_upto_region 15 with fail
  go_cut[] (λwx=>wx=(d.setCell ⟨U,3,none⟩<|.slice a4 n4 p4).setCell ⟨Y,2,none⟩ (.slice none 0 0));case first=>go_wp2;go_meet;case rel=>rfl
  rename_i hgo;refine hgo _ _ ?_;have e4':V.gv=.slice a4 n4 p4:=by rw[e4,r.aa]
  have r:Kb [U,Y] d wc:=by rw[hcut];exact((Kb.refl [U,Y] d).setCell (p:=⟨U,3,none⟩) AI _).setCell (p:=⟨Y,2,none⟩) AI _
  have hty:∀k∈[U,Y],∀T,Ty d k T->T=38\/T=146:=λk u T hT=>by
   simp only[IF,Xk,XI]at u;rcases u with rfl|rfl
   .exact LZ (hT.aF<|Ty.aB z.aa)
   exact A4<|hT.aF<|Ty.aB hdw.row
  have N:∀{b e s n:Nat}{v:VL}{xs:Tn},e≠38/\e≠146->d.ownsRow b e s v n xs->wc.ownsRow b e s v n xs:=λb9 c=>r.aD c λk hb u=>(hty k u _<|Ty.az c hb).elim b9.1 b9.2;have HI:Hd (SdI y1.heap.size Y U gs K V R.w dL [] y1 wc):=by
   refine⟨?_,?_,N K3 hdw.pu,N K3 hdw.sl,⟨hdw.tl,fO (N K3 hdw.lg)<|In _,λi l t q ht=>N K3<|hdw.tp i l t q ht⟩,Xy _ _ _ _,λk r=>(by cases r),d9.aa.trans<|r.bel (λk u=>?_) d9.aa.size,hdw.hb,c9.aa,DO _⟩
   .rw[hcut];have h9:rowL (d.setCell ⟨U,3,none⟩<|.slice a4 n4 p4) Y 146 [V.pv,V.lv,V.gv]:=hdw.row.bH j4 _;exact(rowL.set (o:=2) h9 dL:)
   .rw[hcut,e4'];exact(rowL.bH (rowL.set (o:=3) z.aa<|.slice a4 n4 p4) j4.symm _:)
   simp only[IF,Xk,XI]at u;rcases u with rfl|rfl
   .exact c9.aa
   exact hdw.hb
  have q:Hd (S=⟨0,gs,K,R.w.lg,0,R.w.pu,R.w.sl.filter λs=> !s.br⟩):=by show S=_;rw[D.aa];unfold LE;rw[At c,e0.aa,d4.aa]
  exact KO q HI a8 b0 W HRW (j3.aa) ⟨_,W,W⟩
end
end cin
end Go.Proofs.YtohoajjdoihekaaGreatDoor
