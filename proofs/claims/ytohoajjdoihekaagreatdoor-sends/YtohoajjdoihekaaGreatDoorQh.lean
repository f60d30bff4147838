import Derived.Test.YtohoajjdoihekaaGreatDoorNt
import Derived.Shelf.SlIterI.Collect
import Derived.Shelf.SlIterI.Nil
import Derived.Shelf.SlSortCmp.KitK
import Derived.Shelf.SlGeneric
import Derived.Shelf.SlSortCmp.WholeK
set_option linter.unusedVariables false
set_option linter.unusedSimpArgs false
set_option linter.defProp false
namespace Go.Proofs.YtohoajjdoihekaaGreatDoor
namespace cin
open Go.RowKit Go.Maps Go.Proofs.Tryz Tryz
set_option maxRecDepth 100000
set_option maxHeartbeats 8000000
variable {ab n m gb b b' st gs k t d mb fr Z t1 t2 cp U o i O e size Y H g j sz by' E N a off p D:Nat}{A:Nat->Acc}{sb f:Vp}{T':TS}{y x' x w' wr:WD}{aa:BA}{ad:Gj}{C v X sv' mv' v':VL}{Post:Ending->X4}{s:Act}{pos:String}{af:U9}{gd:U6}{K:K6}{Q:Y6}{xs ys:Tn}{S ts:Tl}{args:Ys}{I:Vm}{es:Es}{Jq9:X4}{kl:Lit}
section
variable {w:WD}{lv:VL}{B ac:Nat}{data:BA}
section
open Go.RowKit Go.Maps Go.MuLone
def SentR.below{y':WD}(h:SentR ab n m gb b A sb T' w y)(O:bW y y'):SentR ab n m gb b A sb T' w y':=by let⟨E,S2,I,G,L,H,J,D⟩:=h;exact⟨E,S2,I.kb (Kb.h (S:=[]) O) K2,G,L.below O,H,J.below O,D⟩
def DelS(L:List LogE)(R:X4)(b:Nat)(w:WD)(lv:VL)(x:WD):=R x/\ResAt x b 0 0 ⟨#[]⟩ dL/\∃O tv,w.heap.size<=O/\Lo x O lv tv L
def DelS.below{L:List LogE}{x3:WD}{x:WD}(h:DelS L (SentR ab n m gb b' A sb T' x3) b w lv x)(I:bW x x'):DelS L (SentR ab n m gb b' A sb T' x3) b w lv x':=by let⟨G,D,O,J,H,E⟩:=h;exact⟨G.below I,D.below I,_,J,H,E.kb (Kb.h (S:=[]) I) K2 K2⟩
def RsK(st gs:Nat)(aa:BA)(D:VL->X4):Kp:=λp v x=>∃ad n c,v=iy st gs aa (.slice ad n c)/\(p=2->D (.slice ad n c) x)
def PhY(D:VL->X4)(b st gs:Nat)(aa:BA)(w:WD):Nat->X4
 |0,x=>bW w x
 |1,x=>bW w x
 |2,x=>∃lv,D lv x
 |_,x=>∃lv y,D lv y/\Below (gB y b st gs aa lv).heap.size (gB y b st gs aa lv) x
def JK{D:VL->X4}{x:WD}(h:PhY D b st gs aa w k x)(E:k<=1):bW w x:=by
 match k,E,h with
 |0,_,h=>exact h
 |1,_,h=>exact h
def VN{L:List LogE}{x3:WD}(k:Nat)(x x':WD)(h:PhY (DelS L (SentR ab n m gb b' A sb T' x3) b w) b st gs aa w k x)(D:bW x x'):PhY (DelS L (SentR ab n m gb b' A sb T' x3) b w) b st gs aa w k x':=by
 match k,h with
 |0,h=>exact(h).trans<|D.mono (h).size
 |1,h=>exact(h).trans<|D.mono (h).size
 |2,⟨lv,h⟩=>exact⟨lv,h.below D⟩
 |_+3,⟨lv,y,h1,h2⟩=>exact⟨lv,y,h1,h2.trans<|D.mono h2.size⟩
def O7{c:Vr}(h:tG s t<|pt mb)(E:MsgAt x mb fr Z B data ac)(I:K (Wb s d<|SR fr Z B data ac) x):Oper.wp prog ⟨some d,.load 43<|.tmp t,c,pos,af,gd⟩ s x K Q:=by obtain⟨P,c,c,Y,O,f,R,V,X,L,J,H,D,G⟩:=E.cells;go_simp;exact I
def pN{X:Vr}(P:tG s t1<|pt b)(O:tG s t2<|iy st gs aa<|.slice ad m cp)(V:ResAt x b 0 0 ⟨#[]⟩ dL)(D:K (s.put none undef)<|gB x b st gs aa<|.slice ad m cp):Oper.wp prog ⟨none,.store 38 (.tmp t1)<|.tmp t2,X,pos,af,gd⟩ s x K Q:=by let⟨⟨k0,E,H,I⟩,R,J,G,L⟩:=V;go_simp;exact D
def Gu{J:Vr}(G:tG s t1<|pt U)(E:tG s t2 C)(D:cP 35 #[pt U,C] x Post)(I:∀v x',Post (.returned v) x'->K (Wb s d v) x')(H:∀l x',Post (.panicked l) x'->Q (.panic l) s x')(hn:∀x',¬Post .outgrown x'):Oper.wp prog ⟨some d,.call ⟨.value<|.func 35,#[.tmp t1,.tmp t2],#[96,43]⟩,J,pos,af,gd⟩ s x K Q:=by refine o6 (env:=λ_=>none) (λt c h=>by cases h) D (he:= ?_) I H hn;rw[tY<|λt c h=>by cases h];go_simp
def WA(gb ab n:Nat)(A:Nat->Acc)(sb:Vp)(ck:Bool)(R:Res×TS)(w:WD)(e:Ending)(w':WD):Prop:=
 if ck=true then e=.returned (.tuple #[iy 0 0 ⟨#[]⟩ dL,.int .i64 5])/\HostAt gb ab n A sb w'/\Kb [gb] w w'
 else∃lv O tv n' sb',e=.returned (.tuple #[iy R.1.st R.1.ac R.1.aa lv,.int .i64 0])/\HostAt gb ab n' R.2.aw sb' w'/\n'<=n+3400010/\w.heap.size<=O/\Lo w' O lv tv R.2.ay/\(∃S2,Kb (gb::S2) w w'/\∀k∈S2,fZ ab A sb k)/\∀k,fZ ab R.2.aw sb' k->fZ ab A sb k\/w.heap.size<=k
def NX(fr Z:Nat)(ac:Nat)(w:WD)(h:HostAt gb ab n A sb w)(q:data.size<=500)(c:ac<=100000)(hA:GoodT<|T0 A)(hn:n+3400010<800000000000):
  Calls prog 13 #[pt gb,SR fr Z B data ac] w (WA gb ab n A sb (decide (gP (A fr).ai B<0)) (jZ (T0 A) fr Z B data ac) w):=by
 obtain⟨ck,a8⟩:∃ck,decide (gP (A fr).ai B<0)=ck:=⟨_,W⟩;rw[a8];have H:Hd (∀U pb O x,Tr O U _ (V0 ab pb n sb) x->Calls _ 35 _ x _):=λU pb O x j=>Df fr Z B data x j c hA wq (by show 0+0<=_;omega) hn
 obtain⟨R,hR⟩:=hJ<|jZ (T0 A) fr Z B data ac;rw[<-hR]at H⊢;obtain⟨⟨st,gs,aa⟩,T'⟩:=R;dsimp only at H;clear hR hA;have u:Below _ w (s2 w fr Z B data ac):=ai (ai (dO _ w) _) _;have HM:=cV<|Cm fr Z B q c<|s2 w fr Z B data ac;have c:=cV h;have q:=cV u;clear h u
 go_enter_defers func13,ntmps13
 go_wp2_with fail
 refine HM.aa.mono ?_;rintro e w1⟨rfl,u⟩;have a:=q.aa.trans<|u.mono q.aa.size;have b7:=cY c.aa.row a;have l0:=rc b7 0;have lz:=b7.frozen 0;rw[show yk ab 0=.int _ 0 from W]at l0;have q:=cV<|lock_free Em _ w1 l0 lz;have e7:MsgAt w1 _ fr Z _ _ _:=cY (cY (Hx w fr Z _ _ _)<|ai (dO _ _) _) u
 have a9:ResAt w1 (w.heap.size+1) 0 0 ⟨#[]⟩ dL:=by
  have h0:ResAt (s2 w fr Z B data ac) (w.heap.size+1) 0 0 ⟨#[]⟩ dL:=by unfold ResAt;simp[go_sem]
  exact h0.below u
 have r:=cV<|aIn a<|aIn e7 a9;clear u a b7 l0 lz e7 a9 HM;go_wp2_with fail
 refine q.aa.mono ?_;rintro e q⟨rfl,rfl⟩;have c8:=cY c.aa.row r.aa.1;have q:=c.aa.row.lt;have a:Kb [gb] w1 (w1.setCell ⟨gb,0,none⟩<|.int .i32 1):=(Kb.refl _ w1).setCell AI _;have a5:(w1.setCell _<|.int .i32 1).rowIs gb 91 3 _:=c8.set 0 _;have a3:=c.aa.aw.kb (Kb.h (S:=[]) r.aa.1) K2;have V:=a3.kb a<|λk q hf=>gx c8 (a3.isMap hf) (BY.1 q).symm;have e6:=c.aa.zr.below r.aa.1
 have e0:=e6.kb a (λF=>by
  have e:0=gb:=K9
  have J:=rc c8 0;rw[<-e,e6.1.1]at J;cases J)
 have b9:MsgAt _ _ fr Z _ _ _:=a.row r.aa.2.1 K9;have d7:=r.aa.2.2.kb a K9;go_wp2;generalize w1.setCell ⟨gb,0,none⟩ (.int .i32 1)=c at*;obtain⟨f,hf,d5⟩:=V.map;obtain⟨X,e1,e3,e4,e5⟩:=V.bL fr d5;obtain⟨om,rfl⟩:=e3.is;have c2:=rc a5 2;refine RG (bl:=(A fr).ai) (ae:=(A fr).ae) (o:=om) c a5.lt c2 b9 (λx j=>?_) (dO _ _).drew W W W ?_
 .have:=(hf.kb (Kb.h (S:=[]) j) K2).aQ kT kE fr
  grind
 intro x3 L;have L:Below _ c x3:=L;simp only[n8,sx9];rw[a8];have c:=cY a5 L;have D:=V.kb (Kb.h (S:=[]) L) K2;have a6:=e0.below L;have d1:=cY b9 L;have g:=d7.below L;have c3:=rc c 2;have u:=r.aa.1.size;have d8:=By u (By a.size L.size)
 -- behind the end:the mutex is given aI
 have P:Hd (∀(z:WD)(n':Nat)(u:Nat->Acc)(d3:Vp)(S2:List _),z.rowIs gb 91 3 (λi=>if i=0 then .int .i32 1 else yk ab i)->Accs ab n' u d3 z->Zr z->Kb S2 x3 z->HostAt gb ab n' u d3 (z.setCell ⟨gb,0,none⟩<|.int .i32 0)/\Kb (gb::S2) w (z.setCell ⟨gb,0,none⟩<|.int .i32 0)):=by
  intro z n' u d3 S2 E u e8 e9;have Y:Kb [gb] z (z.setCell ⟨gb,0,none⟩<|.int .i32 0):=(Kb.refl _ z).setCell AI _;refine⟨⟨?_,u.kb Y<|λk q hf=>gx E (u.isMap hf) (BY.1 q).symm,e8.kb Y<|λF=>?_⟩,?_⟩
  .refine(E.set 0 _).congr λi u=>?_
   by_cases e:i=0
   .subst e;rfl
   grind
  .have e:0=gb:=K9
   have u0:=rc E 0;rw[<-e,e8.1.1]at u0;cases u0
  .have b1:Kb (gb::S2) w w1:=Kb.h r.aa.1;have b2:=b1.trans a<|λi u=>LZ K9;have b3:=b2.trans (Kb.h (S:=[]) L) K2;have b4:=b3.trans e9<|λi u=>LZ<|IN _ u;exact b4.trans Y<|λi u=>LZ K9
 clear c2 e1 e3 e4 e5 hf d5 a5 V e0 b9 d7;cases ck with
 |true=>
  have G:Kb [w.heap.size+1] x3 (gB x3 (w.heap.size+1) 0 0 ⟨#[]⟩ dL):=jE (Kb.refl _ x3) AI;have E:=G.row c K9
  have a4:∀k∈[w.heap.size+1],¬fZ ab A sb k:=λk q hf=>by
   cases(K9:k=w.heap.size+1)
   obtain⟨es,cl,q7⟩:=D.isMap hf;have h0:=g.1.1;simp[World.cell?,q7]at h0
  have hbl:=mZ g.1.1;have HE:=cV<|P.aa _ n A sb _ E (D.kb G a4) (a6.kb G K2) G;obtain⟨⟨y0,y1,y2,y3⟩,_⟩:=g.put (st:=0) (gs:=0) (aa:=⟨#[]⟩) (lv:=dL);obtain⟨⟨k0,k1,k2,k3⟩,r,r,r,r⟩:=g;have u0:=rc E 0;have uz:=E.frozen 0;simp only[qad]at u0;have hbg:w.heap.size+1≠gb:=wq
  clear E G a4 D a6 d1 c c3 P H;go_wp2;refine leaves_cons (f:=32) (args:=#[pt gb]) K2 (by simp[go_sem]) ?_;refine(unlock_deferred Em _ _ _ u0 uz).mono ?_;rintro e u' w''⟨rfl,rfl,rfl⟩;have Y:Kb [gb] _ ((gB x3 (w.heap.size+1) 0 0 ⟨#[]⟩ dL).setCell ⟨gb,0,none⟩<|.int .i32 0):=(Kb.refl _ _).setCell AI _;have r:=mZ y0;generalize gB x3 (w.heap.size+1) 0 0 ⟨#[]⟩ dL=z at*;have e:=Y.block _ r K9;have r:=(Xc e).trans y0;have a:=(Xc e).trans y1;have j2:=(Xc e).trans y2;have j3:=(Xc e).trans y3;refine⟨_,by simp[results,results13,go_sem,r,a,j2,j3],W,HE.aa.1,(Kb.refl _ w).trans HE.aa.2<|λi u=>?_⟩
  grind
 |false=>
  go_wp2;have a7:Hd (∀U pb O x,Below x3.heap.size x3 x->Tr O U _ _ x->U=O+1->pb=O->x3.heap.size<=O->Calls _ 35 _ x _):=λU pb O x _ hT _ _ _=>H.aa U pb _ x hT
  have b6:∀b T N (f:Vp),x3.rowIs b T N f->∀k,fZ ab A sb k->b≠k:=λb T N f r k q=>gx r<|D.isMap q
  refine dy _ (λ_ _ _=>True) [(0,(.pointer _)),(3,(.pointer _)),(4,(.pointer _))] [(some 30,.v<|pt gb),(some 31,.v<|pt gb),(some 32,.v _),(some 33,.v _),(some 34,.l<|TrK A ab n sb x3),(some 35,.v _),(some 36,.l<|RsK st gs _ _),(none,.v _),(some 5,.v<|.int .i64 0)] [4,6,7] [3,5] ((dO _ _).drew) (VN)
    ⟨(λI hv a=>by
     have j:Below _ x3 _:=I;refine o6 @hv (BG (D.kb (Kb.h (S:=[]) j) K2)<|a6.below j) (λv x' h=>?_) (λl x' h=>by cases h.1) (λx' h=>by cases h.1);obtain⟨J,h2,h3⟩:=h;cases ZH J;exact a _ x' (j.trans<|h2.mono j.size) AF nn1 ⟨_,_,_,W,λ_=>⟨h3,W,W,j.size⟩⟩),(@λs x hdf hl K I hv a=>by
     have j:Below _ x3 x:=I;obtain⟨U,pb,O,e1,r⟩:=hl 34 _ W;obtain⟨r,e3,e4,e5⟩:=r W;refine Gu e1 (hv W) (a7.aa U pb _ x j r e3 e4 e5) ?_ (λl x' h=>by obtain⟨_,_,J,_⟩:=h;cases J) (λx' h=>by obtain⟨_,_,J,_⟩:=h;cases J);rintro v x'⟨lv,tv,J,h2,h3⟩;cases ZH J;obtain⟨ad,cp,e⟩:=dt h3.2.1;have h6:=Lk (gb:=gb) (b:=w.heap.size+1) j D e3 e4 e5 h2
     have h9:DelS (T'.ay) (SentR ab n 3400010 gb (w.heap.size+1) A sb T' x3) (w.heap.size+1) x3 lv x':=by
      refine⟨h6,?_,_,tv,e5,h3⟩;obtain⟨V',S2,_,_,q1,q2,_⟩:=h6;refine g.kb q1 λF=>?_
      obtain⟨⟨h0,_⟩,_⟩:=g;obtain⟨es,cl,q3⟩:=D.isMap<|q2 _ F;simp[World.cell?,q3]at h0
     exact a _ x' ⟨lv,h9⟩ AF nn1 ⟨ad,_,cp,by rw[e],λ_=>e▸h9⟩),(@λs x hdf hl K I hv a=>by
     obtain⟨ad,m,cp,e1,r⟩:=hl 36 _ W;have r:=r W;exact pN (hv W) e1 r.2.1<|a _ _ ⟨_,x,r,dO _ _⟩ AF (λ_=>W) W),AF⟩
    ⟨(λc0 I hv a=>by
     have j:=JK I (by have:=c0 0 4;omega);exact dm (hv W) ((j.cell c.lt).trans c3)<|kx a),(λc0 I hv a=>by
     have j:=JK I (by have:=c0 1 6;omega);exact O7 (hv W) (cY d1 j)<|kx a),AF⟩
    (λi d T9 a p v x x' d4 hp I hrel hT=>by
     rcases ltq9 ((Do.1 a).1)with rfl|rfl|rfl|rfl|rfl|rfl|rfl|rfl|rfl
     .cases a
     .cases a
     .cases a
     .cases a
     .obtain rfl:=Zk (Xi<|hV a).2;obtain⟨U,pb,O,e,J⟩:=hT;have hp0:p≠0:=λr=>d4 (by rw[r];rfl)
      exact⟨U,pb,O,e,λh2=>absurd h2 wq⟩
     .cases a
     .obtain rfl:=Zk (Xi<|hV a).2;obtain⟨ad,m,cp,e,J⟩:=hT;have hp0:p≠1:=λr=>d4 (by rw[r];rfl)
      exact⟨ad,m,cp,e,λh2=>absurd h2 wq⟩
     .cases a
     .cases a) (λi d T9 a p v x x' I r hT=>by
     have F:=Xe a;simp only[IF,XV,reduceCtorEq,Zb,Za,XI,Xk,En.l.injEq]at F;rcases F with⟨-,rfl⟩|⟨-,rfl⟩
     .obtain⟨U,pb,O,e,J⟩:=hT;exact⟨U,pb,_,e,λh2=>by obtain⟨a,g2⟩:=J h2;exact⟨a.below r,g2⟩⟩
     .obtain⟨ad,m,cp,e,J⟩:=hT;exact⟨ad,m,cp,e,λh2=>(J h2).below r⟩) ?_
  intro r z a r;obtain⟨lv,y,⟨hR,c9,O,tv,b8,r⟩,d0⟩:PhY _ _ st gs _ x3 3 z:=a;obtain⟨V',S2,q1,q2,q3,q4,q5,q6⟩:=hR;obtain⟨ad,cp,a⟩:=dt r.2.1;subst a;have d6:=q3.row c<|λF=>b6 _ _ _ _ c _ (q4 _ F) W;have hbg:w.heap.size+1≠gb:=wq
  have G:Kb [w.heap.size+1] y z:=(jE (Kb.refl _ y) AI).below d0;have E:=G.row d6 N3;have hbl:=mZ g.1.1
  have a4:∀k∈[w.heap.size+1],¬fZ ab _ _ k:=λk q hf=>by
   cases(by simpa using q:k=w.heap.size+1)
   obtain⟨es,cl,q7⟩:=q1.isMap hf;have h0:=c9.1.1;simp[World.cell?,q7]at h0
  have a:Lo z O (.slice ad T'.ay.length cp) tv T'.ay:=by
   refine r.kb G (λk q F=>?_)<|λt ht k q F=>?_
   .have J:=(r.2.1.lt k q).1;simp at F;omega
   .obtain⟨i,u⟩:=XM ht;have hl:i<T'.ay.length:=by rw[<-r.1];exact(Do.1 u).1
    have J:=((r.2.2.1 i _ t (iN hl) u).lt k q).1;simp at F;omega
  have HE:=cV<|P.aa z _ _ _ _ E (q1.kb G a4) (q5.kb G K2)<|(q3.mono<|λi u=>Xw _ u).trans G<|λi u=>LZ<|Xn _ u;obtain⟨⟨y0,y1,y2,y3⟩,_⟩:=(c9.put).below d0;have u0:=rc E 0;have uz:=E.frozen 0;simp only[qad]at u0;have Y:Kb [gb] z (z.setCell ⟨gb,0,none⟩<|.int .i32 0):=(Kb.refl _ z).setCell AI _
  have HZC:Hd ((z.setCell ⟨gb,0,none⟩<|.int .i32 0).cell? ⟨w.heap.size+1,0,none⟩=some (.int .u8 st)/\(z.setCell ⟨gb,0,none⟩<|.int .i32 0).cell? ⟨w.heap.size+1,1,none⟩=some (.int .i64 gs)/\(z.setCell ⟨gb,0,none⟩<|.int .i32 0).cell? ⟨w.heap.size+1,2,none⟩=some (.string aa)/\(z.setCell ⟨gb,0,none⟩<|.int .i32 0).cell? ⟨w.heap.size+1,3,none⟩=some (.slice ad T'.ay.length cp)):=by
   have e:=Y.block _ (mZ y0) N3;exact⟨(Xc e).trans y0,(Xc e).trans y1,(Xc e).trans y2,(Xc e).trans y3⟩
  have HLZ:Hd (Lo (z.setCell ⟨gb,0,none⟩<|.int .i32 0) O (.slice ad T'.ay.length cp) tv T'.ay):=by
   refine a.kb Y (λk q F=>?_)<|λt ht k q F=>?_
   .have J:=(a.2.1.lt k q).1;simp at F;omega
   .obtain⟨i,u⟩:=XM ht;have hl:i<T'.ay.length:=by rw[<-a.1];exact(Do.1 u).1
    have J:=((a.2.2.1 i _ t (iN hl) u).lt k q).1;simp at F;omega
  have HQ:=cV<|aIn q2<|aIn q4 q6;clear E G a4 D a6 d1 c c3 P H q1 q2 q3 q4 q5 q6 c9 r a d6 Y d0 a7 g;simp only[n8,sx9];go_wp2;refine leaves_cons (f:=32) (args:=#[pt gb]) K2 (by simp[go_sem]) ?_;refine(unlock_deferred Em _ _ z u0 uz).mono ?_;rintro e u' w''⟨rfl,rfl,rfl⟩;obtain⟨k0,k1,k2,k3⟩:=HZC.aa;refine⟨.tuple #[iy st gs aa<|.slice ad T'.ay.length cp,.int .i64 0],by simp[results,results13,go_sem,k0,k1,k2,k3],?_⟩;obtain⟨q2,q4,q6⟩:=HQ.aa;refine⟨_,_,tv,_,_,W,HE.aa.1,q2,By d8 b8,HLZ.aa,⟨S2,(Kb.refl _ w).trans HE.aa.2<|λi u=>?_,q4⟩,λk q=>(q6 k q).imp id<|λh=>By d8 h⟩
  grind
end
structure Pur where
 aj:Nat
 mo:Nat
 ae:BA
structure Slt where
 aj:Nat
 key:Nat
 val:Nat
 br:Bool
structure RW where
 pu:List Pur
 sl:List Slt
 lg:List LogE
structure RS where
 ae:BA
 data:BA
 aI:BA
 ak:Nat
 ax:Nat
 value:Nat
 ac:Nat
 depth:Nat
 pc:Nat
 ao:Nat
 aR:Bool
 st:Tl
 mem:Vf
 aa:BA
 w:RW
def qX(p:Pur):Tn:=wl p.aj++(wl p.mo++[.string p.ae])
def oj(s:Slt):Tn:=wl s.aj++(wl s.key++(wl s.val++[.bool s.br]))
def yt(R:RS)(Y:Nat)(X C:VL):Tn:=[pt Y,.string R.ae,.string R.data,.string R.aI,lu R.ak 0,lu R.ak 1,lu R.ak 2,lu R.ak 3,lu R.ax 0,lu R.ax 1,lu R.ax 2,lu R.ax 3,lu R.value 0,lu R.value 1,lu R.value 2,lu R.value 3,.int .i64 (R.ac:Int),.int .i64 (R.depth:Int),.int .i64 (R.pc:Int),.int .i64 (R.ao:Int),.bool R.aR,X,C,.string R.aa]
def rowL(x:WD)(b T:Nat)(l:Tn):=x.rowIs b T l.length<|λi=>l.getD i undef
theorem rowL.set{T:Nat}{l:Tn}(h:rowL x b T l)(v:VL):rowL (x.setCell ⟨b,o,none⟩ v) b T (l.set o v):=by unfold rowL;rw[XE];refine(World.rowIs.set h o v).congr λi D=>?_;grind
theorem rowL.cell{T:Nat}{l:Tn}(h:rowL x b T l)(D:l[i]?=some v):x.cell? ⟨b,i,none⟩=some v:=by
 have E:=(Do.1 D).1;rw[World.rowIs.cell h E,If,D];rfl
def oI(x:WD)(b:Nat):Nat->Tn->Prop
 |_,[]=>True
 |i,u::l=>x.cell? ⟨b,i,none⟩=some u/\oI x b (i+1) l
theorem cs_l{x:WD}{b:Nat}:∀{l:Tn}{i:Nat},(∀j u,l[j]?=some u->cL x b (i+j) u)->oI x b i l
 |[],_,_=>trivial
 |u::l,i,h=>⟨h 0 u W,cs_l λj v D=>by rw[ZB,Nat.add_comm 1];exact h (j+1) v D⟩
def rowL.cs{T:Nat}{l:Tn}(h:rowL x b T l):oI x b 0 l:=cs_l λj u D=>by rw[XF];exact h.cell D
def rowL.below{T:Nat}{l:Tn}(h:rowL x b T l)(D:bW x y):rowL y b T l:=cY h D
def Ty(x:WD)(k T:Nat):=∃cs fz,x.heap[k]?=some (.cells cs T fz)
def Ty.aB{T:Nat}(h:x.rowIs b T n f):Ty x b T:=by let⟨c,D,_⟩:=h;exact⟨c,_,D⟩
def Ty.az(h:x.ownsRow O e size v n xs)(G:v.ownBlock=some k):Ty x k e:=by
 rcases h.2 with⟨rfl,_⟩|⟨g,E,D,rfl,_,D,_⟩
 .cases G
 cases(by grind[Value.ownBlock]:g=k)
 exact⟨_,_,D⟩
def Ty.aF{T T':Nat}(h:Ty x k T)(D:Ty x k T'):T=T':=by let⟨c,f,h⟩:=h;let⟨E,G,D⟩:=D;grind
structure DV where
 pv:VL
 lv:VL
 gv:VL
 tv:Tn
structure DW(O Y:Nat)(P:RW)(V:DV)(x:WD):Prop where
 row:rowL x Y 146 [V.pv,V.lv,V.gv]
 pu:x.ownsRow O 150 9 V.pv P.pu.length (P.pu.flatMap qX)
 sl:x.ownsRow O 152 13 V.lv P.sl.length (P.sl.flatMap oj)
 lg:x.ownsRow O 112 6 V.gv P.lg.length (qM P.lg V.tv)
 tl:V.tv.length=P.lg.length
 tp:∀(i:Nat) l t,P.lg[i]?=some l->V.tv[i]?=some t->Wds x 0 t l.aM
 hb:O<=Y
def OH(T:Nat):=T=146\/T=150\/T=152\/T=112
def DW.kb{P:RW}{V:DV}(h:DW O Y P V x)(L:Kb S x y)(G:∀k∈S,(∀T,Ty x k T->¬OH T)/\∀t∈V.tv,t.ownBlock≠some k):DW O Y P V y:=by
 have D:∀{e size n:Nat}{v:VL}{xs:List _},OH e->x.ownsRow O e _ v n xs->y.ownsRow _ e size v n xs:=λJ D=>L.aD D λk hb E=>(G k E).1 _ (Ty.az D hb) J;exact⟨L.row h.row λE=>(G Y E).1 _ (Ty.aB h.row)<|LZ W,D (A4<|LZ W) h.pu,D (A4<|A4<|LZ W) h.sl,D (A4<|A4<|A4 W) h.lg,h.tl,
  λi l t Q I=>L.aD (h.tp i l t Q I) λk hb E=>(G k E).2 t (Xe I) hb,h.hb⟩
structure DA(O H Y:Nat)(R:RS)(X C:VL)(V:DV)(x:WD):Prop where
 row:rowL x H 159 (yt R Y X C)
 st:Wds x O X R.st.reverse
 me:Bys x O C R.mem
 wa:DW O Y R.w V x
 tk:∀t∈V.tv,∀k,t.ownBlock=some k->X.ownBlock≠some k
 hf:O<=H
 hb:O<=x.heap.size
 gl:R.ac<=1000000
 sl:R.st.length<=1024
 ml:R.mem.length<=65568
def vU(H Y:Nat)(X C:VL)(V:DV)(k:Nat):=k=H\/k=Y\/X.ownBlock=some k\/C.ownBlock=some k\/V.pv.ownBlock=some k\/V.lv.ownBlock=some k\/V.gv.ownBlock=some k\/∃t∈V.tv,t.ownBlock=some k
abbrev hZ:=List<|Nat×Nat×Tn
def DQ(O H Y:Nat)(R:RS)(l:hZ)(x:WD):=∃X C V,DA O H Y R X C V x/\(∀p∈l,rowL x p.1 p.2.1 p.2.2/\¬vU H Y X C V p.1)/\(l.map (·.1)).Nodup
def Dp(O H Y:Nat)(R:RS)(v:VL)(l:hZ)(x:WD)(e:Ending)(y:WD):=e=.returned v/\DQ O H Y R l y/\Below O x y
def DW.tm{P:RW}{V:DV}(h:DW O Y P V x){t:VL}(D:t∈V.tv):∃l,Wds x 0 t l:=by obtain⟨i,E,rfl⟩:=XU D;exact⟨_,h.tp i _ _ (iN (by rw[<-h.tl];exact E))<|iN E⟩
def DA.lt{R:RS}{V:DV}(h:DA O H Y R X C V x)(E:vU H Y X C V k):k<x.heap.size:=by
 have N:∀{b e size n:Nat}{v:VL}{xs:List _},x.ownsRow b e size v n xs->v.ownBlock=some k->k<x.heap.size:=λh E=>(h.lt k E).2;rcases E with rfl|rfl|E|E|E|E|E|⟨t,D,E⟩
 .exact h.row.lt
 .exact h.wa.row.lt
 .exact N h.st E
 .exact N h.me E
 .exact N h.wa.pu E
 .exact N h.wa.sl E
 .exact N h.wa.lg E
 let⟨l,G⟩:=h.wa.tm D;exact N G E
def DA.below{R:RS}{V:DV}(h:DA O H Y R X C V x)(hb:bW x y):DA O H Y R X C V y:=⟨cY h.row hb,dh h.st hb,dh h.me hb,h.wa.kb (Kb.h (S:=[]) hb) K2,h.tk,h.hf,By h.hb hb.size,h.gl,h.sl,h.ml⟩
def DQ.below{R:RS}{l:hZ}(h:DQ O H Y R l x)(E:bW x y):DQ O H Y R l y:=by let⟨X,C,V,h,G,D⟩:=h;exact⟨X,C,V,h.below E,λp I=>⟨cY (G p I).1 E,(G p I).2⟩,D⟩
def DQ.box{R:RS}{l:hZ}(h:DQ O H Y R l x)(T:Nat)(cs:Tn):DQ O H Y R ((x.heap.size,T,cs)::l) (x.alloc<|.cells cs.toArray T):=by
 have J:Below _ x (x.alloc<|.cells cs.toArray T):=ai (dO _ x) _;let⟨X,C,V,h,I,D⟩:=h;refine⟨X,C,V,h.below J,λp G=>?_,X3.2 ⟨λE=>?_,D⟩⟩
 .rcases IF.1 G with rfl|G
  .refine⟨World.rowIs_alloc x _ T _<|λi L=>K9,λL=>?_⟩;exact absurd (h.lt L)<|Yg _
  exact⟨cY (I p G).1 J,(I p G).2⟩
 let⟨p,G,e⟩:=Xq.1 E;have:=World.rowIs.lt (I p G).1;grind
def DQ.tail{R:RS}{p:Nat×Nat×Tn}{l:hZ}(h:DQ O H Y R (p::l) x):DQ O H Y R l x:=by let⟨X,C,V,h,E,D⟩:=h;exact⟨X,C,V,h,λq G=>E q<|IN _ G,(X3.1 D).2⟩
def DQ.row{T:Nat}{cs:Tn}{R:RS}{l:hZ}(h:DQ O H Y R ((b,T,cs)::l) x):rowL x b T cs:=by let⟨X,C,V,h,E,D⟩:=h;simp_all
def DA.kb{R:RS}{V:DV}(h:DA O H Y R X C V x)(L:Kb S x y)(G:∀k∈S,¬vU H Y X C V k):DA O H Y R X C V y:=by have D:∀{P e size n:Nat}{v:VL}{xs:List _},(∀k,v.ownBlock=some k->vU H Y X C V k)->x.ownsRow P e size v n xs->y.ownsRow P e _ v n xs:=λP D=>L.aD D λk J E=>G k E<|P k J;refine⟨L.row h.row λE=>G _ E<|LZ W,D (λk e=>by simp[vU,e]) h.st,D (λk e=>by simp[vU,e]) h.me,⟨L.row h.wa.row λE=>G _ E<|A4<|LZ W,D (λk e=>by simp[vU,e]) h.wa.pu,D (λk e=>by simp[vU,e]) h.wa.sl,D (λk e=>by simp[vU,e]) h.wa.lg,h.wa.tl,λi l t P I=>D (λk e=>?_)<|h.wa.tp i l t P I,h.wa.hb⟩,h.tk,h.hf,By h.hb L.size,h.gl,h.sl,h.ml⟩;exact A4<|A4<|A4<|A4<|A4<|A4<|A4 ⟨t,Xe I,e⟩
def DQ.drop{T:Nat}{cs:Tn}{R:RS}{l:hZ}(h:DQ O H Y R ((b,T,cs)::l) x)(P:Kb [b] x y):DQ O H Y R l y:=by let⟨X,C,V,h,J,I⟩:=h;have L:=(J _ Xz).2;let⟨D,E⟩:=X3.1 I;refine⟨X,C,V,h.kb P<|λk G=>K9,λp L=>⟨P.row (J p<|IN _ L).1 λG=>D<|Xq.2 ⟨p,L,BY.1 G⟩,(J p<|IN _ L).2⟩,E⟩
theorem DQ.aX{l:hZ}{V V':DV}{R':RS}(G:(∀p∈l,rowL x p.1 p.2.1 p.2.2/\¬vU H Y X C V p.1)/\(l.map (·.1)).Nodup)(h:DA O H Y R' sv' mv' V' y)(J:Kb S x y)(E:∀k∈S,vU H Y X C V k)(L:∀k,vU H Y sv' mv' V' k->vU H Y X C V k\/x.heap.size<=k):DQ O H Y R' l y:=⟨sv',mv',V',h,λp I=>⟨J.row (G.1 p I).1 λD=>(G.1 p I).2<|E _ D,λJ=>(L _ J).elim (G.1 p I).2 λJ=>by have:=World.rowIs.lt (G.1 p I).1;omega⟩,G.2⟩
def tyF{T:Nat}(h:T=159):¬OH T:=by grind[OH]
theorem DA.set{R R':RS}{V:DV}(h:DA O H Y R X C V x)(e:(yt R Y X C).set o v=yt R' Y X C)(I:R'.st=R.st)(G:R'.mem=R.mem)(P:R'.w=R.w)(Q:R'.ac<=1000000):DA O H Y R' X C V (x.setCell ⟨H,o,none⟩ v):=by
 have U:Kb [H] x (x.setCell ⟨H,o,none⟩ v):=(Kb.refl _ _).setCell AI v;have D:=Ty.aB h.row;refine⟨e▸rowL.set h.row v,?_,?_,?_,h.tk,h.hf,by simpa[World.setCell]using h.hb,Q,by rw[I];exact h.sl,by rw[G];exact h.ml⟩
 .rw[I];exact U.aD h.st λk hb E=>by rw[BY.1 E]at hb;exact absurd ((Ty.az h.st hb).aF D) K3
 .rw[G];exact U.aD h.me λk hb E=>by rw[BY.1 E]at hb;exact absurd ((Ty.az h.me hb).aF D) K3
 rw[P];refine h.wa.kb U λk E=>?_;rw[BY.1 E];refine⟨λT U=>tyF<|U.aF D,λt J hb=>?_⟩;let⟨_,L⟩:=h.wa.tm J;exact absurd ((Ty.az L hb).aF D) K3
def fA(R:RS):RS:={R with ao:=3}
theorem DQ.set{R R':RS}{l:hZ}(h:DQ O H Y R l x)(e:∀X C,(yt R Y X C).set o v=yt R' Y X C)(D:R'.st=R.st)(I:R'.mem=R.mem)(E:R'.w=R.w)(G:R'.ac<=1000000):DQ O H Y R' l (x.setCell ⟨H,o,none⟩ v):=by let⟨X,C,V,h,J⟩:=h;exact DQ.aX J (h.set (e X C) D I E G) ((Kb.refl _ _).setCell AI v) (λk J=>LZ<|BY.1 J)<|λk J=>LZ J
theorem DQ.cell{R:RS}{l:hZ}(h:DQ O H Y R l x)(e:∀X C,(yt R Y X C)[o]?=some v):cL x H o v/\x.frozen? ⟨H,o,none⟩=false/\O<=H:=by let⟨X,C,V,h,D⟩:=h;exact⟨h.row.cell<|e X C,h.row.frozen o,h.hf⟩
def jh{R:RS}{l:hZ}(h:DQ O H Y R l x)(E:R.ac<=1000000):cP 133 #[pt H] x (Dp O H Y (fA R) (.tuple #[]) l x):=by let⟨c,f,G⟩:=h.cell (o:=19)<|λ_ _=>W;have D:=cV<|h.set (o:=19) (v:=.int _ 3) (R':=fA R) (λ_ _=>W) W W W E;clear h;go_enter func133,ntmps133;go_wp2;refine bI W W ⟨W,D,(dO _ _).setCell G _⟩
end
section
variable {R:RS}{l:hZ}{cs:Tn}
def DQ.ac(h:DQ O H Y R l x):R.ac<=1000000:=by let⟨X,C,V,h,D⟩:=h;exact h.gl
def dU(n:Nat)(R:RS):RS:=if R.ac<n then fA R else{R with ac:=R.ac-n}
def vx(n:Nat)(hn:n<=10000000)(h:DQ O H Y R l x):cP 123 #[pt H,iI (n:Int)] x (Dp O H Y (dU n R) (.tuple #[]) l x):=by
 have L:=cV h;let⟨c,f,P⟩:=h.cell (o:=16)<|λ_ _=>W;have J:=h.ac;unfold dU;by_cases D:R.ac<n
 .rw[At D];go_enter func123,ntmps123;go_wp2_with fail
  refine(jh L J).mono ?_;rintro e y⟨rfl,I,G⟩;have E:=cV<|aIn I G;go_wp2;refine bI W W ⟨W,E⟩
 rw[iF D];have E:=cV<|h.set (o:=16) (v:=.int _<|(R.ac-n:Nat)) (R':={R with ac:=R.ac-n}) (λ_ _=>W) W W W K9;rw[(show((R.ac-n:Nat):Int)=R.ac-n by omega)]at E;go_enter func123,ntmps123;go_wp2;refine bI W W ⟨W,E,(dO _ _).setCell P _⟩
def DA.stk{V:DV}(h:DA O H Y R X C V x){J:Tl}(g:x.grownBy y X.ownBlock)(p:Wds y O sv' J.reverse)(P:Fresh x X sv')(q:J.length<=1024):DA O H Y {R with st:=J} sv' C V (y.setCell ⟨H,21,none⟩ sv')/\Kb (H::X.ownBlock.toList) x (y.setCell ⟨H,21,none⟩ sv')/\(∀k,vU H Y sv' C V k->vU H Y X C V k\/x.heap.size<=k):=by
 have m:Kb X.ownBlock.toList x y:=(Kb.refl _ _).grown g λk e=>LZ (by simp[e]);have c:∀k∈X.ownBlock.toList,Ty x k 24:=λk D=>Ty.az h.st K9;have E:Kb [H] y (y.setCell ⟨H,21,none⟩ sv'):=(Kb.refl _ _).setCell AI _;have o:rowL y H _ _:=m.row h.row λD=>absurd ((c _ D).aF<|Ty.aB h.row) K3;have G:=Ty.aB o;have U:Bys y _ C _:=m.aD h.me λk hb D=>absurd ((c k D).aF<|Ty.az h.me hb) K3;have Z:=h.wa.kb m λk D=>⟨λT d=>by rw[d.aF<|c k D];grind[OH],λt L e=>h.tk t L k e K9⟩
 refine⟨⟨(rowL.set o _),?_,?_,?_,λt L k Q I=>?_,h.hf,by simpa[World.setCell]using By h.hb g.size,h.gl,q,h.ml⟩,?_,?_⟩
 .exact E.aD p λk hb D=>by rw[BY.1 D]at hb;exact absurd ((Ty.az p hb).aF G) K3
 .exact E.aD U λk hb D=>by rw[BY.1 D]at hb;exact absurd ((Ty.az U hb).aF G) K3
 .refine Z.kb E λk D=>?_;rw[BY.1 D];refine⟨λT c=>tyF<|c.aF G,λt L hb=>?_⟩;let⟨_,f⟩:=Z.tm L;exact absurd ((Ty.az f hb).aF G) K3
 .rcases P with e|e
  .rw[e]at I;exact h.tk t L k Q I
  have:=e k I;let⟨_,f⟩:=h.wa.tm L;have:=(f.lt k Q).2;omega
 .refine(m.mono λi c=>IN _ c).trans E λi c=>LZ K9
 rintro k(e|e|e|e)
 .exact LZ (LZ e)
 .exact LZ (A4<|LZ e)
 .rcases P with j|j
  .rw[j]at e;exact LZ<|A4<|A4<|LZ e
  grind
 exact LZ<|A4<|A4<|A4 e
def DQ.stk{V:DV}(h:DA O H Y R X C V x)(U:(∀p∈l,rowL x p.1 p.2.1 p.2.2/\¬vU H Y X C V p.1)/\(l.map (·.1)).Nodup){D:Tl}(Q:x.grownBy y X.ownBlock)(Z:Wds y O sv' D.reverse)(E:Fresh x X sv')(I:D.length<=1024):DQ O H Y {R with st:=D} l (y.setCell ⟨H,21,none⟩ sv'):=by
 let⟨L,J,P⟩:=h.stk Q Z E I;refine DQ.aX U L J (λk G=>?_) P;rcases IF.1 G with rfl|G
 .exact LZ W
 exact A4<|A4<|LZ K9
def xx{r:Yt}:x.grownBy x r:=⟨W,W,W,DO _,λ_ _ _=>W⟩
def dA(R:RS):Nat×RS:=if R.ao=3 then(0,fA R)else match R.st with
 |[]=>(0,fA R)
 |n::r=>(n,{R with st:=r})
def DQ.aW(h:DQ O H Y R l x)(G D E a3:VL):DQ O H Y R ((x.heap.size,24,[G,D,E,a3])::l) (x.alloc<|.cells #[G,D,E,a3] 24):=h.box _ [G,D,E,a3]
def DQ.hb(h:DQ O H Y R l x):O<=x.heap.size/\O<=H:=by let⟨X,C,V,h,D⟩:=h;exact⟨h.hb,h.hf⟩
theorem DQ.put(h:DQ O H Y R ((b,24,cs)::l) x)(E:cs.length=4)(I:O<=b):DQ O H Y R l (lp x b n)/\Below O x (lp x b n)/\(lp x b n).cell? ⟨b,0,none⟩=some (lu n 0)/\(lp x b n).cell? ⟨b,1,none⟩=some (lu n 1)/\(lp x b n).cell? ⟨b,2,none⟩=some (lu n 2)/\(lp x b n).cell? ⟨b,3,none⟩=some (lu n 3):=by have J:=h.row;unfold rowL at J;rw[E]at J;obtain⟨D,L,P,G⟩:=cW<|di J<|cX n;exact⟨h.drop<|we x b n,((((dO _ _).setCell I _).setCell I _).setCell I _).setCell I _,D,L,P,G⟩
def DQ.aJ{G D E a3:VL}(h:DQ O H Y R ((b,24,[G,D,E,a3])::l) x):cL x b 0 G/\cL x b 1 D/\cL x b 2 E/\cL x b 3 a3/\∀i,x.frozen? ⟨b,i,none⟩=false:=⟨h.row.cell W,h.row.cell W,h.row.cell W,h.row.cell W,World.rowIs.frozen h.row⟩
def pB(h:DQ O H Y R l x):cP 124 #[pt H] x (Dp O H Y (dA R).2 (wv (dA R).1) l x):=by
 have hg:=h.ac;have D:=h.hb;have Z:=cV<|h.aW (iU 0) (iU 0) (iU 0)<|iU 0;let⟨c19,f19,_⟩:=Z.aa.cell (o:=19)<|λ_ _=>W;have Q:Below _ x (x.alloc<|.cells #[iU 0,iU 0,iU 0,iU 0] 24):=(ai (dO _ x) _).mono D.1;have HBA:=cV Q;obtain⟨b3,hb3⟩:∃b,((R.ao:Int)==3)=b:=⟨_,W⟩
 have hb4:decide (R.ao=3)=b3:=by grind[OsQ,W8,Xb]
 have bad:(b3=false->R.st=[])->cP 124 #[pt H] x (Dp O H Y (fA R) (wv 0) l x):=λT=>by
  have hs9:∃s a,(x.alloc<|.cells #[iU 0,iU 0,iU 0,iU 0] 24).cell? ⟨H,21,none⟩=some (.slice s R.st.length a):=by let⟨X,C,V,G,_⟩:=Z.aa;obtain⟨s,a,rfl⟩:=dt G.st;exact⟨s,a,by have:=G.row.cell (i:=21) W;grind⟩
  let⟨s,a,I⟩:=hs9;let⟨N,U⟩:=dP R.st.length;rw[<-U.aa]at I;have k:Hd (b3=false->N=0):=λe=>by rw[U.aa,T e];rfl
  cases b3;all_goals
   first
    |(have hz:=k.aa rfl;subst hz)
    |skip
   go_enter func124,ntmps124;go_wp2_with fail
   refine(jh Z hg).mono ?_;rintro e y⟨rfl,G,t⟩;have HY:=cV<|aIn G<|HBA.trans t;go_wp2_with fail
   refine(dx 0 K3 _).mono ?_;rintro e z⟨r,HR,rfl,hz⟩;have k:=cV<|HY.1.below hz;have c:=cV<|k.put (n:=r) W D.1;have HB:=cV<|(HY.2.trans<|hz.mono HY.1.hb.1).trans c.2.1;let⟨z0,z1,z2,z3,fz⟩:=k.aa.aJ;go_wp2;let⟨k1,_,K,q,u,d⟩:=c.aa;unfold lp at K q u d;refine sp (v:=wv r) (by simp[results,results124,go_sem,K,q,u,d]) W ⟨by rw[HR.aa],k1,HB⟩
 unfold dA;by_cases h3:R.ao=3
 .grind
 rw[iF h3];match hst:R.st with
 |[]=>grind
 |n::r=>
  cases(K9:b3=false)
  have f:x.heap.size+1=(x.alloc<|.cells #[iU 0,iU 0,iU 0,iU 0] 24).heap.size:=K2
  have F:=Z.aa.aW (lu n 0) (lu n 1) (lu n 2)<|lu n 3;rw[<-f]at F;let⟨X,C,V,G,t⟩:=F;let⟨sv',mv',V',J,_⟩:=Z.aa;have P:=J.st;have w:=G.st;rw[hst,List.reverse_cons]at w P;obtain⟨g,E,rfl,hg1,hg2,p⟩:=fv w K2;have L:(r.reverse++[n]).length=r.length+1:=K2
  have m:=G.row.cell (i:=21) W;have f21:=G.row.frozen 21;have I:=J.row.cell (i:=21) W;have hsv:sv'=sL g (r.reverse++[n]).length E:=by have h9:=(J.row.below<|ai (dO _ _)<|.cells #[lu n 0,lu n 1,lu n 2,lu n 3] 24).cell (i:=21) W;grind
  subst hsv;rw[L]at I m p;let⟨c0,c1,c2,c3⟩:=Wds.at P (j:=r.length) (n:=n) K2 K2;have A:r.length<1024:=by have:=G.sl;grind
  have S:=cV<|DQ.stk G t (xx) (Wds.cI w) (LZ W) wq;let⟨N,U⟩:=dP r.length;have hN:N<1024:=by rwa[U.aa]
  have hN0:((N:Int)+1==0)=false:=R5
  rw[XD,<-U.aa]at S;rw[<-U.aa]at I m c0 c1 c2 c3 p;let⟨e0,e1,e2,e3,_⟩:=S.aa.aJ;let⟨z0,z1,z2,z3,fz⟩:=S.aa.tail.aJ;have c:=cV<|S.tail.put (n:=n) W D.1;have HB:=cV<|((Q.trans<|(ai (dO _ _) _).mono<|By D.1 K2).setCell D.2 _).trans c.2.1;clear G t w P J L h A f Z S Q;go_enter func124,ntmps124;go_wp2;let⟨k1,_,K,q,u,d⟩:=c.aa;unfold lp at K q u d;refine sp (by simp[results,results124,go_sem,K,q,u,d]) W ⟨W,k1,HB⟩
def eN(n:Nat)(R:RS):RS:=if 1024<=R.st.length then fA R else{R with st:=n::R.st}
def iq(n:Nat)(h:DQ O H Y R l x):cP 179 #[pt H,wv n] x (Dp O H Y (eN n R) (.tuple #[]) l x):=by
 have r:=h.ac;have Z:=h.hb;have b:=cV<|h.aW (lu n 0) (lu n 1) (lu n 2)<|lu n 3;have T:Hd (Below _ x<|x.alloc<|wc n):=(ai (dO _ x) _).mono Z.1;unfold eN;by_cases U:1024<=R.st.length
 .rw[At U];have K:∃z S,(x.alloc<|wc n).cell? ⟨H,21,none⟩=some (.slice z R.st.length S):=by let⟨X,C,V,E,_⟩:=b.aa;obtain⟨z,S,rfl⟩:=dt E.st;exact⟨z,S,by have:=E.row.cell (i:=21) W;grind⟩
  let⟨z,S,c⟩:=K;have q:=dT<|(1024:Int)<=R.st.length;go_enter func179,ntmps179;go_wp2_with fail
  refine(jh b r).mono ?_;rintro e y⟨rfl,E,f⟩;have b:=cV<|aIn E.tail<|T.trans f;go_wp2;refine bI W W ⟨W,b⟩
 rw[iF U];have q:=dF<|(1024:Int)<=R.st.length;let⟨X,C,V,E,f⟩:=h;have J:Below _ x ((x.alloc<|wc n).drew.alloc<|wc n):=ai (ai (dO _ x) _).drew _;let⟨a,L,D,G,I⟩:=YI sy;have r:=cV<|aIn L<|aIn D<|aIn G I;obtain⟨z,S,rfl⟩:=dt E.st;have c1:=(E.row.below<|ai (dO _ x)<|wc n).cell (i:=21) W;have c2:=(E.row.below J).cell (i:=21) W;have c3:=(E.row.below<|ai (ai (dO _ x)<|wc n)<|wc n).cell (i:=21) W;rw[XD]at c1 c2 c3;have Q:=cV<|E.below J;have v:Hd ((∀p∈l,rowL _ _ _ _/\¬vU H Y _ C V _)/\(l.map _).Nodup):=⟨λp b=>⟨(f.1 p b).1.below J,(f.1 p b).2⟩,f.2⟩
 have c:Hd _:=J.mono Z.1;have b:Hd (∀j u,[iU<|cX n 0,lu n 1,lu n 2,lu n 3][j]?=some u->((x.alloc<|wc n).drew.alloc<|wc n).cell? ((⟨x.heap.size+1,0,none⟩:Addr).add j)=some u):=by have h:=fJ (x.alloc<|wc n).drew #[lu n 0,lu n 1,lu n 2,lu n 3] 24;simp_all
 have P:Hd (R.st.reverse.length=R.st.length):=XD;let⟨N,g⟩:=dP R.st.length;have w:N<1024:=by rw[g.aa];omega
 have q:=dF<|(1024:Int)<=N;rw[<-g.aa]at c1 c2 c3;clear E f J L D G I U;go_enter func179,ntmps179;go_wp2
 go_region_law (let⟨L,D,G,I⟩:=r.aa;refine iJ W _ _ _ W _ 24 a _ 4 32 N0 L D G I W K3 _ _ _ (by rw[P.aa,<-g.aa];rfl) Q.st _ 1 1 _ W W b (by intro u b;simp at b;rcases b with rfl|rfl|rfl|rfl<;>rfl) (by unfold maxLen;rw[P.aa,<-g.aa];omega) (by rw[P.aa,<-g.aa];omega) N3 ?_;intro b y A d m;obtain⟨w,o,rfl,t,s,b⟩:=fv A;have q:=d.block H (Q.row.lt)<|λe=>absurd ((Ty.az Q.st e.symm).aF<|Ty.aB Q.row) K3;have r:=(Xc q).trans c2;have r:=(Yv q).trans<|Q.row.frozen 21;have a:=cV A;have r:=cV d;have F:=cV m;clear m A d q t s b L D G I)
 all_goals go_wp2
 all_goals go_end0
 all_goals(
  have A:Wds y O (sL w (R.st.reverse.length+1) o) (n::R.st).reverse:=by unfold Wds;rwa[List.reverse_cons,Xm,lB]
  have b:=DQ.stk Q v r A F (by rw[X2,<-g.aa];omega);rw[P.aa]at b;exact⟨W,b,(c.grown r Q.hb<|λk b=>(Q.st.lt k b).1).setCell Z.2 _⟩)
def DA.mem0{V:DV}(h:DA O H Y R X C V x){m:Vf}{mv':VL}(I:x.grownBy y C.ownBlock):rowL y H 159 (yt R Y X C)/\Wds y O X R.st.reverse/\DW O Y R.w V y/\Kb C.ownBlock.toList x y:=by have P:Kb C.ownBlock.toList x y:=(Kb.refl _ _).grown I λk e=>LZ (by simp[e]);have L:∀k∈C.ownBlock.toList,Ty x k 5:=λk D=>Ty.az h.me K9;refine⟨P.row h.row λD=>absurd ((L _ D).aF<|Ty.aB h.row) K3,P.aD h.st λk Q D=>absurd ((L k D).aF<|Ty.az h.st Q) K3,h.wa.kb P λk D=>⟨λT E=>by rw[E.aF<|L k D];grind[OH],λt J e=>?_⟩,P⟩;let⟨_,G⟩:=h.wa.tm J;exact absurd ((L k D).aF<|Ty.az G e) K3
def DQ.mem{V:DV}(h:DA O H Y R X C V x)(f:(∀p∈l,rowL x p.1 p.2.1 p.2.2/\¬vU H Y X C V p.1)/\(l.map (·.1)).Nodup){m:Vf}(P:x.grownBy y C.ownBlock)(b:Bys y O mv' m)(J:Fresh x C mv')(L:m.length<=65568):DQ O H Y {R with mem:=m} l (y.setCell ⟨H,22,none⟩ mv'):=by
 let⟨Z,I,c,d⟩:=h.mem0 (m:=m) (mv':=mv') P;have D:Kb [H] y (y.setCell ⟨H,22,none⟩ mv'):=(Kb.refl _ _).setCell AI _;have E:=Ty.aB Z;refine DQ.aX (S:=H::C.ownBlock.toList) f ⟨(rowL.set Z _),?_,?_,?_,h.tk,h.hf,by simpa[World.setCell]using By h.hb P.size,h.gl,h.sl,L⟩ ?_ (λk G=>?_) ?_
 .exact D.aD I λk hb G=>by rw[BY.1 G]at hb;exact absurd ((Ty.az I hb).aF E) K3
 .exact D.aD b λk hb G=>by rw[BY.1 G]at hb;exact absurd ((Ty.az b hb).aF E) K3
 .refine c.kb D λk G=>?_;rw[BY.1 G];refine⟨λT Z=>tyF<|Z.aF E,λt U hb=>?_⟩;let⟨_,L⟩:=c.tm U;exact absurd ((Ty.az L hb).aF E) K3
 .exact(d.mono λi Z=>IN _ Z).trans D λi Z=>LZ K9
 .rcases IF.1 G with rfl|G
  .exact LZ W
  exact A4<|A4<|A4<|LZ K9
 rintro k(e|e|e|e|e)
 .exact LZ (LZ e)
 .exact LZ (A4<|LZ e)
 .exact LZ (A4<|A4<|LZ e)
 .rcases J with Q|Q
  .rw[Q]at e;exact LZ<|A4<|A4<|A4<|LZ e
  grind
 exact LZ<|A4<|A4<|A4<|A4 e
def Hz(R:RS):RS:={dU 3 R with mem:=R.mem++List.replicate 32 0}
def jI:Nat->Nat->RS->RS
 |0,_,R=>R
 |k+1,n,R=>if R.mem.length<n/\R.ao=0 then jI k n (Hz R)else R
def dJ(a n:Nat)(R:RS):(Nat×Nat)×RS:=
 if ec n 70000=0\/R.ao=3 then((0,0),R)
 else if 65536<ec a 70000+ec n 70000 then((0,0),fA R)
 else if (jI 2049 (ec a 70000+ec n 70000) R).ao=3 then((0,0),jI 2049 (ec a 70000+ec n 70000) R)
 else((ec a 70000,ec n 70000),jI 2049 (ec a 70000+ec n 70000) R)
def Ta(n:Nat)(R:RS):(dU n R).mem=R.mem:=by unfold dU;split<;>rfl
def DQ.ex(h:DQ O H Y R l x):∃G E,cL x H 22 (.slice G R.mem.length E)/\R.mem.length<=65568/\R.st.length<=1024:=by let⟨X,C,V,D,_⟩:=h;obtain⟨G,E,rfl⟩:=dt D.me;exact⟨G,E,D.row.cell W,D.ml,D.sl⟩
theorem tX(a n:Nat)(h:DQ O H Y R l x):cP 183 #[.pointer<|some ⟨H,0,none⟩,wv a,wv n] x (Dp O H Y (dJ a n R).2 (rG (dJ a n R).1) l x):=by
 have hg:=h.ac;have hbb:=h.hb;have HX:=cV<|(h.aW (iU<|cX a 0) (iU<|cX a 1) (iU<|cX a 2)<|iU<|cX a 3).aW (iU<|cX n 0) (iU<|cX n 1) (iU<|cX n 2)<|iU<|cX n 3;have HBA:Hd (Below _ x<|(x.alloc<|wc a).alloc<|wc n):=(ai (ai (dO _ x) _) _).mono hbb.1;obtain⟨sz,HSZ⟩:=dP<|ec n 70000;obtain⟨fr,HFR⟩:=dP<|ec a 70000;have hsz:sz<=70000:=by rw[HSZ.aa];grind[ec]
 have hfr:fr<=70000:=by rw[HFR.aa];grind[ec]
 obtain⟨tr,HTR⟩:=dP<|dJ a n R;rw[<-HTR.aa];replace HTR:=cV HTR;unfold dJ at HTR;rw[<-HSZ.aa,<-HFR.aa]at HTR;go_enter func183,ntmps183;go_wp2_with fail
 refine(ij n 70000 wq _).mono ?_;rintro e y⟨rfl,hy⟩;rw[<-HSZ.aa];replace HX:=cV<|HX.below hy;replace HBA:=cV<|HBA.trans<|hy.mono<|By hbb.1 N3;obtain⟨r0,r1,r2,r3,_⟩:=HX.aa.tail.aJ;go_wp2_with fail
 refine(ij a 70000 wq _).mono ?_;rintro e z⟨rfl,hz⟩;rw[<-HFR.aa];replace HBA:=cV<|HBA.trans<|hz.mono HX.hb.1;have HX':=cV (HX.below hz).tail.tail;obtain⟨c19,_,_⟩:=HX'.aa.cell (o:=19)<|λ_ _=>rfl;by_cases h0:sz=0
 .subst h0;have ht:=HTR.aa.trans<|At<|LZ rfl;subst ht;go_wp2;refine Kg rfl rfl ⟨rfl,HX',HBA⟩
 have d0:((sz:Int)==0)=false:=K9
 by_cases h3:R.ao=3
 .have d3:((R.ao:Int)==3)=true:=K9
  have ht:=HTR.aa.trans<|At<|A4 h3;subst ht;go_wp2;refine Kg rfl rfl ⟨rfl,HX',HBA⟩
 have d3:((R.ao:Int)==3)=false:=K9
 replace HTR:=cV<|HTR.trans<|iF<|λh=>h.elim h0 h3;by_cases hbig:65536<fr+sz
 .have d4:=dT<|65536<(fr:Int)+sz;have ht:=HTR.aa.trans<|At hbig;subst ht;go_wp2_with fail
  refine(jh HX' hg).mono ?_;rintro e y⟨rfl,h1,h2⟩;have HY:=cV<|aIn h1<|HBA.trans h2;go_wp2;refine Kg rfl rfl ⟨rfl,HY⟩
 have d4:=dF<|65536<(fr:Int)+sz;replace HTR:=cV<|HTR.trans<|iF hbig;obtain⟨nd,HND⟩:=dP<|fr+sz;have hnd:nd<=65536:=by rw[HND.aa];omega
 rw[<-HND.aa]at HTR;go_wp2
 go_loopg [] 2049 (λgk wr=>∃R',Hd (jI gk nd R'=jI 2049 nd R)/\Hd (R'.mem.length+32*gk=R.mem.length+32*2049)/\Hd (DQ O H Y R' l wr)/\Hd (Below O x wr))
 case atStart=>exact⟨R,rfl,rfl,HX',HBA⟩
 obtain⟨R',HE,HM,HD,HB⟩:=hrel;obtain⟨ad,cp,c22,hml,_⟩:=HD.aa.ex;obtain⟨c19,_,_⟩:=HD.aa.cell (o:=19)<|λ_ _=>rfl;obtain⟨N,HN⟩:=dP R'.mem.length;rw[<-HN.aa]at c22 hml;have aa:(nd<=N\/R'.ao≠0)->jI _ nd R=R':=λh=>by
  rw[<-HE.aa];cases gk with
  |zero=>rfl
  |succ k=>exact iF<|λh9=>h.elim (λh=>by rw[HN.aa]at h;omega)<|λh=>h h9.2
 have aZ:jI _ nd R=R'->Hd _:=λe=>by have h9:=HTR.aa;rw[e]at h9;exact h9
 by_cases hlt:N<nd;case neg=>
  have HF:=aZ<|aa<|LZ wq;have d5:decide (N<(fr:Int)+sz)=false:=W8 (by have:=HND.aa;omega);by_cases h3:R'.ao=3
  .have d6:((R'.ao:Int)==3)=true:=K9
   have ht:=HF.aa.trans<|At h3;subst ht;go_wp2;refine Kg rfl rfl ⟨rfl,HD,HB⟩
  have d6:((R'.ao:Int)==3)=false:=K9
  have ht:=HF.aa.trans<|iF h3;subst ht;go_wp2;refine Kg rfl rfl ⟨rfl,HD,HB⟩
 have d5:decide (N<(fr:Int)+sz)=true:=OsQ (by have:=HND.aa;omega);by_cases h9:R'.ao=0;case neg=>
  have HF:=aZ<|aa<|A4 h9;have d7:((R'.ao:Int)==0)=false:=K9
  by_cases h3:R'.ao=3
  .have d6:((R'.ao:Int)==3)=true:=K9
   have ht:=HF.aa.trans<|At h3;subst ht;go_wp2;refine Kg rfl rfl ⟨rfl,HD,HB⟩
  have d6:((R'.ao:Int)==3)=false:=K9
  have ht:=HF.aa.trans<|iF h3;subst ht;go_wp2;refine Kg rfl rfl ⟨rfl,HD,HB⟩
 have d7:((R'.ao:Int)==0)=true:=K9
 obtain⟨k,rfl⟩:∃k,gk=k+1:=⟨gk-1,by have:=HM.aa;rw[<-HN.aa]at this;omega⟩
 have HE2:Hd (jI k nd _=jI _ nd R):=cV (by rw[<-HE.aa];exact(At ⟨by rw[<-HN.aa];exact hlt,h9⟩).symm);have HM2:Hd ((Hz R').mem.length+32*k=R.mem.length+32*2049):=cV (by have:=HM.aa;show(R'.mem++List.replicate 32 0).length+_=_;rw[Xm,Yl];omega);go_wp2_with fail
 refine(vx 3 wq HD).mono ?_;rintro e y⟨rfl,h1,h2⟩;obtain⟨X,C,V,h3,h4⟩:=h1;have hme:=h3.me;rw[Ta]at hme;obtain⟨v',y',hrun,hby,hgr,hfr9⟩:=oX y 32 C _ hme wq (by rw[<-HN.aa];omega) h3.hb 26;have HQ:=cV (DQ.mem h3 h4 hgr hby hfr9 (by rw[Xm,Yl,<-HN.aa];omega));have e22:=h3.row.cell (i:=22) rfl;have hy:=hgr.block H h3.row.lt<|λe=>absurd ((Ty.az hme e.symm).aF<|Ty.aB h3.row) K3;have g22:=(Xc hy).trans e22;have z22:=(Yv hy).trans<|h3.row.frozen 22;have HB3:=cV<|((cV<|HB.trans h2).aa.grown hgr h3.hb<|λk hk=>(hme.lt k hk).1).setCell (p:=⟨H,22,none⟩) hbb.2 v';obtain⟨av,cv,rfl⟩:=dt hby;obtain⟨au,cu,rfl⟩:=dt hme;generalize(R'.mem++List.replicate 32 (0:UInt8)).length=N2 at*;have HRUN:=cV hrun;clear h2 h3 h4 hme hby hgr hfr9 hy c22 c19 HD HB hrun;go_wp2_with(at_builtin;refine Lib.wpList_append_run _ rfl _ _ _ _ rfl _ _ rfl rfl _ _ HRUN ?_)
 go_roundg k
 case measure=>exact YS _
 case rel=>exact⟨_,HE2,HM2,HQ,HB3⟩
def Kq(s:BA)(p n j:Nat)(D:j<n):(dH s p n)[j]?=some ((bl s).getD (p+j) 0):=by
 unfold dH;have C:(bl s).length=s.size:=R5
 grind
def sK(s:BA)(p n:Nat)(V:p<=200000)(hn:n<=100000)(V:s.size<=100000)(w:WD):cP 181 #[.string s,iI (p:Int),iI (n:Int)] w (rT (.string<|dI<|dH s p n) w):=by
 have P:=oE n wq;let⟨r,O⟩:=dP<|dI<|dH s p n;rw[<-O.aa];have I:Hd _:=jk s p n;go_enter func181,ntmps181;go_wp2;go_loopw[8] (λH wr=>∃i:Nat,i<=n/\H=iI (i:Int)/\Hd (wr.rowIs w.heap.size 5 n<|λj=>if j<i then lJ ((bl s).getD (p+j) 0)else lJ 0)/\Hd (bW w wr)) (λH _=>n-nI H);case atStart=>exact⟨0,In _,W,(World.rowIs_made w _ n _).congr λj _=>R5,ai (dO _ _) _⟩
 obtain⟨i,V,rfl,D,G⟩:=hrel;have aZ:(n<=i\/s.size<=p+i)->Hd ((convert 26 9 _).run _ wr=.ok (.string r) wr):=λh=>by
  have V:Rds wr (sL w.heap.size n n) (dH s p n):=by
   refine⟨_,n,by rw[I.aa],by rw[I.aa];omega,λ_=>⟨_,_,W,D.lt,λj J=>?_⟩⟩;have C:j<n:=by rwa[<-I.aa]
   have L:=Kq s p n j C;rw[iN J]at L;rw[XF,D.aa.cell C,hV L];by_cases R:j<i
   .grind
   rw[iF R,If,Ym<|by grind[ik]];rfl
  rw[O.aa];exact V.bJ
 by_cases E:i<n;case neg=>have d:=dF<|(i:Int)<n;have U:=(aZ<|LZ wq).aa;go_wp2;go_ret;exact⟨W,G⟩
 have d:=dT<|(i:Int)<n;by_cases Q:p+i<s.size;case neg=>have d2:=dF<|p+(i:Int)<s.size;have U:=(aZ<|A4 wq).aa;go_wp2;go_ret;exact⟨W,G⟩
 have d2:=dT<|p+(i:Int)<s.size;have c:=D.aa.cell E;have f:=D.aa.frozen i;go_wp2;refine⟨⟨i+1,wq,N1,?_,G.setCell (DO _) _⟩,by grind[nI]⟩;refine(D.set i _).congr λj J=>?_;by_cases e:j=i
 .subst e;rw[At W,AV,If,iN<|by grind[ik]];rfl
 grind
def Ki{V:Nat}(u j:Nat)(G:b<256)(C:V%2^(8*(u+1))=0):cX (V+b*2^(8*u)) j=if j=u/8 then cX V j+((b*2^(8*(u%8)):Nat):Int)else cX V j:=by
 rw[E2 V b u j G C];by_cases h:j=u/8
 .rw[At h,At h];subst h;obtain⟨q,rfl⟩:=Nat.dvd_of_mod_eq_zero C;have e:2^(8*(u+1))*q/2^(64*(u/8))=2^(8*(u%8+1))*q:=by rw[(wq:8*(u+1)=64*(u/8)+8*(u%8+1)),Yw,ZC,Nat.mul_div_cancel_left _<|Yq _]
  have D:b*2^(8*(u%8))<18446744073709551616:=by have E:b*2^(8*(u%8))<=255*2^56:=Yx wq<|Yh wq wq;omega
  have H:2^(8*(u%8+1))*q%18446744073709551616%2^(8*(u%8+1))=0:=by rw[(by rw[<-Yw,show 8*(u%8+1)+(64-8*(u%8+1))=64 by omega]:18446744073709551616=2^(8*(u%8+1))*2^(64-8*(u%8+1)))];simp
  unfold cX;rw[e,Zv _ _ (Xs _ wq) D,<-Ja _ b _ G H];omega
 omega
def pD(s:BA)(c:s.size<=32)(w:WD):cP 180 #[.string s] w (rT (wv<|lK<|bl s) w):=by
 let⟨L,c⟩:=dP s.size;go_enter func180,ntmps180;go_wp2;go_loopw[4] (λt4 wr=>∃i:Nat,i<=s.size/\t4=iI (i:Int)/\wr.rowIs w.heap.size 24 4 (dz λ_=>0)/\wr.rowIs (w.heap.size+1) 24 4 (dz<|cX<|pj (bl s) i)/\bW w wr) (λt4 _=>s.size-nI t4);case atStart=>refine⟨0,wq,W,(de (λ_=>0) W W W W W).alloc _,?_,ai (ai (dO _ _) _) _⟩;rw[Ac];exact de _ K2 K3 K3 K3 K3
 obtain⟨i,c,rfl,H,C,G⟩:=hrel;by_cases D:i<s.size
 .obtain⟨u,hu⟩:∃u:Nat,s.size-1-i=(u:Int):=⟨s.size-1-i,wq⟩
  have X:i<(bl s).length:=by grind[ik]
  let⟨R,l⟩:=AC _ i u X (by grind[ik]);have O:=cV<|aIn R l;have f:u<32:=wq
  have U:=cV H;have I:=cV C;have V:=cV G;obtain⟨p,rfl⟩:=hJ wr;go_wp2;go_loopw[6,7] (λZ Q c=>∃j:Nat,j<=u%8/\Q=iI (j:Int)/\Z=iU ((2^(8*j):Nat):Int)/\Hd (c=p)) (λZ Q _=>u%8-nI Q);case atStart=>exact⟨0,In _,W,W,W⟩
  obtain⟨j,F,rfl,rfl,d⟩:=hrel;by_cases o:j<u%8
  .have d2:=dT<|(j:Int)<u%8;have K:2^(8*(j+1))=256*2^(8*j):=by rw[(wq:8*(j+1)=8+8*j),Yw]
   have c:2^(8*j)<=281474976710656:=by have:2^(8*j)<=2^48:=Yh wq wq;omega
   have HE:=cV K;generalize(2:Nat)^(8*j)=q at*;go_wp2;exact⟨⟨j+1,wq,N1,by rw[HE.aa];go_num,d⟩,by simp[nI];omega⟩
  cases(wq:j=u%8)
  have r:=d.aa;subst r;have d2:=dF<|((u%8:Nat):Int)<u%8;have c:(s[i]'D).toNat<256:=(s[i]'D).toNat_lt;have J:=cV<|λj=>Ki u j c O.2;have r:2^(8*(u%8))<=72057594037927936:=by have:2^(8*(u%8))<=2^56:=Yh wq wq;omega
  have E:Hd (pj _ _=pj _ i+(s[i]'D).toNat*2^(8*u)):=O.aa.1;generalize(2:Nat)^(8*(u%8))=q at*;generalize c:(s[i]'D).toNat=b at*;have T:q*b<=72057594037927936*255:=Yx r wq;let⟨m,Y⟩:=dP<|b*q;have c:q*(b:Int)=m:=by rw[Y.aa,YC,Int.natCast_mul]
  obtain⟨v9,z,g⟩:∃v9:Nat,cX (pj (bl s) i) (u/8)+m=v9/\Hd (cX (pj (bl s)<|i+1) (u/8)=v9/\v9<18446744073709551616):=by have P:=J.aa<|u/8;rw[At W,<-E.aa,<-Y.aa]at P;have N:=qP (pj (bl s)<|i+1)<|u/8;have c:=ud (pj (bl s)<|i+1)<|u/8;exact⟨(cX (pj (bl s)<|i+1)<|u/8).toNat,wq,wq,wq⟩
  have C:=I.aa;have S:=C.cell (i:=u/8) wq;have n:=C.frozen<|u/8;simp only[dz]at S;have y:u/8<4:=wq
  have A:=g.aa.2;generalize c:cX (pj (bl s) i) (u/8)=c at*;go_wp2;go_region;all_goals go_wp2
  refine⟨⟨i+1,wq,N1,(U.setOther K2 _).drew,?_,(V.setCell K2 _).drew⟩,by simp[nI];omega⟩;refine World.rowIs.drew<|(I.set _ _).congr λj F=>?_;show(if j=u/8 then _ else _)=_;simp only[dz];by_cases h:j=u/8
  .rw[At h,h,g.aa.1]
  have P:=J.aa j;rw[iF h,<-E.aa]at P;rw[iF h,P]
 cases(wq:i=s.size)
 rw[<-ik s,CK]at C;let⟨c,c1,c2,c3⟩:=cW C;obtain⟨⟨c,t,k,z3⟩,c,l⟩:=qN (lK<|bl s) H G;go_wp2;refine gY (l _ W).1 ⟨W,(l _ W).2⟩
def Lg(x:WD)(g o:Nat)(v:VL):x.grownBy (x.setCell ⟨g,o,none⟩ v) (some g):=⟨W,W,W,K2,λk _ D=>ZP _ _ _ _<|λe=>D<|by rw[e]⟩
def DA.byte{V:DV}(h:DA O H Y R X C V x)(Z:k<R.mem.length):∃g E c,cL x H 22 (sL g R.mem.length E)/\cL x g k c/\x.frozen? ⟨g,k,none⟩=false/\O<=g/\C.ownBlock=some g/\∀b:UInt8,DA O H Y {R with mem:=R.mem.set k b} X C V (x.setCell ⟨g,k,none⟩<|lJ b):=by
 have D:=h.me;obtain⟨g,E,rfl,I,P,L⟩:=fv D;have J:=XX D k wq;rw[Xu,iN Z]at J;refine⟨g,_,_,h.row.cell W,J,?_,I,W,λb=>?_⟩
 .rcases D.2 with⟨e,_⟩|⟨g',cap',cur,e,_,e3,_⟩
  .cases e
  injection e with e _ _;obtain rfl:g=g':=by injection e with e;injection e
  simp[World.frozen?,e3]
 let⟨Z,G,c,Q⟩:=h.mem0 (m:=R.mem) (mv':=.slice none 0 0)<|Lg x g k<|lJ b;have U:Bys (x.setCell ⟨g,k,none⟩<|lJ b) O (sL g R.mem.length E) (R.mem.set k b):=by grind[Bys,XE,List.map_set,Ec]
 exact⟨Z,G,U,c,h.tk,h.hf,by grind[World.setCell],h.gl,h.sl,by rw[XE];exact h.ml⟩
def gT(a:Nat)(s:BA)(R:RS):RS:={R with mem:=splice R.mem a<|bl s}
theorem UC{α:Type}(L:List α)(o:Nat)(l:List α)(h:o+l.length<=L.length)(j:Nat):(splice L o l)[j]?=if j<o then L[j]? else if j<o+l.length then l[j-o]? else L[j]? :=by grind[splice]
theorem sple{α:Type}{L:List α}{l:List α}(h:o+l.length<=L.length):(splice L o l).length=L.length:=by grind[splice]
def Dt{α:Type}{L:List α}(o i:Nat){l:List α}{hi:i<l.length}(h:o+l.length<=L.length):(splice L o<|l.take i).set (o+i) l[i]=splice L o (l.take<|i+1):=by
 have D:(l.take i).length=i:=K9
 have E:(l.take<|i+1).length=i+1:=K9
 refine List.ext_getElem? λj=>?_;grind[UC,sple,iN]
def Dwr(O H Y:Nat)(R:RS)(X C:VL)(V:DV)(x:WD)(e:Ending)(y:WD):=e=AG/\DA O H Y R X C V y/\Kb C.ownBlock.toList x y/\Below O x y
def IH{V:DV}(p:Nat)(s:BA)(h:DA O H Y R X C V x)(c:p+s.size<=R.mem.length):cP 184 #[pt H,iI (p:Int),.string s] x (Dwr O H Y (gT p s R) X C V x):=by
 have U:=h.ml;have t:=cV h;have G:∀i,i<=s.size->(splice _ p<|(bl s).take i).length=R.mem.length:=λi b=>sple K9;have L:=cV G;go_enter func184,ntmps184;go_wp2;go_loopw[6] (λP wr=>∃i:Nat,i<=s.size/\P=iI (i:Int)/\Hd (DA O H Y {R with mem:=splice R.mem p<|(bl s).take i} X C V wr)/\Hd (Kb C.ownBlock.toList x wr/\Below O x wr)) (λP _=>s.size-nI P);case atStart=>exact⟨0,In _,W,by rw[Y3,oS];omega,Kb.refl _ _,dO _ _⟩
 obtain⟨i,b,rfl,d,Q⟩:=hrel;by_cases j:i<s.size;case neg=>
  have HE:Hd (DA O H Y (gT p s R) X C V wr):=by have Z:=d.aa;rwa[(by grind[ik]:i=(bl s).length),ZK]at Z
  go_wp2;refine bI W W ⟨W,HE,Q⟩
 have f:=L.aa i b;obtain⟨g,E,b,J,b,n,y,T,z⟩:=d.aa.byte (k:=p+i) K9;replace J:cL wr H 22 (sL g R.mem.length E):=K9
 have S:i<(bl s).length:=by grind[ik]
 have A:Hd (DA O H Y {R with mem:=splice R.mem p<|(bl s).take<|i+1} X C V<|wr.setCell ⟨g,p+i,none⟩<|lJ (bl s)[i]):=by exact(Xl (λm=>DA _ H Y {R with mem:=m} X C V _)<|Dt p i<|by grind[ik]).mp<|z _
 have d2:=dT<|p+(i:Int)<R.mem.length;have I:Hd (Kb _ x (wr.setCell ⟨g,p+i,none⟩<|lJ (bl s)[i])/\Below _ x (wr.setCell ⟨g,p+i,none⟩<|lJ (bl s)[i])):=⟨Q.1.setCell (LZ K9) _,Q.2.setCell y _⟩
 let⟨N,D⟩:=dP R.mem.length;have K:p+s.size<=N:=by rwa[D.aa]
 have F:N<=65568:=by rwa[D.aa]
 rw[<-D.aa]at J d2;go_wp2;go_region;all_goals go_wp2
 exact⟨⟨_,wq,N1,A.below (dO _ _).drew,I.1.below (dO _ _).drew,I.2.drew⟩,by grind[nI]⟩
def wF(p:Nat)(s:BA)(h:DQ O H Y R l x)(J:p+s.size<=R.mem.length):cP 184 #[pt H,iI (p:Int),.string s] x (Dp O H Y (gT p s R) (.tuple #[]) l x):=by let⟨X,C,V,h,L⟩:=h;refine(IH p s h J).mono ?_;rintro e y⟨rfl,E,D,G⟩;exact⟨W,DQ.aX L E D (λk I=>A4<|A4<|A4<|LZ K9)<|λk J=>LZ J,G⟩
variable {c:Nat}{P P':RW}{V':DV}
def vu(Y:Nat)(V:DV)(k:Nat):=k=Y\/V.pv.ownBlock=some k\/V.lv.ownBlock=some k\/V.gv.ownBlock=some k\/∃t∈V.tv,t.ownBlock=some k
def WQ(O Y:Nat)(P:RW)(l:hZ)(x:WD):=∃V,DW O Y P V x/\(∀p∈l,rowL x p.1 p.2.1 p.2.2/\¬vu Y V p.1)/\(l.map (·.1)).Nodup/\O<=x.heap.size
def Wp(O Y:Nat)(P:RW)(v:VL)(l:hZ)(x:WD)(e:Ending)(y:WD):=e=.returned v/\WQ O Y P l y/\Below O x y
section
variable {T:Nat}{V:DV}
def DW.lt(h:DW O Y P V x)(E:vu Y V k):k<x.heap.size:=by
 have N:∀{b e size n:Nat}{v:VL}{C:List _},x.ownsRow b e size v n C->v.ownBlock=some k->k<x.heap.size:=λh E=>(h.lt k E).2;rcases E with rfl|E|E|E|⟨t,D,E⟩
 .exact h.row.lt
 .exact N h.pu E
 .exact N h.sl E
 .exact N h.lg E
 let⟨l,G⟩:=h.tm D;exact N G E
def DW.cB(h:DW O Y P V x)(J:Kb S x y)(G:∀k∈S,¬vu Y V k):DW O Y P V y:=by have C:∀{I e size n:Nat}{v:VL}{xs:List _},(∀k,v.ownBlock=some k->vu Y V k)->x.ownsRow I e size v n xs->y.ownsRow I e _ v n xs:=λI C=>J.aD C λk H D=>G k D<|I k H;refine⟨J.row h.row λD=>G _ D<|LZ W,C (λk e=>by simp[vu,e]) h.pu,C (λk e=>by simp[vu,e]) h.sl,C (λk e=>by simp[vu,e]) h.lg,h.tl,λi l t I E=>C (λk e=>?_)<|h.tp i l t I E,h.hb⟩;exact A4<|A4<|A4<|A4 ⟨t,Xe E,e⟩
def WQ.below(h:WQ O Y P l x)(D:bW x y):WQ O Y P l y:=by let⟨V,h,E,C,H⟩:=h;exact⟨V,h.cB (Kb.h (S:=[]) D) K2,λp G=>⟨(E p G).1.below D,(E p G).2⟩,C,By H D.size⟩
def WQ.box(h:WQ O Y P l x)(T:Nat)(cs:Tn):WQ O Y P ((x.heap.size,T,cs)::l) (x.alloc<|.cells cs.toArray T):=by
 have G:Below _ x (x.alloc<|.cells cs.toArray T):=ai (dO _ x) _;let⟨V,h,H,D,I⟩:=h;refine⟨V,h.cB (Kb.h (S:=[]) G) K2,λp E=>?_,X3.2 ⟨λC=>?_,D⟩,By I G.size⟩
 .rcases IF.1 E with rfl|E
  .exact⟨World.rowIs_alloc x _ T _<|λi I=>K9,λI=>absurd (h.lt I)<|Yg _⟩
  exact⟨(H p E).1.below G,(H p E).2⟩
 let⟨p,E,e⟩:=Xq.1 C;have:=World.rowIs.lt (H p E).1;grind
def WQ.aW(h:WQ O Y P l x)(E C D a3:VL):WQ O Y P ((x.heap.size,24,[E,C,D,a3])::l) (x.alloc<|.cells #[E,C,D,a3] 24):=h.box _ [E,C,D,a3]
def WQ.tail{p:Nat×Nat×Tn}(h:WQ O Y P (p::l) x):WQ O Y P l x:=by let⟨V,h,D,C,G⟩:=h;exact⟨V,h,λq E=>D q<|IN _ E,(X3.1 C).2,G⟩
def WQ.row(h:WQ O Y P ((b,T,cs)::l) x):rowL x b T cs:=by let⟨V,h,D,C⟩:=h;simp_all
def WQ.aJ{E C D a3:VL}(h:WQ O Y P ((b,24,[E,C,D,a3])::l) x):cL x b 0 E/\cL x b 1 C/\cL x b 2 D/\cL x b 3 a3/\∀i,x.frozen? ⟨b,i,none⟩=false:=⟨h.row.cell W,h.row.cell W,h.row.cell W,h.row.cell W,World.rowIs.frozen h.row⟩
def WQ.drop(h:WQ O Y P ((b,T,cs)::l) x)(H:Kb [b] x y):WQ O Y P l y:=by let⟨V,h,I,G,L⟩:=h;have J:=(I _ Xz).2;let⟨C,D⟩:=X3.1 G;exact⟨V,h.cB H<|λk E=>K9,λp J=>⟨H.row (I p<|IN _ J).1 λE=>C<|Xq.2 ⟨p,J,BY.1 E⟩,(I p<|IN _ J).2⟩,D,By L H.size⟩
theorem WQ.put(h:WQ O Y P ((b,24,cs)::l) x)(D:cs.length=4)(G:O<=b):WQ O Y P l (lp x b n)/\Below O x (lp x b n)/\(lp x b n).cell? ⟨b,0,none⟩=some (lu n 0)/\(lp x b n).cell? ⟨b,1,none⟩=some (lu n 1)/\(lp x b n).cell? ⟨b,2,none⟩=some (lu n 2)/\(lp x b n).cell? ⟨b,3,none⟩=some (lu n 3):=by have H:=h.row;unfold rowL at H;rw[D]at H;obtain⟨C,I,J,E⟩:=cW<|di H<|cX n;exact⟨h.drop<|we x b n,((((dO _ _).setCell G _).setCell G _).setCell G _).setCell G _,C,I,J,E⟩
theorem WQ.aX(E:(∀p∈l,rowL x p.1 p.2.1 p.2.2/\¬vu Y V p.1)/\(l.map (·.1)).Nodup)(h:DW O Y P' V' y)(I:Kb S x y)(D:∀k∈S,vu Y V k)(J:∀k,vu Y V' k->vu Y V k\/x.heap.size<=k)(H:O<=y.heap.size):WQ O Y P' l y:=⟨V',h,λp G=>⟨I.row (E.1 p G).1 λC=>(E.1 p G).2<|D _ C,λI=>(J _ I).elim (E.1 p G).2 λI=>by have:=World.rowIs.lt (E.1 p G).1;omega⟩,E.2,H⟩
end
theorem oW{α:Type}{f:α->Tn}{c:Nat}(C:∀a,(f a).length=c):∀(l:List α)(i:Nat)(h:i<l.length)(j:Nat),j<c->(l.flatMap f)[i*c+j]?=(f l[i])[j]?
 |a::r,0,h,j,hj=>K9
 |a::r,i+1,h,j,hj=>by have D:=oW C r i K9 j hj;grind
def Gi{x:WD}{O:Nat}{α:Type}{f:α->Tn}(E:∀a,(f a).length=c){l:List α}(h:x.ownsRow O e c (sL g l.length cp) l.length<|l.flatMap f)(hi:i<l.length)(C:j<c)(D:(f l[i])[j]?=some v):cL x g (i*c+j) v:=by
 have G:i*c+j<l.length*c:=by have:(i+1)*c<=l.length*c:=Yf _ hi;grind
 exact(XX h _ G).trans<|(oW E l i hi j C).trans D
variable {pu:List Pur}{sl:List Slt}
section
variable {V:DV}
def DW.ty(h:DW O Y P V x)(I:Kb S x y)(H:∀k∈S,Ty x k e):(146≠e->rowL y Y 146 [V.pv,V.lv,V.gv])/\(150≠e->y.ownsRow O 150 9 V.pv P.pu.length (P.pu.flatMap qX))/\(152≠e->y.ownsRow O 152 13 V.lv P.sl.length (P.sl.flatMap oj))/\(112≠e->y.ownsRow O 112 6 V.gv P.lg.length (qM P.lg V.tv))/\(24≠e->∀(i:Nat) l t,P.lg[i]?=some l->V.tv[i]?=some t->Wds y 0 t l.aM):=by have D:∀{b f size n:Nat}{v:VL}{xs:List _},f≠e->x.ownsRow b f _ v n xs->y.ownsRow b f size v n xs:=λC D=>I.aD D λk J E=>C<|(Ty.az D J).aF<|H k E;exact⟨λC=>I.row h.row λE=>C<|(Ty.aB h.row).aF<|H _ E,λC=>D C h.pu,λC=>D C h.sl,λC=>D C h.lg,λC i l t H G=>D C<|h.tp i l t H G⟩
def iM{o:Yt}(C:x.grownBy y o):Kb o.toList x y:=(Kb.refl _ _).grown C λk e=>LZ<|by simp[e]
def WQ.pu0(h:DW O Y P V x)(J:(∀p∈l,rowL x p.1 p.2.1 p.2.2/\¬vu Y V p.1)/\(l.map (·.1)).Nodup)(hb:O<=x.heap.size)(C:x.grownBy y V.pv.ownBlock)(L:y.ownsRow O 150 9 V.pv pu.length<|pu.flatMap qX):WQ O Y {P with pu:=pu} l y:=by let⟨G,_,I,E,H⟩:=h.ty (iM C) λk D=>Ty.az h.pu K9;exact WQ.aX J ⟨G K3,L,I K3,E K3,h.tl,H K3,h.hb⟩ (iM C) (λk D=>A4<|LZ K9) (λk J=>LZ J)<|By hb C.size
def WQ.sl0(h:DW O Y P V x)(J:(∀p∈l,rowL x p.1 p.2.1 p.2.2/\¬vu Y V p.1)/\(l.map (·.1)).Nodup)(hb:O<=x.heap.size)(C:x.grownBy y V.lv.ownBlock)(L:y.ownsRow O 152 13 V.lv sl.length<|sl.flatMap oj):WQ O Y {P with sl:=sl} l y:=by let⟨H,E,_,G,I⟩:=h.ty (iM C) λk D=>Ty.az h.sl K9;exact WQ.aX J ⟨H K3,E K3,L,G K3,h.tl,I K3,h.hb⟩ (iM C) (λk D=>A4<|A4<|LZ K9) (λk J=>LZ J)<|By hb C.size
def WQ.pu1(h:DW O Y P V x)(c:(∀p∈l,rowL x p.1 p.2.1 p.2.2/\¬vu Y V p.1)/\(l.map (·.1)).Nodup)(hb:O<=x.heap.size){m:List Pur}(I:x.grownBy y V.pv.ownBlock)(g:y.ownsRow O 150 9 v' m.length<|m.flatMap qX)(H:Fresh x V.pv v'):WQ O Y {P with pu:=m} l (y.setCell ⟨Y,0,none⟩ v'):=by
 let⟨R,Z,X,Q,U⟩:=h.ty (iM I) λk E=>Ty.az h.pu K9;have d:=R K3;have D:Kb [Y] y (y.setCell ⟨Y,0,none⟩ v'):=(Kb.refl _ _).setCell AI _;have C:∀{b f size n:Nat}{v:VL}{xs:List _},f≠146->y.ownsRow b f size v n xs->(y.setCell _ v').ownsRow b f _ v n xs:=λG C=>D.aD C λk hb E=>by rw[BY.1 E]at hb;exact G<|(Ty.az C hb).aF<|Ty.aB d
 refine WQ.aX (S:=Y::V.pv.ownBlock.toList) c (V':={V with pv:=v'}) ⟨(rowL.set d v'),C K3 g,C K3<|X K3,C K3<|Q K3,h.tl,λi l t c L=>C K3<|U K3 i l t c L,h.hb⟩ (((iM I).mono λi c=>IN _ c).trans D λi c=>LZ K9) (λk E=>?_) (λk c=>?_)<|by simpa[World.setCell]using By hb I.size
 .rcases IF.1 E with rfl|E
  .exact LZ W
  exact A4<|LZ K9
 rcases c with e|e|e
 .exact LZ (LZ e)
 .rcases H with J|J
  .exact LZ (A4<|LZ<|J▸e)
  grind
 exact LZ<|A4<|A4 e
def WQ.sl1(h:DW O Y P V x)(c:(∀p∈l,rowL x p.1 p.2.1 p.2.2/\¬vu Y V p.1)/\(l.map (·.1)).Nodup)(hb:O<=x.heap.size){m:List Slt}(I:x.grownBy y V.lv.ownBlock)(g:y.ownsRow O 152 13 v' m.length<|m.flatMap oj)(H:Fresh x V.lv v'):WQ O Y {P with sl:=m} l (y.setCell ⟨Y,1,none⟩ v'):=by
 let⟨U,L,Z,R,X⟩:=h.ty (iM I) λk E=>Ty.az h.sl K9;have d:=U K3;have D:Kb [Y] y (y.setCell ⟨Y,1,none⟩ v'):=(Kb.refl _ _).setCell AI _;have C:∀{b f size n:Nat}{v:VL}{xs:List _},f≠146->y.ownsRow b f size v n xs->(y.setCell _ v').ownsRow b f _ v n xs:=λG C=>D.aD C λk hb E=>by rw[BY.1 E]at hb;exact G<|(Ty.az C hb).aF<|Ty.aB d
 refine WQ.aX (S:=Y::V.lv.ownBlock.toList) c (V':={V with lv:=v'}) ⟨(rowL.set d v'),C K3<|L K3,C K3 g,C K3<|R K3,h.tl,λi l t c Q=>C K3<|X K3 i l t c Q,h.hb⟩ (((iM I).mono λi c=>IN _ c).trans D λi c=>LZ K9) (λk E=>?_) (λk c=>?_)<|by simpa[World.setCell]using By hb I.size
 .rcases IF.1 E with rfl|E
  .exact LZ W
  exact A4<|A4<|LZ K9
 rcases c with e|e|e|e
 .exact LZ (LZ e)
 .exact LZ (A4<|LZ e)
 .rcases H with J|J
  .exact LZ (A4<|A4<|LZ<|J▸e)
  grind
 exact LZ<|A4<|A4<|A4 e
end
end
section
variable {cs:Tn}
structure Rs where
 F:Nat->Prop
 I:X4
 lt:∀{x:WD}{k:Nat},I x->F k->k<x.heap.size
 fr:∀{x y:WD},I x->x.heap.size<=y.heap.size->(∀k,F k->y.heap[k]?=x.heap[k]?)->I y
structure Sep(O:Nat)(rs:List Rs)(x:WD):Prop where
 i:∀r∈rs,r.I x/\∀k,r.F k->O<=k
 p:rs.Pairwise λr s=>∀k,r.F k->¬s.F k
 s:O<=x.heap.size
section
variable {T:Nat}{r r' s t u:Rs}{rs q q':List Rs}
def Ty.lt{x:WD}{T:Nat}(h:Ty x k T):k<x.heap.size:=by let⟨cs,C,h⟩:=h;grind
def Sep.step(h:Sep O (q++rs) x)(H:∀r∈q',r.I y)(U:q'.Pairwise λr s=>∀k,r.F k->¬s.F k)(P:x.heap.size<=y.heap.size)(Q:∀k,k<x.heap.size->(∀r∈q,¬r.F k)->y.heap[k]?=x.heap[k]?)(hn:∀r∈q',∀k,r.F k->(∃s∈q,s.F k)\/x.heap.size<=k):Sep O (q'++rs) y:=by
 let⟨J,p2,G⟩:=XW.1 h.p;have D:∀s∈rs,s.I x:=λs P=>(h.i s<|Xn _ P).1;refine⟨λr L=>?_,XW.2 ⟨U,p2,λr L s P k C E=>?_⟩,By h.s P⟩
 .rcases Xr.1 L with L|L
  .refine⟨H r L,λk Q=>?_⟩;rcases hn r L k Q with⟨s,P,C⟩|C
   .exact(h.i s<|Xw _ P).2 k C
   exact By h.s C
  exact⟨r.fr (D r L) P λk C=>Q k (r.lt (D r L) C) λs P E=>G s P r L k E C,(h.i r<|Xn _ L).2⟩
 rcases hn r L k C with⟨t,L,L⟩|L
 .grind
 have:=s.lt (D s P) E;omega
def Sep.below(h:Sep O rs x)(C:bW x y):Sep O rs y:=Sep.step (q:=[]) (q':=[]) h (λ_ h=>by cases h) List.Pairwise.nil C.size (λk D _=>C.block k D)<|λ_ h=>by cases h
def Sep.drew(h:Sep O rs x):Sep O rs x.drew:=h.below (dO _ _).drew
def Sep.bh(h:Sep O rs x)(E:rs.Perm q):Sep O q x:=⟨λr G=>h.i r<|E.mem_iff.2 G,(E.pairwise_iff λh k D C=>h k C D).1 h.p,h.s⟩
def Sep.sw(h:Sep O (r::s::rs) x):Sep O (s::r::rs) x:=h.bh<|.swap _ _ _
def Sep.bG(h:Sep O (r::s::t::rs) x):Sep O (t::r::s::rs) x:=h.bh<|((List.Perm.swap t s rs).cons r).trans<|.swap t r _
def Sep.up4(h:Sep O (r::s::t::u::rs) x):Sep O (u::r::s::t::rs) x:=h.bh<|(((List.Perm.swap u t rs).cons s |>.trans (.swap u s _)).cons r).trans<|.swap u r _
def Sep.cD(h:Sep O (r::s::t::rs) x):Sep O (r::t::s::rs) x:=h.bh<|(List.Perm.swap t s rs).cons r
def Sep.tl(h:Sep O (r::rs) x):Sep O rs x:=⟨λs C=>h.i s<|IN _ C,(XT.1 h.p).2,h.s⟩
def Sep.hd(h:Sep O (r::rs) x):r.I x:=(h.i r Xz).1
def Sep.ge(h:Sep O (r::rs) x)(C:r.F k):O<=k:=(h.i r Xz).2 k C
def Sep.aF(h:Sep O (r::rs) x)(E:r'.I y)(G:x.heap.size<=y.heap.size)(H:∀k,k<x.heap.size->¬r.F k->y.heap[k]?=x.heap[k]?)(hn:∀k,r'.F k->r.F k\/x.heap.size<=k):Sep O (r'::rs) y:=Sep.step (q:=[r]) (q':=[r']) h (λs G=>K9) (XO _ _) G (λk C D=>H k C<|D r<|YL _) λs G k C=>K9
def Sep.new(h:Sep O rs x)(C:r.I y)(E:bW x y)(hn:∀k,r.F k->x.heap.size<=k):Sep O (r::rs) y:=Sep.step (q:=[]) (q':=[r]) h (λs H=>K9) (XO _ _) E.size (λk G _=>E.block k G) λs H k D=>K9
def Sep.kb(h:Sep O (r::rs) x)(D:r'.I y)(J:Kb S x y)(G:∀k∈S,r.F k)(hn:∀k,r'.F k->r.F k\/x.heap.size<=k):Sep O (r'::rs) y:=h.aF D J.size (λk H E=>J.block k H λC=>E<|G k C) hn
def Kb.bel(E:Kb S x y)(D:∀k∈S,O<=k)(G:O<=x.heap.size):Below O x y:=⟨E.os,E.tape,E.output,E.size,λk h=>E.block k (Xg h G) λC=>K9⟩
def gj(b T:Nat)(cs:Tn):Rs:=⟨λk=>k=b,λx=>rowL x b T cs,λh e=>e▸World.rowIs.lt h,λh _ he=>World.rowIs.of_block h<|he b rfl⟩
def rowL.al(x:WD)(cs:Tn)(T:Nat):rowL (x.alloc<|.cells cs.toArray T) x.heap.size T cs:=World.rowIs_alloc x cs.toArray T _<|λi C=>K9
def Sep.row(h:Sep O rs x)(cs:Tn)(T:Nat):Sep O (gj x.heap.size T cs::rs) (x.alloc<|.cells cs.toArray T):=h.new (rowL.al x cs T) (ai (dO _ x) _) λk e=>by rw[e];omega
theorem Sep.set(h:Sep O (gj b T cs::rs) x)(o:Nat)(v:VL):Sep O (gj b T (cs.set o v)::rs) (x.setCell ⟨b,o,none⟩ v)/\Below O x (x.setCell ⟨b,o,none⟩ v):=⟨h.kb (S:=[b]) (rowL.set h.hd v) ((Kb.refl _ _).setCell AI v) (λk C=>BY.1 C) λk C=>LZ C,(dO _ _).setCell (h.ge (k:=b) W) _⟩
def Sep.c(h:Sep O (gj b T cs::rs) x)(o:Nat)(e:cs[o]?=some v):cL x b o v:=rowL.cell h.hd e
def fp(e sz:Nat)(v:VL)(n:Nat)(xs:Tn):Rs:=⟨λk=>v.ownBlock=some k,λx=>x.ownsRow 0 e sz v n xs,λh hk=>(h.lt _ hk).2,λ{x y} h hs he=>by refine⟨h.1,h.2.imp id λ⟨g,E,cur,h1,h2,h3,h4⟩=>⟨g,E,cur,h1,h2,(he g (by rw[h1];rfl)).trans h3,h4⟩⟩⟩
end
variable {rs:List Rs}
def CF(t e sz by':Nat):=prog.underlying t=some (.slice e)/\0<sz/\∃i z,prog.info? e=some i/\i.zero=some z/\i.size=sz/\i.bytes=by'/\z.cells.size=sz
def Nw{t e sz by':Nat}{z:VL}(E:prog.underlying t=some (.slice e))(C:(prog.info? e).map (λi=>(i.zero,i.size,i.bytes))=some (some z,sz,by'))(G:z.cells.size=sz)(D:0<sz:=by decide):CF t e sz by':=by let⟨i,a,b,c,d⟩:=YI C;exact⟨E,D,i,z,a,b,c,d,G⟩
section
variable {news:Tn}
def Sep.grown(h:Sep O (fp e sz v n xs::rs) x)(E:y.ownsRow 0 e sz v' m ys)(G:x.grownBy y v.ownBlock)(I:Fresh x v v'):Sep O (fp e sz v' m ys::rs) y/\Below O x y:=by
 have H:=iM G;have D:∀k∈v.ownBlock.toList,v.ownBlock=some k:=λk H=>K9
 refine⟨h.kb E H D λk H=>?_,H.bel (λk H=>h.ge<|D k H) h.s⟩;rcases I with C|C
 .exact LZ (C.symm.trans H)
 exact A4<|C k H
def Sep.cC(h:Sep O (fp e sz v n xs::rs) x)(P:CF t e sz by')(a:Addr)(m c:Nat)(X:news.length=m*sz)(L:∀j u,news[j]?=some u->x.cell? (a.add j)=some u)(J:∀u∈news,u.oneCell'=true)(C:n+m<=maxLen)(U:(n+m)*by'<=140737488355328):∃v' y,(Builtin.append_ #[t,t] t #[v,.slice (some a) m c]).run prog x=.ok v' y/\Sep O (fp e sz v' (n+m) (xs++news)::rs) y/\Below O x y/\x.grownBy y v.ownBlock/\Fresh x v v':=by let⟨H,G,i,z,V,Z,Y,D,E⟩:=P;obtain⟨v',y,b,b,r3,I⟩:=fh x 0 t t e i z sz _ H V Z Y D E G v n xs h.hd a m c _ X L J C U<|In _;let⟨Q,R⟩:=h.grown b r3 I;grind
def Sep.ca(h:Sep O (fp e sz v n xs::rs) x)(H:CF t e sz by')(cs:Tn)(I:cs.length=sz)(E:∀u∈cs,u.oneCell'=true)(D:n+1<=maxLen)(I:(n+1)*by'<=140737488355328):∃v' y,(Builtin.append_ #[t,t] t #[v,sL x.heap.size 1 1]).run prog (x.alloc<|.cells cs.toArray e)=.ok v' y/\Sep O (fp e sz v' (n+1) (xs++cs)::rs) y/\Below O x y:=by have C:Below _ x (x.alloc<|.cells cs.toArray e):=ai (dO _ x) _;let⟨v',y,J,L,r3,_⟩:=(h.below C).cC H ⟨x.heap.size,0,none⟩ 1 1 wq (λj u G=>by rw[show(⟨_,0,_⟩:Addr).add j=⟨x.heap.size,j,none⟩ by simp[Addr.add,qag]];exact(rowL.al x cs e).cell G) E D I;exact⟨v',y,J,L,(C.mono h.s).trans r3⟩
def fH(h:x.ownsRow 0 e sz (.slice ad m cp) n xs)(i:Nat)(hi:i<n)(hz:0<sz:=by decide):m=n/\∃g,ad=some ⟨g,0,none⟩/\g<x.heap.size/\(∀j u,j<sz->xs[i*sz+j]?=some u->x.cell? ⟨g,i*sz+j,none⟩=some u)/\∀o,x.frozen? ⟨g,o,none⟩=false:=by
 rcases h.2 with⟨C,D⟩|⟨g,E,J,C,J,J,L,L,L,L⟩
 .omega
 .injection C with C D G
  subst C D G;refine⟨W,g,W,qaa J,λj u I H=>?_,λo=>by simp[World.frozen?,J]⟩
  have J:i*sz+j<m*sz:=by
   have:(i+1)*sz<=m*sz:=Yf _ hi;rw[YO]at this;omega
  rw[XX h _ J,H]
end
variable {P:RW}{l:hZ}
def Jy(p:Pur):(qX p).length=9:=rfl
def B9:(prog.info? 150).map (λi=>(i.zero,i.size,i.bytes))=some (some<|.agg #[iU 0,iU 0,iU 0,iU 0,iU 0,iU 0,iU 0,iU 0,.string ⟨#[]⟩],9,80):=N0
def CE(a:Nat)(l:List Pur):Yt:=l.findIdx? λp=>gN p.aj a
def ag(a:Nat)(P:RW):Nat×RW:=match CE a P.pu with
 |some i=>(i,P)
 |none=>(P.pu.length,{P with pu:=P.pu++[⟨a,0,⟨#[]⟩⟩]})
def WQ.ps(h:WQ O Y P l x)(hi:i<P.pu.length):∃g E,cL x Y 0 (sL g P.pu.length E)/\∀j v,j<9->(qX P.pu[i])[j]?=some v->cL x g (i*9+j) v:=by let⟨V,H,_⟩:=h;have G:=H.pu;let⟨g,E,e,_⟩:=fv G;rw[e]at G;refine⟨g,E,?_,λj v C D=>Gi Jy G hi C D⟩;rw[<-e];exact H.row.cell W
def qE(a:Nat)(h:WQ O Y P l x)(hn:P.pu.length<=1000000000:=by omega):cP 70 #[pt Y,wv a] x (Wp O Y (ag a P).2 (iI ((ag a P).1:Int)) l x):=by
 let⟨q,I⟩:=dP<|ag a P;rw[<-I.aa];have b:O<=x.heap.size:=by let⟨_,_,_,_,c⟩:=h;exact c
 have X:=cV<|h.aW (lu a 0) (lu a 1) (lu a 2)<|lu a 3;have K:Hd (Below O x<|x.alloc<|wc a):=(ai (dO _ x) _).mono b;let⟨N,Q⟩:=dP P.pu.length;have hN:N<=1000000000:=by rw[Q.aa];exact hn
 clear h hn;go_enter func70,ntmps70;go_wp2;go_loopw[5] (λt5 wr=>∃i:Nat,i<=N/\t5=iI (i:Int)/\Hd (∀j (Z:j<P.pu.length),j<i->gN P.pu[j].aj a=false)/\Hd (WQ O Y P ((x.heap.size,24,[lu a 0,lu a 1,lu a 2,lu a 3])::l) wr)/\Hd (Below O x wr)) (λt5 _=>N-nI t5);case atStart=>exact⟨0,In _,W,λj Z h=>absurd h<|Nat.not_lt_zero _,X,K⟩
 clear X K;obtain⟨i,b,rfl,R,X,r⟩:=hrel;obtain⟨b,b,b2,b3,_⟩:=X.aa.aJ;by_cases b:i<N
 .have d:=dN i N;have c:i<P.pu.length:=by rwa[<-Q.aa]
  let⟨g,E,c0,b⟩:=X.aa.ps c;rw[<-Q.aa]at c0;let⟨T,C⟩:=dP<|P.pu[i].aj;have v:cL wr g (i*9) (lu T 0):=by rw[C.aa];exact b 0 _ wq W
  have v:cL wr g (i*9+1) (lu T 1):=by rw[C.aa];exact b 1 _ wq W
  have v:cL wr g (i*9+2) (lu T 2):=by rw[C.aa];exact b 2 _ wq W
  have a3:cL wr g (i*9+3) (lu T 3):=by rw[C.aa];exact b 3 _ wq W
  obtain⟨bE,m⟩:∃bE,gN T a=bE:=⟨_,W⟩
  have v:∀w,(Op.equalIn 10000 24 (wv T)<|wv a).run prog w=.ok bE w:=λw=>by rw[ig,m]
  have a4:Hd (gN P.pu[i].aj a=bE):=cV (by rw[<-C.aa];exact m);clear b m;cases bE
  .go_wp2;go_quiet (fail);go_wp2;refine⟨⟨i+1,wq,N1,λj Z h=>?_,X.below<|A2 (dO _ _) _,A2 r _⟩,by simp[nI];omega⟩;by_cases e:j=i
   .subst e;exact a4
   exact R j Z wq
  have b:q=(i,P):=I.aa.trans (by
   have:CE a P.pu=some i:=by unfold CE;rw[YE];exact⟨c,a4,λj Z=>by rw[R.aa j wq Z];exact YX⟩
   unfold ag;rw[this])
  subst b;clear I;go_wp2;go_quiet (fail);go_wp2;go_ret;exact⟨W,(X.below<|A2 (dO _ _) _).tail,A2 r _⟩
 have d:=dG i N;have b:q=(P.pu.length,{P with pu:=P.pu++[⟨a,0,⟨#[]⟩⟩]}):=I.aa.trans (by
  have:CE a P.pu=none:=by unfold CE;rw[Y9];intro p c;obtain⟨j,Z,rfl⟩:=XU c;exact R j Z (by rw[<-Q.aa]at Z;omega)
  unfold ag;rw[this])
 subst b;let⟨V,b,f,s,hb⟩:=X.aa;have G:bW wr (wr.drew.alloc<|.cells #[lu a 0,lu a 1,lu a 2,lu a 3,iU 0,iU 0,iU 0,iU 0,.string ⟨#[]⟩] 150):=ai (dO _ wr).drew _;have t:=b.cB (Kb.h (S:=[]) G) K2;have HL:Hd ((∀p∈l,rowL (wr.drew.alloc<|.cells #[lu a 0,lu a 1,lu a 2,lu a 3,iU 0,iU 0,iU 0,iU 0,.string ⟨#[]⟩] 150) p.1 p.2.1 p.2.2/\¬vu Y V p.1)/\(l.map (·.1)).Nodup):=⟨λp c=>⟨(f p<|IN _ c).1.below G,(f p<|IN _ c).2⟩,(X3.1 s).2⟩
 obtain⟨c,c,c,c⟩:=V;dsimp only at*;obtain⟨c,q,rfl⟩:=dt b.pu;have c0:cL wr Y 0 (.slice c P.pu.length q):=b.row.cell W;have c1:(wr.alloc<|.cells #[lu a 0,lu a 1,lu a 2,lu a 3,iU 0,iU 0,iU 0,iU 0,.string ⟨#[]⟩] 150).cell? ⟨Y,0,none⟩=some (.slice c P.pu.length q):=(b.row.below<|ai (dO _ wr) _).cell W;let⟨i0,J,D,L,H⟩:=YI B9;have HI:=cV<|aIn J<|aIn D<|aIn L H;have HLC:Hd (∀j u,[lu a 0,lu a 1,lu a 2,lu a 3,iU 0,iU 0,iU 0,iU 0,.string ⟨#[]⟩][j]?=some u->(wr.drew.alloc<|.cells #[lu a 0,lu a 1,lu a 2,lu a 3,iU 0,iU 0,iU 0,iU 0,.string ⟨#[]⟩] 150).cell? ((⟨wr.heap.size,0,none⟩:Addr).add j)=some u):=fJ wr.drew _ _;have U:=cV t;have v:Hd (Below O x<|wr.drew.alloc<|.cells #[lu a 0,lu a 1,lu a 2,lu a 3,iU 0,iU 0,iU 0,iU 0,.string ⟨#[]⟩] 150):=r.aa.trans<|G.mono hb;have o:=cV<|By hb G.size;have r:Hd (qX ⟨a,0,⟨#[]⟩⟩=[lu a 0,lu a 1,lu a 2,lu a 3,iU 0,iU 0,iU 0,iU 0,.string ⟨#[]⟩]):=by show _=_;unfold qX wl;simp only[dK];rfl
 rw[<-Q.aa]at c0 c1;have hpl:P.pu.length<=1000000000:=by rw[<-Q.aa];exact hN
 clear b t f s G J D L H X I R;go_wp2
 go_region_law (let⟨J,D,L,H⟩:=HI.aa;refine iJ W (.tmp 30) (.tmp 33) 143 W O 150 i0 (.agg #[iU 0,iU 0,iU 0,iU 0,iU 0,iU 0,iU 0,iU 0,.string ⟨#[]⟩]) 9 80 N0 J D L H W K3 (.slice c P.pu.length q) P.pu.length (P.pu.flatMap qX) (by rw[<-Q.aa];rfl) U.pu ⟨wr.heap.size,0,none⟩ 1 1 [lu a 0,lu a 1,lu a 2,lu a 3,iU 0,iU 0,iU 0,iU 0,.string ⟨#[]⟩] W W HLC (by intro u b;simp at b;rcases b with rfl|rfl|rfl|rfl|rfl|rfl<;>rfl) (by unfold maxLen;rw[<-Q.aa];omega) (by rw[<-Q.aa];omega) o ?_;intro b y F A a5;obtain⟨g',n,rfl,hg1,hg2,hg3⟩:=fv F;have hy:=A.block Y U.row.lt<|λe=>absurd ((Ty.az U.pu e.symm).aF<|Ty.aB U.row) K3;have b:cL y Y 0 (.slice c N q):=(Xc hy).trans (by rw[Q.aa];exact U.row.cell W);have b:y.frozen? ⟨Y,0,none⟩=false:=(Yv hy).trans<|U.row.frozen 0;have q:=cV F;have c:=cV A;have b:=cV a5;clear a5 F A hy hg1 hg2 hg3 J D L H)
 all_goals go_wp2
 all_goals go_ret
 all_goals(
  have F:y.ownsRow O 150 9 (sL g' (P.pu.length+1) n) (P.pu++[(⟨a,0,⟨#[]⟩⟩:Pur)]).length ((P.pu++[(⟨a,0,⟨#[]⟩⟩:Pur)]).flatMap qX):=by rwa[Xm,Zi,Z3,List.flatMap_nil,YQ,r.aa]
  have q:=WQ.pu1 U HL o c F b;exact⟨Xl (λz=>Ending.returned<|iI z) wq,q,(v.grown c o<|λk b=>(U.pu.lt k b).1).setCell U.hb _⟩)
def Im(s:Slt):(oj s).length=13:=rfl
def ly(br:Bool)(a k:Nat)(s:Slt):Bool:=(s.br==br)&&(gN s.aj a&&gN s.key k)
def fu(br:Bool)(a k:Nat)(P:RW):Nat:=match P.sl.find? (ly br a k)with
 |some s=>s.val
 |none=>0
def WQ.ss(h:WQ O Y P l x):∃C E,cL x Y 1 (.slice C P.sl.length E)/\∀i (Z:i<P.sl.length),∃g,C=some ⟨g,0,none⟩/\∀j v,j<13->(oj P.sl[i])[j]?=some v->cL x g (i*13+j) v:=by
 let⟨V,X,_⟩:=h;have U:=X.sl;let⟨C,E,e⟩:=dt U;refine⟨C,E,?_,λi Z=>?_⟩
 .rw[<-e];exact X.row.cell W
 let⟨g,D,G,_⟩:=fv U;rw[e]at G;injection G with H Q I;subst H I;rw[e]at U;exact⟨g,W,λj v J L=>Gi Im U Z J L⟩
def slot_W(q:Bool)(a k:Nat)(h:WQ O Y P l x)(hn:P.sl.length<=1000000000):cP 185 #[pt Y,.bool q,wv a,wv k] x (Wp O Y P (wv<|fu q a k P) l x):=by
 let⟨tr,I⟩:=dP<|fu q a k P;rw[<-I.aa];have hbs:O<=x.heap.size:=by let⟨_,_,_,_,c⟩:=h;exact c
 have Q:=cV<|((h.aW (lu a 0) (lu a 1) (lu a 2)<|lu a 3).aW (lu k 0) (lu k 1) (lu k 2)<|lu k 3).aW (iU 0) (iU 0) (iU 0)<|iU 0;have y:Hd (Below O x<|((x.alloc<|wc a).alloc<|wc k).alloc<|.cells #[iU 0,iU 0,iU 0,iU 0] 24):=(ai (ai (ai (dO _ x) _) _) _).mono hbs;let⟨N,HN⟩:=dP P.sl.length;have hN:N<=1000000000:=by rw[HN.aa];exact hn
 clear h hn;go_enter func185,ntmps185;go_wp2;rw[show(x.alloc<|.cells #[lu a 0,lu a 1,lu a 2,lu a 3] 24).heap.size=x.heap.size+1 by simp,show((x.alloc<|.cells #[lu a 0,lu a 1,lu a 2,lu a 3] 24).alloc<|.cells #[lu k 0,lu k 1,lu k 2,lu k 3] 24).heap.size=x.heap.size+2 by simp]at Q;go_loopw[9] (λt9 wr=>∃i:Nat,i<=N/\t9=iI (i:Int)/\Hd (∀s∈P.sl.take i,ly q a k s=false)/\Hd (WQ O Y P ((x.heap.size+2,24,[iU 0,iU 0,iU 0,iU 0])::(x.heap.size+1,24,[lu k 0,lu k 1,lu k 2,lu k 3])::(x.heap.size,24,[lu a 0,lu a 1,lu a 2,lu a 3])::l) wr)/\Hd (Below O x wr)) (λt9 _=>N-nI t9);case atStart=>exact⟨0,In _,W,by intro s u;simp at u,Q,y⟩
 clear Q y;obtain⟨i,hi,rfl,H,Q,HB⟩:=hrel;let⟨ad,E,c1,V⟩:=Q.aa.ss;rw[<-HN.aa]at c1;by_cases hlt:i<N
 .have d:=dN i N;have m:i<P.sl.length:=by rw[<-HN.aa];exact hlt
  obtain⟨g,rfl,hc⟩:=V i m;obtain⟨s9,L⟩:∃s9,Hd (s9=P.sl[i]):=⟨P.sl[i],cV W⟩
  have T:ly q a k P.sl[i]=ly q a k s9:=by rw[L.aa]
  rw[<-L.aa]at hc;let⟨D,G,v9,p⟩:=s9;have q0a:=AE hc;simp only[A3,A0,oj,wl,XN,XG,Nat.reduceAdd]at q0a;have J:Hd (WQ O Y P ((wr.heap.size,152,oj ⟨D,G,v9,p⟩)::(x.heap.size+2,24,[iU 0,iU 0,iU 0,iU 0])::(x.heap.size+1,24,[lu k 0,lu k 1,lu k 2,lu k 3])::(x.heap.size,24,[lu a 0,lu a 1,lu a 2,lu a 3])::l)<|wr.alloc<|.cells #[lu D 0,lu D 1,lu D 2,lu D 3,lu G 0,lu G 1,lu G 2,lu G 3,lu v9 0,lu v9 1,lu v9 2,lu v9 3,.bool p] 152):=Q.aa.box 152<|oj ⟨D,G,v9,p⟩;have R:Hd (Below O x<|wr.alloc<|.cells #[lu D 0,lu D 1,lu D 2,lu D 3,lu G 0,lu G 1,lu G 2,lu G 3,lu v9 0,lu v9 1,lu v9 2,lu v9 3,.bool p] 152):=HB.aa.trans ((ai (dO _ _) _).mono (by let⟨_,_,_,_,c⟩:=Q.aa;exact c));let⟨z0,z1,z2,z3,fz⟩:=J.aa.tail.aJ;let⟨k0,k1,k2,k3,_⟩:=J.aa.tail.tail.aJ;let⟨a0,a1,a2,a3,_⟩:=J.aa.tail.tail.tail.aJ;have HP:=cV<|J.tail.put (n:=v9) W wq;obtain⟨o,aA⟩:∃b,(p==q)=b:=⟨_,W⟩
  obtain⟨b2,X⟩:∃b,gN D a=b:=⟨_,W⟩
  obtain⟨b3,Z⟩:∃b,gN G k=b:=⟨_,W⟩
  have he2:∀w,(Op.equalIn 10000 24 (wv D)<|wv a).run prog w=.ok b2 w:=λw=>by rw[ig,X]
  have he3:∀w,(Op.equalIn 10000 24 (wv G)<|wv k).run prog w=.ok b3 w:=λw=>by rw[ig,Z]
  have U:Hd (ly q a k P.sl[i]=(o&&(b2&&b3))):=cV (by rw[<-L.aa];show((p==q)&&(gN D a&&gN G k))=_;rw[aA,X,Z]);have f:Hd (P.sl[i].val=v9):=cV (by rw[<-L.aa]);clear hc V T X Z L Q HB;by_cases C:(o&&(b2&&b3))=true
  .have ht:tr=v9:=I.aa.trans (by
    have hf:P.sl.find? (ly q a k)=some P.sl[i]:=by rw[List.find?_eq_some_iff_getElem];refine⟨U.trans C,i,m,W,λj hj=>?_⟩;rw[H.aa P.sl[j]<|List.mem_take_iff_getElem.2 ⟨j,wq,W⟩];rfl
    unfold fu;rw[hf];exact f)
   subst ht;obtain⟨rfl,F⟩:=ZA.1 C;obtain⟨rfl,rfl⟩:=ZA.1 F;clear C F I H U f;go_wp2;let⟨w1,w2,A,K,t,S⟩:=HP.aa;unfold lp at A K t S;refine sp (v:=wv tr) (by simp[results,results185,go_sem,A,K,t,S]) W ⟨W,w1.tail.tail,R.trans w2⟩
  have HNE:Hd (ly q a k P.sl[i]=false):=cV (by rw[U.aa];simpa using C);clear U HP f;have dn:o=false\/o=true/\b2=false\/o=true/\b2=true/\b3=false:=by revert C;cases o<;>cases b2<;>cases b3<;>simp
  clear C;rcases dn with rfl|⟨rfl,rfl⟩|⟨rfl,rfl,rfl⟩;all_goals
   go_wp2;refine⟨⟨i+1,wq,N1,λs u=>?_,J.tail,R⟩,by simp[nI];omega⟩;rw[XR m]at u;rcases Xr.1 u with u|u
   .exact H s u
   rw[BY.1 u];exact HNE
 have d:=dG i N;have ht:tr=0:=I.aa.trans (by
  have hf:P.sl.find? (ly q a k)=none:=by rw[Zn];intro s u;rw[H.aa s (by rw[XA (by rw[<-HN.aa];omega)];exact u)];exact YX
  unfold fu;rw[hf])
 subst ht;clear V I H;go_wp2_with fail
 refine(dx 0 K3 _).mono ?_;rintro e z⟨r,HR,rfl,hz⟩;have HZ:=cV<|Q.below hz;have HP:=cV<|HZ.put (n:=r) W wq;have R:=cV (HB.trans<|hz.mono (by let⟨_,_,_,_,c⟩:=Q.aa;exact c));let⟨z0,z1,z2,z3,fz⟩:=HZ.aa.aJ;clear hz Q HZ HB;go_wp2;let⟨w1,w2,A,K,t,S⟩:=HP.aa;unfold lp at A K t S;refine sp (v:=wv r) (by simp[results,results185,go_sem,A,K,t,S]) W ⟨by rw[HR.aa],w1.tail.tail,R.trans w2⟩
theorem zx(C:Tn):∀(D A:Tn)(o:Nat),o+D.length<=A.length->pm (A++C) o D=pm A o D++C
 |[],A,o,_=>rfl
 |v::D,A,o,h=>by have h:o+(D.length+1)<=A.length:=h;show pm ((A++C).set o v) (o+1) D=pm (A.set o v) (o+1) D++C;rw[List.set_append_left _ _ wq];exact zx C D (A.set o v) (o+1) (by rw[XE];omega)
theorem xv(A:Tn):∀(D C:Tn)(o:Nat),pm (A++C) (A.length+o) D=A++pm C o D
 |[],C,o=>rfl
 |v::D,C,o=>by show pm ((A++C).set (A.length+o) v) (A.length+o+1) D=A++pm (C.set o v) (o+1) D;rw[List.set_append_right _ _ wq,(wq:A.length+o-A.length=o),ZB];exact xv A D (C.set o v)<|o+1
theorem Gw{α:Type}{f:α->Tn}{c o:Nat}{vs:Tn}(C:∀a,(f a).length=c)(D:o+vs.length<=c){a':α}:∀(l:List α)(i:Nat)(h:i<l.length),f a'=pm (f l[i]) o vs->pm (l.flatMap f) (i*c+o) vs=(l.set i a').flatMap f
 |a::r,0,h,e=>by show pm (f a++r.flatMap f) (0*c+o) vs=f a'++r.flatMap f;rw[YB,XF,zx _ _ _ _ (by rw[C];exact D),e];rfl
 |a::r,i+1,h,e=>by have E:=Gw C D r i (by simpa using h) e;show pm (f a++r.flatMap f) ((i+1)*c+o) vs=f a++(r.set i a').flatMap f;rw[<-E,show(i+1)*c+o=(f a).length+(i*c+o) by rw[C,YO];omega,xv]
def wS:(prog.info? 152).map (λi=>(i.zero,i.size,i.bytes))=some (some<|.agg #[iU 0,iU 0,iU 0,iU 0,iU 0,iU 0,iU 0,iU 0,iU 0,iU 0,iU 0,iU 0,.bool false],13,104):=N0
def mT(br:Bool)(a k v:Nat)(P:RW):RW:=match P.sl.findIdx? (ly br a k)with
 |some i=>{P with sl:=P.sl.set i {P.sl.getD i ⟨0,0,0,false⟩with val:=v}}
 |none=>{P with sl:=P.sl++[⟨a,k,v,br⟩]}
def put_W(r:Bool)(a k v:Nat)(h:WQ O Y P l x)(hn:P.sl.length<=1000000000):cP 186 #[pt Y,.bool r,wv a,wv k,wv v] x (Wp O Y (mT r a k v P) (.tuple #[]) l x):=by
 let⟨tr,K⟩:=dP<|mT r a k v P;rw[<-K.aa];have c:O<=x.heap.size:=by let⟨_,_,_,_,h9⟩:=h;exact h9
 have U:=cV<|((h.aW (lu a 0) (lu a 1) (lu a 2)<|lu a 3).aW (lu k 0) (lu k 1) (lu k 2)<|lu k 3).aW (lu v 0) (lu v 1) (lu v 2)<|lu v 3;have b9:Hd (Below O x<|((x.alloc<|wc a).alloc<|wc k).alloc<|wc v):=(ai (ai (ai (dO _ x) _) _) _).mono c;let⟨N,X⟩:=dP P.sl.length;have hN:N<=1000000000:=by rw[X.aa];exact hn
 clear h hn;go_enter func186,ntmps186;go_wp2;rw[show(x.alloc<|.cells #[lu a 0,lu a 1,lu a 2,lu a 3] 24).heap.size=x.heap.size+1 by simp,show((x.alloc<|.cells #[lu a 0,lu a 1,lu a 2,lu a 3] 24).alloc<|.cells #[lu k 0,lu k 1,lu k 2,lu k 3] 24).heap.size=x.heap.size+2 by simp]at U;go_loopw[10] (λc wr=>∃i:Nat,i<=N/\c=iI (i:Int)/\Hd (∀s∈P.sl.take i,ly r a k s=false)/\Hd (WQ O Y P ((x.heap.size+2,24,[lu v 0,lu v 1,lu v 2,lu v 3])::(x.heap.size+1,24,[lu k 0,lu k 1,lu k 2,lu k 3])::(x.heap.size,24,[lu a 0,lu a 1,lu a 2,lu a 3])::l) wr)/\Hd (Below O x wr)) (λc _=>N-nI c);case atStart=>exact⟨0,In _,W,by intro s c;simp at c,U,b9⟩
 clear U b9;obtain⟨i,hi,rfl,f,U,HB⟩:=hrel;by_cases hlt:i<N
 .obtain⟨ad,E,c1,c9⟩:=U.aa.ss;rw[<-X.aa]at c1;have d:=dN i N;have R:i<P.sl.length:=by rw[<-X.aa];exact hlt
  obtain⟨g,rfl,hc⟩:=c9 i R;obtain⟨s9,n⟩:∃s9,Hd (s9=P.sl[i]):=⟨P.sl[i],cV W⟩
  rw[<-n.aa]at hc;let⟨C,D,v9,J⟩:=s9;have qa:=AE hc;simp only[A3,A0,oj,wl,XN,XG,Nat.reduceAdd]at qa;obtain⟨q0,q1,q2,q3,q4,q5,q6,q7,q8,q9,q10,q11,q12, -⟩:=qa;have Q:Hd (WQ O Y P ((wr.heap.size,152,oj ⟨C,D,v9,J⟩)::(x.heap.size+2,24,[lu v 0,lu v 1,lu v 2,lu v 3])::(x.heap.size+1,24,[lu k 0,lu k 1,lu k 2,lu k 3])::(x.heap.size,24,[lu a 0,lu a 1,lu a 2,lu a 3])::l)<|wr.alloc<|.cells #[lu C 0,lu C 1,lu C 2,lu C 3,lu D 0,lu D 1,lu D 2,lu D 3,lu v9 0,lu v9 1,lu v9 2,lu v9 3,.bool J] 152):=U.aa.box 152<|oj ⟨C,D,v9,J⟩;have z:Hd (Below O x<|wr.alloc<|.cells #[lu C 0,lu C 1,lu C 2,lu C 3,lu D 0,lu D 1,lu D 2,lu D 3,lu v9 0,lu v9 1,lu v9 2,lu v9 3,.bool J] 152):=HB.aa.trans ((ai (dO _ _) _).mono (by let⟨_,_,_,_,h9⟩:=U.aa;exact h9));let⟨z0,z1,z2,z3,_⟩:=Q.aa.tail.aJ;let⟨k0,k1,k2,k3,_⟩:=Q.aa.tail.tail.aJ;let⟨a0,a1,a2,a3,_⟩:=Q.aa.tail.tail.tail.aJ;obtain⟨b1,aA⟩:∃b,(J==r)=b:=⟨_,W⟩
  obtain⟨b2,H⟩:∃b,gN C a=b:=⟨_,W⟩
  obtain⟨b3,b0⟩:∃b,gN D k=b:=⟨_,W⟩
  have he2:∀w,(Op.equalIn 10000 24 (wv C)<|wv a).run prog w=.ok b2 w:=λw=>by rw[ig,H]
  have he3:∀w,(Op.equalIn 10000 24 (wv D)<|wv k).run prog w=.ok b3 w:=λw=>by rw[ig,b0]
  have a5:Hd (ly r a k P.sl[i]=(b1&&(b2&&b3))):=cV (by rw[<-n.aa];show((J==r)&&(gN C a&&gN D k))=_;rw[aA,H,b0]);clear hc c9 H b0 U HB;by_cases G:(b1&&(b2&&b3))=true
  .have ht:tr={P with sl:=P.sl.set i ⟨C,D,v,J⟩}:=K.aa.trans (by
    have hf:P.sl.findIdx? (ly r a k)=some i:=by rw[YE];exact⟨R,a5.trans G,λj hj=>by rw[f.aa P.sl[j]<|List.mem_take_iff_getElem.2 ⟨j,wq,W⟩];exact YX⟩
    unfold mT;rw[hf];show({P with sl:=P.sl.set i {P.sl.getD i ⟨0,0,0,false⟩with val:=v}}:RW)=_;rw[If,iN R];show({P with sl:=P.sl.set i {P.sl[i]with val:=v}}:RW)=_;rw[<-n.aa])
   subst ht;obtain⟨rfl,d1⟩:=ZA.1 G;obtain⟨rfl,rfl⟩:=ZA.1 d1;let⟨V,hd,L,A,hb⟩:=Q.aa.tail.tail.tail.tail;have m:=hd.sl;let⟨g',a7,e',a4,b6,a9⟩:=fv m;have I:=hd.row.cell (i:=1) W;have hc9:(wr.alloc<|.cells #[lu C 0,lu C 1,lu C 2,lu C 3,lu D 0,lu D 1,lu D 2,lu D 3,lu v9 0,lu v9 1,lu v9 2,lu v9 3,.bool J] 152).cell? ⟨Y,1,none⟩=some (sL g N E):=((ai (dO _ _) _:bW wr _).cell<|by exact(Yb _ _ c1)).trans c1;rw[hc9]at I;have ev:=hV I;rw[<-ev,X.aa]at m;have t:=sO (wl v) (i*13+8) m (by show i*13+8+4<=P.sl.length*13;omega);rw[Gw (o:=8) (vs:=wl v) (a':=⟨C,D,v,J⟩) Im (by show 8+4<=13;omega) P.sl i R (by rw[<-n.aa];rfl)]at t;have HW:Hd (WQ O Y {P with sl:=P.sl.set i ⟨C,D,v,J⟩} l<|(wr.alloc<|.cells #[lu C 0,lu C 1,lu C 2,lu C 3,lu D 0,lu D 1,lu D 2,lu D 3,lu v9 0,lu v9 1,lu v9 2,lu v9 3,.bool J] 152).setCells g (i*13+8)<|wl v):=by
    refine WQ.sl0 hd ⟨L,A⟩ hb (sl:=P.sl.set i ⟨C,D,v,J⟩) ?_ ?_
    .rw[<-ev];refine⟨W,W,W,?_,λq hq hne=>?_⟩
     .exact(Kb.setCells g AI (wl v) _<|Kb.refl [g] _).size
     exact(Kb.setCells g AI (wl v) _<|Kb.refl [g] _).block q hq<|λhm=>hne (by rw[BY.1 hm];rfl)
    rwa[<-ev,XE,X.aa]
   have HB3:Hd (Below O x<|(wr.alloc<|.cells #[lu C 0,lu C 1,lu C 2,lu C 3,lu D 0,lu D 1,lu D 2,lu D 3,lu v9 0,lu v9 1,lu v9 2,lu v9 3,.bool J] 152).setCells g (i*13+8)<|wl v):=by
    have a6:O<=g:=by rw[e']at ev;injection ev with e1 _ _;injection e1 with e1;injection e1 with e1;rw[e1];exact a4
    exact(((z.setCell (p:=⟨g,i*13+8,none⟩) a6 _).setCell (p:=⟨g,i*13+8+1,none⟩) a6 _).setCell (p:=⟨g,i*13+8+1+1,none⟩) a6 _).setCell (p:=⟨g,i*13+8+1+1+1,none⟩) a6 _
   have hfz:∀o,(wr.alloc<|.cells #[lu C 0,lu C 1,lu C 2,lu C 3,lu D 0,lu D 1,lu D 2,lu D 3,lu v9 0,lu v9 1,lu v9 2,lu v9 3,.bool J] 152).frozen? ⟨g,o,none⟩=false:=λo=>by
    rcases m.2 with⟨e,_⟩|⟨g9,cp9,cur,e,_,e3,_⟩
    .cases e
    injection e with e _ _;obtain rfl:g=g9:=by injection e with e;injection e
    simp only[World.frozen?,e3];simp
   have c8:g<wr.heap.size:=Yb _ _ q0;have ya:∀o u,cL wr g o u->(wr.alloc<|.cells #[lu C 0,lu C 1,lu C 2,lu C 3,lu D 0,lu D 1,lu D 2,lu D 3,lu v9 0,lu v9 1,lu v9 2,lu v9 3,.bool J] 152).cell? ⟨g,o,none⟩=some u:=λo u hu=>((ai (dO _ _) _:bW wr _).cell<|by exact c8).trans hu;have y8:=ya _ _ q8;have y9:=ya _ _ q9;have y10:=ya _ _ q10;have y11:=ya _ _ q11;clear G d1 K f a5 hd L A hb m e' a4 b6 a9 I ev t ya Q z n R c8;go_wp2;go_region;all_goals go_wp2
   all_goals refine bI W W ⟨W,HW.below (dO _ _).drew,HB3.drew⟩
  have HNE:Hd (ly r a k P.sl[i]=false):=cV (by rw[a5.aa];simpa using G);clear a5;have dn:b1=false\/b1=true/\b2=false\/b1=true/\b2=true/\b3=false:=by revert G;cases b1<;>cases b2<;>cases b3<;>simp
  clear G;rcases dn with rfl|⟨rfl,rfl⟩|⟨rfl,rfl,rfl⟩;all_goals
   go_wp2;refine⟨⟨i+1,wq,N1,λs c=>?_,Q.tail,z⟩,by simp[nI];omega⟩;rw[XR R]at c;rcases Xr.1 c with c|c
   .exact f s c
   rw[BY.1 c];exact HNE
 have d:=dG i N;have ht:tr={P with sl:=P.sl++[⟨a,k,v,r⟩]}:=K.aa.trans (by
  have hf:P.sl.findIdx? (ly r a k)=none:=by rw[Y9];intro s c;exact f s (by rw[XA (by rw[<-X.aa];omega)];exact c)
  unfold mT;rw[hf])
 subst ht;let⟨z0,z1,z2,z3,_⟩:=U.aa.aJ;let⟨k0,k1,k2,k3,_⟩:=U.aa.tail.aJ;let⟨a0,a1,a2,a3,_⟩:=U.aa.tail.tail.aJ;let⟨V,hd,L,A,hb⟩:=U.aa.tail.tail.tail;have H:bW wr (wr.drew.alloc<|.cells #[lu a 0,lu a 1,lu a 2,lu a 3,lu k 0,lu k 1,lu k 2,lu k 3,lu v 0,lu v 1,lu v 2,lu v 3,.bool r] 152):=ai (dO _ wr).drew _;have d0:=hd.cB (Kb.h (S:=[]) H) K2;have HL:Hd ((∀p∈l,rowL (wr.drew.alloc<|.cells #[lu a 0,lu a 1,lu a 2,lu a 3,lu k 0,lu k 1,lu k 2,lu k 3,lu v 0,lu v 1,lu v 2,lu v 3,.bool r] 152) p.1 p.2.1 p.2.2/\¬vu Y V p.1)/\(l.map (·.1)).Nodup):=⟨λp c=>⟨(L p c).1.below H,(L p c).2⟩,A⟩
 obtain⟨c,c,c,c⟩:=V;try dsimp only at*
 obtain⟨ad,cp,rfl⟩:=dt hd.sl;have c0:cL wr Y 1 (.slice ad P.sl.length cp):=hd.row.cell W;have c1:(wr.alloc<|.cells #[lu a 0,lu a 1,lu a 2,lu a 3,lu k 0,lu k 1,lu k 2,lu k 3,lu v 0,lu v 1,lu v 2,lu v 3,.bool r] 152).cell? ⟨Y,1,none⟩=some (.slice ad P.sl.length cp):=(hd.row.below<|ai (dO _ wr) _).cell W;let⟨i0,F,Z,c,T⟩:=YI wS;have HI:=cV<|aIn F<|aIn Z<|aIn c T;have HLC:Hd (∀j u,[lu a 0,lu a 1,lu a 2,lu a 3,lu k 0,lu k 1,lu k 2,lu k 3,lu v 0,lu v 1,lu v 2,lu v 3,.bool r][j]?=some u->(wr.drew.alloc<|.cells #[lu a 0,lu a 1,lu a 2,lu a 3,lu k 0,lu k 1,lu k 2,lu k 3,lu v 0,lu v 1,lu v 2,lu v 3,.bool r] 152).cell? ((⟨wr.heap.size,0,none⟩:Addr).add j)=some u):=fJ wr.drew _ _;have HD:=cV d0;have z:Hd (Below O x<|wr.drew.alloc<|.cells #[lu a 0,lu a 1,lu a 2,lu a 3,lu k 0,lu k 1,lu k 2,lu k 3,lu v 0,lu v 1,lu v 2,lu v 3,.bool r] 152):=HB.aa.trans<|H.mono hb;have b7:=cV<|By hb H.size;rw[<-X.aa]at c0 c1;have hpl:P.sl.length<=1000000000:=by rw[<-X.aa];exact hN
 clear hd d0 L A H F Z c T U K f;go_wp2
 go_region_law (let⟨F,Z,c,T⟩:=HI.aa;refine iJ W (.tmp 56) (.tmp 62) 144 W O 152 i0 (.agg #[iU 0,iU 0,iU 0,iU 0,iU 0,iU 0,iU 0,iU 0,iU 0,iU 0,iU 0,iU 0,.bool false]) 13 104 N0 F Z c T W K3 (.slice ad P.sl.length cp) P.sl.length (P.sl.flatMap oj) (by rw[<-X.aa];rfl) HD.sl ⟨wr.heap.size,0,none⟩ 1 1 [lu a 0,lu a 1,lu a 2,lu a 3,lu k 0,lu k 1,lu k 2,lu k 3,lu v 0,lu v 1,lu v 2,lu v 3,.bool r] W W HLC (by intro u hu;simp at hu;rcases hu with rfl|rfl|rfl|rfl|rfl|rfl|rfl|rfl|rfl|rfl|rfl|rfl|rfl<;>rfl) (by unfold maxLen;rw[<-X.aa];omega) (by rw[<-X.aa];omega) b7 ?_;intro v' y ho b8 d3;obtain⟨g',a7,rfl,a4,b6,a9⟩:=fv ho;have hy:=b8.block Y HD.row.lt<|λe=>absurd ((Ty.az HD.sl e.symm).aF<|Ty.aB HD.row) K3;have hcx:cL y Y 1 (.slice ad N cp):=(Xc hy).trans (by rw[X.aa];exact HD.row.cell W);have hzx:y.frozen? ⟨Y,1,none⟩=false:=(Yv hy).trans<|HD.row.frozen 1;have HO:=cV ho;have HG:=cV b8;have HFR:=cV d3;clear d3 ho b8 hy a4 b6 a9 F Z c T)
 all_goals go_wp2
 all_goals(
  have ho:y.ownsRow O 152 13 (sL g' (P.sl.length+1) a7) (P.sl++[(⟨a,k,v,r⟩:Slt)]).length ((P.sl++[(⟨a,k,v,r⟩:Slt)]).flatMap oj):=by rw[Xm,Zi,Z3,List.flatMap_nil,YQ];exact HO
  have hq:=WQ.sl1 HD HL b7 HG ho HFR;refine bI W W ⟨W,hq,(z.grown HG b7<|λk c=>(HD.sl.lt k c).1).setCell HD.hb _⟩)
variable {L:hZ}{x0:WD}
def mB(P:RW)(i:Nat):Pur:=P.pu.getD i ⟨0,0,⟨#[]⟩⟩
def gX(i n:Nat)(P:RW):RW:={P with pu:=P.pu.set i {mB P i with mo:=n}}
def sd(h:i<P.pu.length):mB P i=P.pu[i]:=by grind[mB]
def WQ.cm{x:WD}(h:WQ O Y P l x)(hi:i<P.pu.length)(X:cL x Y 0<|sL g P.pu.length E):WQ O Y (gX i n P) l (x.setCells g (i*9+4)<|wl n)/\Below O x (x.setCells g (i*9+4)<|wl n)/\x.there g (i*9+4) 4:=by
 let⟨V,c,J,I,m⟩:=h;have b:=c.pu;have C:=c.row.cell (i:=0) W;rw[X]at C;have R:=hV C;rw[<-R]at b;have D:=(b.lt g W).1;have G:=sO (wl n) _ b (by show i*9+4+4<=P.pu.length*9;omega);rw[Gw (a':={mB P i with mo:=n}) Jy (by show 4+4<=9;omega) _ i hi (by rw[sd hi];rfl)]at G;refine⟨WQ.pu0 c ⟨J,I⟩ m ?_ ?_,?_,λj f=>?_⟩
 .rw[<-R];exact⟨W,W,W,(Kb.setCells g AI (wl n) _<|Kb.refl [g] _).size,λq c H=>(Kb.setCells g AI (wl n) _<|Kb.refl [g] _).block q c<|λU=>H (by rw[BY.1 U];rfl)⟩
 .grind
 .exact((((dO _ _).setCell D _).setCell D _).setCell D _).setCell D _
 rcases b.2 with⟨e,_⟩|⟨g9,b,b,e,_,b,c,_,c,_⟩
 .cases e
 injection e with e _ Z;cases(K9:g=g9)
 exact⟨by rw[cell_of_row _ g _ _ _ _ b];grind,by simp[World.frozen?,b]⟩
def PhB(O Y:Nat)(P':RW)(L:hZ)(x0 y:WD):Nat->X4
 |0,x=>bW y x
 |_,x=>WQ O Y P' L x/\Below O x0 x
def kD{C:RW}{x:WD}(h:PhB O Y C L x0 y k x)(D:k<=0):bW y x:=by
 cases(wq:k=0)
 exact h
def IL{C:RW}(k:Nat)(x x':WD)(h:PhB O Y C L x0 y k x)(G:bW x x'):PhB O Y C L x0 y k x':=by
 match k,h with
 |0,h=>exact Below.trans h<|G.mono<|Below.size h
 |_+1,h=>exact⟨h.1.below G,h.2.trans<|G.mono (by let⟨_,_,_,_,D⟩:=h.1;exact D)⟩
structure MvS(O Y v:Nat)(x0:WD)(P:RW)(L:hZ)(i N g E m9:Nat)(y:WD):Prop where
 w:WQ O Y P L y
 n:N=P.pu.length
 ip:i<P.pu.length
 il:i<N
 c0:y.cell? ⟨Y,0,none⟩=some (.slice (some ⟨g,0,none⟩) N E)
 wl:Y<y.heap.size
 gl:g<y.heap.size
 mc:∀j,j<4->y.cell? ⟨g,i*9+4+j,none⟩=some (.int .u64 (cX m9 j))
 vl:x0.heap.size+2<y.heap.size
 vc:y.cell? ⟨x0.heap.size+2,0,none⟩=some (.int .u64 (cX v 0))/\y.cell? ⟨x0.heap.size+2,1,none⟩=some (.int .u64 (cX v 1))/\y.cell? ⟨x0.heap.size+2,2,none⟩=some (.int .u64 (cX v 2))/\y.cell? ⟨x0.heap.size+2,3,none⟩=some (.int .u64 (cX v 3))
 bw:O<=y.heap.size
def MvS.below{v:Nat}{C:Nat}{z:WD}(h:MvS O Y v x0 P L i N g E C y)(G:bW y z):MvS O Y v x0 P L i N g E C z:=⟨h.w.below G,h.n,h.ip,h.il,(G.cell h.wl).trans h.c0,Xg h.wl G.size,Xg h.gl G.size,λj D=>(G.cell h.gl).trans<|h.mc j D,Xg h.vl G.size,⟨(G.cell h.vl).trans h.vc.1,(G.cell h.vl).trans h.vc.2.1,(G.cell h.vl).trans h.vc.2.2.1,(G.cell h.vl).trans h.vc.2.2.2⟩,By h.bw G.size⟩
def MvS.bM{v:Nat}(h:WQ O Y P ((x0.heap.size+2,24,[lu v 0,lu v 1,lu v 2,lu v 3])::L) y)(hi:i<P.pu.length):∃g E,MvS O Y v x0 P ((x0.heap.size+2,24,[lu v 0,lu v 1,lu v 2,lu v 3])::L) i P.pu.length g E (mB P i).mo y:=by
 let⟨g,E,U,C⟩:=h.ps hi;let⟨G,V,X,I,_⟩:=h.aJ;rw[sd hi];have D:∀j,j<4->y.cell? ⟨g,i*9+4+j,_⟩=some (.int _ _):=λj J=>by
  rcases(wq:j=0\/j=1\/j=2\/j=3)with rfl|rfl|rfl|rfl
  .exact C 4 _ wq W
  .exact C 5 _ wq W
  .exact C 6 _ wq W
  exact C 7 _ wq W
 exact⟨g,_,h,W,hi,hi,U,Yb _ _ U,Yb _ _<|D 0 wq,D,Yb _ _ G,⟨G,V,X,I⟩,by let⟨_,_,_,_,H⟩:=h;exact H⟩
def MvS.lm{v:Nat}{C:Nat}{H:Vr}(h:MvS O Y v x0 P L i N g E C y)(G:bW y x)(he:tG s t<|pq g<|i*9+4)(D:K (Wb s d<|wv C) x):Oper.wp prog ⟨some d,.load 24<|.tmp t,H,pos,af,gd⟩ s x K Q:=by have q:=(h.below G).mc;exact dD he (q 0 wq) (q 1 wq) (q 2 wq) (q 3 wq) D
def MvS.lv{v:Nat}{C:Nat}{H:Vr}(h:MvS O Y v x0 P L i N g E C y)(G:bW y x)(he:tG s t<|pt<|x0.heap.size+2)(D:K (Wb s d<|wv v) x):Oper.wp prog ⟨some d,.load 24<|.tmp t,H,pos,af,gd⟩ s x K Q:=by let⟨a,b,c,d⟩:=(h.below G).vc;exact dD he a b c d D
def fP(fr Z v:Nat)(P:RW):Bool×RW:=
 if iX (mB (ag fr P).2 (ag fr P).1).mo v then(false,(ag fr P).2)
 else(true,gX (ag Z<|gX (ag fr P).1 (ku ((mB (ag fr P).2 (ag fr P).1).mo%M)<|v%M) (ag fr P).2).1 (kQ ((mB (ag Z<|gX (ag fr P).1 (ku ((mB (ag fr P).2 (ag fr P).1).mo%M)<|v%M) (ag fr P).2).2 (ag Z<|gX (ag fr P).1 (ku ((mB (ag fr P).2 (ag fr P).1).mo%M)<|v%M) (ag fr P).2).1).mo%M)<|v%M) (ag Z<|gX (ag fr P).1 (ku ((mB (ag fr P).2 (ag fr P).1).mo%M)<|v%M) (ag fr P).2).2)
def iG(a:Nat)(P:RW):(ag a P).1<(ag a P).2.pu.length/\(ag a P).2.pu.length<=P.pu.length+1:=by grind[ag,CE,YE,Xm]
def ML(fr Z v:Nat)(h:WQ O Y P l x0)(hn:P.pu.length<=900000000):Calls prog 69 #[pt Y,wv fr,wv Z,wv v] x0 (Wp O Y (fP fr Z v P).2 (.bool (fP fr Z v P).1) l x0):=by
 obtain⟨b,R⟩:=dP<|fP fr Z v P;rw[<-R.aa];have b:O<=x0.heap.size:=by obtain⟨_,_,_,_,c⟩:=h;exact c
 have c:=cV<|((h.aW (lu fr 0) (lu fr 1) (lu fr 2)<|lu fr 3).aW (lu Z 0) (lu Z 1) (lu Z 2)<|lu Z 3).aW (lu v 0) (lu v 1) (lu v 2)<|lu v 3;have HB:Hd (Below _ x0<|((x0.alloc<|wc fr).alloc<|wc Z).alloc<|wc v):=(ai (ai (ai (dO _ x0) _) _) _).mono b;rw[show(x0.alloc _).heap.size=x0.heap.size+1 by simp,show((x0.alloc _).alloc _).heap.size=x0.heap.size+2 by simp]at c;obtain⟨L,V⟩:∃L:hZ,L=(x0.heap.size+2,24,[lu v 0,lu v 1,lu v 2,lu v 3])::(x0.heap.size+1,24,[lu Z 0,lu Z 1,lu Z 2,lu Z 3])::(x0.heap.size,24,[lu fr 0,lu fr 1,lu fr 2,lu fr 3])::l:=⟨_,W⟩;rw[<-V]at c;replace V:=cV V;clear h;go_enter func69,ntmps69;go_wp2_with fail
 refine(qE fr c.aa).mono ?_;rintro e y⟨rfl,A,a⟩;obtain⟨i,r⟩:=dP<|(ag fr P).1;obtain⟨P1,a4⟩:=dP<|(ag fr P).2;obtain⟨T,a2⟩:=iG fr P;replace R:=cV R.aa;unfold fP at R;rw[<-a4.aa]at A;rw[<-r.aa,<-a4.aa]at R T;rw[<-a4.aa]at a2;rw[<-r.aa];rw[V.aa]at A;obtain⟨g,E,p⟩:=MvS.bM A T;rw[<-V.aa]at p;obtain⟨N,HN⟩:=dP P1.pu.length;rw[<-HN.aa]at p;obtain⟨b,a1⟩:=dP<|(mB P1 i).mo;rw[<-a1.aa]at p R;have G:=cV p;replace HB:=cV<|HB.aa.trans a;have hiN:=p.il;have hNl:N<=900000001:=by rw[HN.aa];omega
 obtain⟨b9,a6⟩:∃b9,iX b v=b9:=⟨_,W⟩;rw[a6]at R;clear A a p c T a2 r;go_wp2
 refine dy (λ_ x=>Below _ y x) (λ_ _ _=>True) [(0,(.pointer _)),(9,(.int _ _)),(7,(.pointer _))] (nV 14 [pt Y,pt Y,.pointer _,.slice _ N _,.int _ i,.pointer _,.pointer<|some ⟨g,i*9+4,_⟩,wv b,wv v,.bool b9]) [] [3,5,7,8,9] ((dO _ _).drew) (λk x c h hb=>h.trans<|hb.mono h.size)
   True.intro
   ⟨(@λk X x r J H c K D C hv I=>dm (hv W) ((C.cell G.aa.wl).trans G.aa.c0)<|kx I),(@λk X x r J H c K D C hv I=>by
    exact mA 9 (hv W) (hv W) G.aa.il<|kx I),(@λk X x r J H c K D C hv I=>G.aa.lm C (hv W)<|kx I),(@λk X x r J H c K D C hv I=>G.aa.lv C (hv W)<|kx I),(@λk X x r J H c K D C hv I=>by
    refine o6 @hv (jz b v x) (λu z h=>?_) (λl z h=>absurd h.1 K2)<|λz h=>absurd h.1 K2;obtain⟨e,hb⟩:=h;injection e with e
    subst e;exact I _ z hb nn1 (by rw[a6];rfl)),AF⟩
   (nl W) (nl W) ?_
 intro gg x9 C _;have U:Hd _:=C;clear C;simp only[n8,sx9];cases b9 with
 |true=>
  have ht:=R.aa.trans<|At W;subst ht;have HE:=cV (G.aa.below U.aa).w;rw[V.aa]at HE;have HB2:=cV<|HB.aa.trans<|U.aa.mono G.aa.bw;clear R G;go_wp2;go_ret;exact⟨W,HE.aa.tail.tail.tail,HB2.aa⟩
 |false=>
  replace R:=cV<|R.aa.trans<|iF YX;replace HB:=cV<|HB.aa.trans<|U.aa.mono G.aa.bw;replace G:=cV<|G.aa.below U.aa;clear U;obtain⟨y,rfl⟩:=hJ x9;obtain⟨P,rfl⟩:=hJ P1;obtain⟨F,o⟩:=dP<|ku (b%M)<|v%M;rw[<-o.aa]at R;go_wp2
  refine dy _ (λ_ _ _=>True) [(0,(.pointer _)),(9,(.int .i64 _)),(7,(.pointer _))] (nV 24 [pt Y,pt Y,.pointer _,.slice _ N E,.int .i64 _,pt Y,pt Y,.pointer _,.slice _ N E,.int .i64 _,.pointer _,pq g<|i*9+4,wv b,wv v,wv F,.pointer _,.pointer _]++[(none,.v undef)]) [17] [3,8,10,12,13,14,15] ((dO _ _).drew) (IL)
    ⟨(@λX x H c K C hv I=>by
     have f:Below y.heap.size y x:=C;obtain⟨A,a,h3⟩:=(G.aa.w.below f).cm (n:=F) G.aa.ip ((f.cell G.aa.wl).trans (by rw[<-G.aa.n];exact G.aa.c0));exact mu (hv W) (hv W) h3<|I undef _ ⟨A,(HB.aa.trans<|f.mono G.aa.bw).trans a⟩ AF (λ_=>W) W),AF⟩
    ⟨(@λk X x r J H c K D C hv I=>by
     have f:Below y.heap.size y x:=kD C<|D 0 17;exact dm (v:=(.slice (some ⟨g,0,none⟩) N E)) (hv W) ((f.cell G.aa.wl).trans G.aa.c0)<|kx I),(@λk X x r J H c K D C hv I=>by
     have f:Below y.heap.size y x:=kD C<|D 0 17;exact dm (v:=(.slice (some ⟨g,0,none⟩) N E)) (hv W) ((f.cell G.aa.wl).trans G.aa.c0)<|kx I),(@λk X x r J H c K D C hv I=>by
     exact mA 9 (hv W) (hv W) G.aa.il<|kx I),(@λk X x r J H c K D C hv I=>G.aa.lm (kD C<|D 0 17) (hv W)<|kx I),(@λk X x r J H c K D C hv I=>G.aa.lv (kD C<|D 0 17) (hv W)<|kx I),(@λk X x r J H c K D C hv I=>by
     refine o6 @hv (pP b v x) (λu z h=>?_) (λl z h=>by obtain⟨_,_,e,_⟩:=h;cases e) (λz h=>by obtain⟨_,_,e,_⟩:=h;cases e);obtain⟨q,HQ,e,hb⟩:=h;injection e with e
     subst e;exact I _ z hb nn1 (by rw[HQ.aa,o.aa];rfl)),(@λk X x r J H c K D C hv I=>mA 9 (hv W) (hv W) G.aa.il<|kx I),AF⟩
    (nl W) (nl W) ?_
  intro gg x9 C _;have U:Hd (WQ O Y (gX i F P) L x9/\Below O x0 x9):=C;clear C;simp only[n8,sx9];have S:(gX i F P).pu.length=N:=by show(P.pu.set i _).length=N;rw[XE,HN.aa]
  rw[V.aa]at U;have a8:=cV U.aa.1.tail.aJ;obtain⟨t0,t1,t2,t3,_⟩:=a8.aa;rw[<-V.aa]at U;have a0:=cV (qE Z U.aa.1 (by rw[S];omega));obtain⟨m,j⟩:=iG Z<|gX i F P;rw[S]at j;obtain⟨P2,a5⟩:=dP<|gX i F P;rw[<-a5.aa]at a0 m j R;obtain⟨i2,a7⟩:=dP<|(ag Z P2).1;obtain⟨P3,a3⟩:=dP<|(ag Z P2).2;rw[<-a7.aa,<-a3.aa]at a0 m R;rw[<-a3.aa]at j;have HBX:=cV U.aa.2;clear a8 S U G o a1;go_wp2_with fail
  clear t0 t1 t2 t3;refine a0.aa.mono ?_;rintro e y2⟨rfl,A,a⟩;rw[V.aa]at A;obtain⟨g,E,p⟩:=MvS.bM A m;rw[<-V.aa]at p;obtain⟨N,HN⟩:=dP P3.pu.length;rw[<-HN.aa]at p j;obtain⟨b,a1⟩:=dP<|(mB P3 i2).mo;rw[<-a1.aa]at p R;have G:=cV p;have HB:=cV<|HBX.aa.trans a;have hiN:i2<N:=p.il;obtain⟨F,o⟩:=dP<|kQ (b%M)<|v%M;rw[<-o.aa]at R;clear A a p m a0 a7 a3 a5;obtain⟨y,rfl⟩:=hJ y2;obtain⟨P,rfl⟩:=hJ P3;obtain⟨i,rfl⟩:=hJ i2;have ht:=R.aa;subst ht;clear R;go_wp2
  refine dy (PhB O Y (gX i F P) L x0 y) (λ_ _ _=>True) [(0,(pt Y)),(10,(.int .i64 (i:Int))),(7,(pt<|x0.heap.size+2))] (nV 44 [pt Y,pt Y,pt Y,.slice (some ⟨g,0,none⟩) N E,.int .i64 (i:Int),pt Y,pt Y,pt Y,.slice (some ⟨g,0,none⟩) N E,.int .i64 (i:Int),pq g<|i*9,pq g<|i*9+4,wv b,wv v,wv F,pq g<|i*9,pq g<|i*9+4]++[(none,.v undef)]) [17] [3,8,10,12,13,14,15] ((dO _ _).drew) (IL)
    ⟨(@λX x H c K C hv I=>by
     have f:Below y.heap.size y x:=C;obtain⟨A,a,h3⟩:=(G.aa.w.below f).cm (n:=F) G.aa.ip ((f.cell G.aa.wl).trans (by rw[<-G.aa.n];exact G.aa.c0));exact mu (hv W) (hv W) h3<|I undef _ ⟨A,(HB.aa.trans<|f.mono G.aa.bw).trans a⟩ AF (λ_=>W) W),AF⟩
    ⟨(@λk X x r J H c K D C hv I=>by
     have f:Below y.heap.size y x:=kD C<|D 0 17;exact dm (v:=(.slice (some ⟨g,0,none⟩) N E)) (hv W) ((f.cell G.aa.wl).trans G.aa.c0)<|kx I),(@λk X x r J H c K D C hv I=>by
     have f:Below y.heap.size y x:=kD C<|D 0 17;exact dm (v:=(.slice (some ⟨g,0,none⟩) N E)) (hv W) ((f.cell G.aa.wl).trans G.aa.c0)<|kx I),(@λk X x r J H c K D C hv I=>by
     exact mA 9 (hv W) (hv W) G.aa.il<|kx I),(@λk X x r J H c K D C hv I=>G.aa.lm (kD C<|D 0 17) (hv W)<|kx I),(@λk X x r J H c K D C hv I=>G.aa.lv (kD C<|D 0 17) (hv W)<|kx I),(@λk X x r J H c K D C hv I=>by
     refine o6 @hv (lC b v x) (λu z h=>?_) (λl z h=>by obtain⟨_,_,e,_⟩:=h;cases e) (λz h=>by obtain⟨_,_,e,_⟩:=h;cases e);obtain⟨q,HQ,e,hb⟩:=h;injection e with e
     subst e;exact I _ z hb nn1 (by rw[HQ.aa,o.aa];rfl)),(@λk X x r J H c K D C hv I=>mA 9 (hv W) (hv W) G.aa.il<|kx I),AF⟩
    (nl W) (nl W) ?_
  intro gg x9 C _;have U:Hd (WQ O Y (gX i F P) L x9/\Below O x0 x9):=C;clear C;simp only[n8,sx9];rw[V.aa]at U;go_wp2;go_ret;exact⟨W,U.aa.1.tail.tail.tail,U.aa.2⟩
variable {w:WD}
def mR{bytes:Nat}{z:VL}{t:Vr}{i:TypeInfo}(J:prog.underlying t=some (.slice e))(hi:prog.info? e=some i)(hz:i.zero=some z)(Z:i.size=size)(H:i.bytes=bytes)(I:z.cells.size=size)(L:0<size)(h:x.ownsRow b e size v n xs)(Q:∀u∈xs,u.oneCell'=true)(hn:n<=1000000000)(X:n*bytes<=140737488355328)(D:n=0->(Builtin.append_ #[t,t] t #[dL,dL]).run prog x=.ok dL x):∃G C,(Builtin.append_ #[t,t] t #[dL,v]).run prog x=.ok G C/\C.ownsRow x.heap.size e size G n xs/\x.grownBy C none:=by
 rcases h.2 with⟨rfl,U⟩|⟨g,E,V,rfl,V,V,V,V,V,V⟩
 .refine⟨dL,x,D U,⟨h.1,LZ ⟨W,U⟩⟩,xx⟩
 let⟨G,C,V,U,r3,R⟩:=fh (P:=prog) x x.heap.size t t e i z size bytes J hi hz Z H I L dL 0 [] (Xy x _ _ _) ⟨g,0,none⟩ n E xs h.1 (h.cells W) Q (by unfold maxLen;omega) (by rw[XF];exact X)<|DO _;rw[XF,XG]at U;exact⟨G,C,V,U,r3⟩
def PN(l:List Pur):∀u∈l.flatMap qX,u.oneCell'=true:=λu C=>by let⟨p,_,D⟩:=YF.1 C;simp[qX,wl]at D;rcases D with rfl|rfl|rfl|rfl|rfl|rfl|rfl|rfl|rfl<;>rfl
def Mp(l:List Slt):∀u∈l.flatMap oj,u.oneCell'=true:=λu C=>by let⟨p,_,D⟩:=YF.1 C;simp[oj,wl]at D;rcases D with rfl|rfl|rfl|rfl|rfl|rfl|rfl|rfl|rfl|rfl|rfl|rfl|rfl<;>rfl
abbrev n3:Ys:=#[dL,dL,dL]
def PW(O:Nat)(P:RW)(V:DV)(y:WD):=∀Y z,rowL z Y 146 [V.pv,V.lv,V.gv]->bW y z->O<=Y->DW O Y P V z
def fO(h:x.ownsRow b e size v n xs)(I:b'<=b):x.ownsRow b' e size v n xs:=⟨h.1,h.2.imp id λ⟨g,E,C,G,D,H⟩=>⟨g,E,C,G,By I D,H⟩⟩
structure CpS(x:WD)(ws vs:Tn)(w:WD):Prop where
 r0:rowL w x.heap.size 146 ws
 r1:rowL w (x.heap.size+1) 146 [dL,dL,dL]
 r2:rowL w (x.heap.size+2) 146 vs
 be:Below x.heap.size x w
def CpS.step{D vs:Tn}(h:CpS x D vs w)(G:w.grownBy w' none)(v:VL):CpS x D (vs.set j v) (w'.setCell ⟨x.heap.size+2,j,none⟩ v)/\w'.cell? ⟨x.heap.size,j,none⟩=w.cell? ⟨x.heap.size,j,none⟩/\rowL w' (x.heap.size+2) 146 vs/\∀{b e size n:Nat}{u:VL}{xs:Tn},e≠146->w'.ownsRow b e size u n xs->(w'.setCell ⟨x.heap.size+2,j,none⟩ v).ownsRow b e size u n xs:=by have H:Kb [] w w':=iM G;have I:rowL w' (x.heap.size+2) 146 vs:=H.row h.r2 K2;refine⟨⟨World.rowIs.setOther (H.row h.r0 K2) K2 _,World.rowIs.setOther (H.row h.r1 K2) K2 _,I.set v,(h.be.trans<|H.bK.mono h.be.size).setCell K2 _⟩,Xc<|H.block _ h.r0.lt K2,I,λC E=>fC E (λk H e=>C<|(Ty.az E H).aF (by rw[e];exact Ty.aB I)) _ _⟩
structure DP(O:Nat)(P:RW)(V:DV)(x:WD):Prop where
 pu:x.ownsRow O 150 9 V.pv P.pu.length (P.pu.flatMap qX)
 sl:x.ownsRow O 152 13 V.lv P.sl.length (P.sl.flatMap oj)
 lg:x.ownsRow O 112 6 V.gv P.lg.length (qM P.lg V.tv)
 tl:V.tv.length=P.lg.length
 tp:∀(i:Nat) l t,P.lg[i]?=some l->V.tv[i]?=some t->Wds x 0 t l.aM
def DP.tm{V:DV}(h:DP O P V x){t:VL}(C:t∈V.tv):∃l,Wds x 0 t l:=by obtain⟨i,D,rfl⟩:=XU C;exact⟨_,h.tp i _ _ (iN (by rw[<-h.tl];exact D))<|iN D⟩
def yN{V:DV}(h:DP O P V x)(c:P.pu.length<=1000000000)(q:P.sl.length<=1000000000)(h3:P.lg.length<=1000000000):cP 68 #[.agg #[V.pv,V.lv,V.gv]] x λe y=>∃p,e=.returned (.agg #[p.pv,p.lv,p.gv])/\p.tv=V.tv/\PW x.heap.size P p y/\bW x y:=by
 let⟨pv,lv,gv,tv⟩:=V;let⟨r,c1,e1⟩:=dt h.pu;let⟨r,c2,e2⟩:=dt h.sl;let⟨a3,c3,e3⟩:=dt h.lg;dsimp only at e1 e2 e3;have G:CpS x [pv,lv,gv] [dL,dL,dL] (((x.alloc<|.cells #[pv,lv,gv] 146).alloc<|.cells n3 146).alloc<|.cells n3 146):=by have N:∀(w:WD)(cs:Tn),rowL (w.alloc<|.cells cs.toArray 146) w.heap.size 146 cs:=λw cs=>World.rowIs_alloc w cs.toArray _ _ (λi r=>by rw[Z2,If,iN<|by simpa using r];rfl);have A:=N (x.alloc<|.cells #[pv,lv,gv] 146) [dL,dL,dL];have d:=N ((x.alloc<|.cells #[pv,lv,gv] 146).alloc<|.cells n3 146) [dL,dL,dL];rw[show(x.alloc<|.cells #[pv,lv,gv] 146).heap.size=x.heap.size+1 by simp]at A;rw[show((x.alloc<|.cells #[pv,lv,gv] 146).alloc<|.cells n3 146).heap.size=x.heap.size+2 by simp]at d;exact⟨(((N x [pv,lv,gv]).below<|ai (dO _ _) _).below<|ai (dO _ _) _),A.below<|ai (dO _ _) _,d,ai (ai (ai (dO _ x) _) _) _⟩
 let⟨r,f,T,o,R⟩:=YI B9;let⟨r,U,m,X,g⟩:=YI wS;let⟨r,K,Z,Q,S⟩:=YI wO;let⟨I,r,r1,o1,g1⟩:=mR (t:=143) N0 f T o R W K3 (dh h.pu G.be) (PN _) c wq<|λ_=>N0;let⟨L,q1,w1,t1⟩:=G.step (j:=0) g1 I;let⟨J,c,r2,o2,g2⟩:=mR (t:=144) N0 U m X g W K3 (dh h.sl L.be) (Mp _) q wq<|λ_=>N0;let⟨s2,q2,w2,t2⟩:=L.step (j:=1) g2 J;let⟨v3,c,r3,o3,q⟩:=mR (t:=36) N0 K Z Q S W K3 (dh h.lg s2.be) (Qe (λt ht=>by let⟨l,r⟩:=h.tm ht;let⟨a,cp,e⟩:=dt r;exact⟨a,_,cp,e⟩)) h3 wq<|λ_=>N0;let⟨C,q3,w3,t3⟩:=s2.step (j:=2) q v3;have A:=t3 K3<|(iM q).aD (t2 K3<|(iM g2).aD (t1 K3 o1) K2) K2;have d:=t3 K3<|(iM q).aD (t2 K3 o2) K2;have k3:=t3 K3 o3;let⟨yF,E⟩:=dP<|(((c.setCell ⟨x.heap.size+2,2,none⟩ v3).setCell ⟨x.heap.size+1,0,none⟩ I).setCell ⟨x.heap.size+1,1,none⟩ J).setCell ⟨x.heap.size+1,2,none⟩ v3;have H:rowL yF (x.heap.size+1) 146 [I,J,v3]:=by rw[E.aa];exact(((C.r1.set I).set J).set v3:)
 have D:bW x yF:=by rw[E.aa];exact((C.be.setCell K2 _).setCell K2 _).setCell K2 _
 have F:∀{b e size n:Nat}{u:VL}{xs:Tn},e≠146->(c.setCell ⟨x.heap.size+2,2,none⟩ v3).ownsRow b e size u n xs->yF.ownsRow b e size u n xs:=λc ho=>by have a:∀k,Value.ownBlock _=some k->k≠x.heap.size+1:=λk hk e=>c ((Ty.az ho hk).aF (by rw[e];exact Ty.aB C.r1));rw[E.aa];exact fC (fC (fC ho a _ _) a _ _) a _ _
 have l1:=G.be.size;have l2:=L.be.size;have l3:=s2.be.size;have a:Hd (PW x.heap.size P ⟨I,J,v3,tv⟩ yF):=λY z hr c hw=>⟨hr,fO (dh (F K3 A) c) l1,fO (dh (F K3 d) c) l2,fO (dh (F K3 k3) c) l3,h.tl,λi l t r ht=>dh (h.tp i l t r ht)<|D.trans<|c.mono D.size,hw⟩
 obtain⟨c,s,r⟩:cL yF (x.heap.size+1) 0 I/\cL yF (x.heap.size+1) 1 J/\cL yF (x.heap.size+1) 2 v3:=⟨H.cell W,H.cell W,H.cell W⟩
 have HN:=cV<|aIn c<|aIn s<|aIn r D;clear F H D l1 l2 l3 c s r;obtain⟨b1,d1,rfl⟩:=dt o1;obtain⟨b2,d2,rfl⟩:=dt o2;obtain⟨b3,d3,rfl⟩:=dt o3;subst e1 e2 e3;have m1:=w1.cell (i:=0) W;have f1:=World.rowIs.frozen w1 0;have m2:=L.r0.cell (i:=1) W;have m3:=L.r2.cell (i:=1) W;have m4:=w2.cell (i:=1) W;have f2:=World.rowIs.frozen w2 1;have m5:=s2.r0.cell (i:=2) W;have m6:=s2.r2.cell (i:=2) W;have m7:=w3.cell (i:=2) W;have f3:=World.rowIs.frozen w3 2;have m8:=C.r2.cell (i:=0) W;have m9:=C.r2.cell (i:=1) W;have m10:=C.r2.cell (i:=2) W;have p1:=C.r1.cell (i:=0) W;have p2:=C.r1.cell (i:=1) W;have p3:=C.r1.cell (i:=2) W;have f4:=World.rowIs.frozen C.r1;have HR1:=cV r1;have HR2:=cV r2;have HR3:=cV r3;have HRW:=cV C.r1;have HBE:=cV C.be;clear r1 r2 r3 o1 o2 o3 g1 g2 q L s2 C t1 t2 t3 w1 w2 w3 q1 q2 q3 A d k3 G h f U K T m Z o X Q R g S;go_enter func68,ntmps68;go_wp2_with(at_builtin;first|refine Lib.wpList_append_run _ rfl _ _ _ _ rfl _ _ rfl rfl _ _ HR1 ?_|refine Lib.wpList_append_run _ W _ _ _ _ W _ _ W W _ _ HR2 ?_|refine Lib.wpList_append_run _ rfl _ _ _ _ rfl _ _ rfl rfl _ _ HR3 ?_);rw[E.aa]at HN;let⟨c,s,r,D⟩:=HN.aa;refine sp (v:=.agg #[.slice b1 P.pu.length d1,.slice b2 P.sl.length d2,.slice b3 P.lg.length d3]) (by simp[results,results68,go_sem,c,s,r]) W ⟨⟨.slice b1 P.pu.length d1,.slice b2 P.sl.length d2,.slice b3 P.lg.length d3,tv⟩,W,W,E.aa▸a,D⟩
def Ow{V:DV}(h:DW O Y P V x)(E:P.pu.length<=1000000000)(D:P.sl.length<=1000000000)(G:P.lg.length<=1000000000):cP 68 #[.agg #[V.pv,V.lv,V.gv]] x λe y=>∃C,e=.returned (.agg #[C.pv,C.lv,C.gv])/\C.tv=V.tv/\PW x.heap.size P C y/\bW x y:=yN ⟨h.pu,h.sl,h.lg,h.tl,h.tp⟩ E D G
variable {R:RS}
def rowL.heap{T:Nat}{l:Tn}(h:rowL x b T l):x.heap[b]?=some (.cells l.toArray T (0,0)):=by
 let⟨c,D,E,G⟩:=h;rw[D];have:c=l.toArray:=Array.ext wq λi I C=>K9
 rw[this]
def rowL.cN{T:Nat}{l:Tn}(h:x.heap[b]?=some (.cells l.toArray T (0,0))):rowL x b T l:=⟨_,h,K2,λi C=>K9⟩
def wL{s:Nat}(h:x.ownsRow b e s v n xs):∃L:hZ,(∀p∈L,v.ownBlock=some p.1/\p.2.1=e/\rowL x p.1 p.2.1 p.2.2)/\(∀k,v.ownBlock=some k->∃p∈L,p.1=k)/\(L.map (·.1)).Nodup/\∀y,(∀p∈L,rowL y p.1 p.2.1 p.2.2)->y.ownsRow b e s v n xs:=by
 rcases h.2 with⟨rfl,I⟩|⟨g,E,D,rfl,J,G,Q⟩
 .exact⟨[],⟨K2,λk G=>(by cases G),qac,λy _=>⟨h.1,LZ ⟨W,I⟩⟩⟩⟩
 refine⟨[(g,e,D.toList)],λp D=>?_,λk G=>⟨_,YL _,by grind[Value.ownBlock]⟩,K2,λy C=>⟨h.1,A4 ⟨g,_,_,W,J,?_,Q⟩⟩⟩
 .rw[BY.1 D];exact⟨W,W,rowL.cN wq⟩
 have:=(C _<|YL _).heap;omega
def DQ.world(h:DQ O H Y R l x):∃F:hZ,WQ O Y R.w (F++l) x/\∀P y ⦃A:hZ⦄,WQ O Y P (F++A) y->x.heap.size<=y.heap.size->DQ O H Y {R with w:=P} A y:=by
 let⟨X,C,V,h,hl,hn⟩:=h;let⟨Z,E,s2,s3,N⟩:=wL h.st;let⟨d,G,c,s,m4⟩:=wL h.me;have U:=Ty.aB h.row;have nf:∀p∈Z++d,p.1≠H:=λp u e=>by
  rcases Xr.1 u with u|u
  .have:=(Ty.aB (E p u).2.2).aF<|e▸U;rw[(E p u).2.1]at this;exact absurd this K3
  have:=(Ty.aB (G p u).2.2).aF<|e▸U;rw[(G p u).2.1]at this;exact absurd this K3
 have g:∀{k T:Nat},Ty x k T->¬OH T->T≠24->¬vu Y V k:=λ{k T} hT j m hf=>by
  rcases hf with rfl|e|e|e|⟨t,f,e⟩
  .exact j (by rw[hT.aF<|Ty.aB h.wa.row];exact LZ W)
  .exact j (by rw[hT.aF<|Ty.az h.wa.pu e];exact A4<|LZ W)
  .exact j (by rw[hT.aF<|Ty.az h.wa.sl e];exact A4<|A4<|LZ W)
  .exact j (by rw[hT.aF<|Ty.az h.wa.lg e];exact A4<|A4<|A4 W)
  let⟨q,r⟩:=h.wa.tm f;exact m<|hT.aF<|Ty.az r e
 have i:∀p∈Z,¬vu Y V _:=λp u hf=>by
  have hT:=Ty.aB (E p u).2.2;rw[(E p u).2.1]at hT;rcases hf with e|e|e|e|⟨t,f,e⟩
  .exact absurd (hT.aF<|e▸Ty.aB h.wa.row) K3
  .exact absurd (hT.aF<|Ty.az h.wa.pu e) K3
  .exact absurd (hT.aF<|Ty.az h.wa.sl e) K3
  .exact absurd (hT.aF<|Ty.az h.wa.lg e) K3
  exact h.tk t f _ e (E p u).1
 have wd:∀{k:Nat},vu Y V k->vU H Y X C V k:=λhf=>by
  rcases hf with e|e|e|e|e
  .exact A4 (LZ e)
  .exact A4 (A4<|A4<|A4<|LZ e)
  .exact A4 (A4<|A4<|A4<|A4<|LZ e)
  .exact A4 (A4<|A4<|A4<|A4<|A4<|LZ e)
  exact A4<|A4<|A4<|A4<|A4<|A4<|A4 e
 have sm:∀p∈Z,∀q∈d,p.1≠q.1:=λp u q r e=>by have:=(Ty.aB (E p u).2.2).aF<|e▸Ty.aB (G q r).2.2;rw[(E p u).2.1,(G q r).2.1]at this;exact absurd this K3
 have dl:∀p∈(H,159,yt R Y X C)::(Z++d),vU H Y X C V p.1:=λp u=>by
  rcases IF.1 u with rfl|u
  .exact LZ W
  rcases Xr.1 u with u|u
  .exact A4 (A4<|LZ (E p u).1)
  exact A4<|A4<|A4<|LZ (G p u).1
 refine⟨(H,159,yt R Y X C)::(Z++d),⟨V,h.wa,λp u=>?_,?_,h.hb⟩,?_⟩
 .rcases Xr.1 u with u|u
  .rcases IF.1 u with rfl|u
   .exact⟨h.row,g U (by unfold OH;decide) K3⟩
   rcases Xr.1 u with u|u
   .exact⟨(E p u).2.2,i p u⟩
   exact⟨(G p u).2.2,g (Ty.aB (G p u).2.2) (by rw[(G p u).2.1];unfold OH;decide) (by rw[(G p u).2.1];decide)⟩
  exact⟨(hl p u).1,λhf=>(hl p u).2<|wd hf⟩
 .rw[XP,X5];refine⟨?_,hn,λa I b hb e=>?_⟩
  .rw[List.map_cons,X3,XP,X5];refine⟨λK=>?_,s3,s,λa I b hb e=>?_⟩
   .rw[<-XP]at K;let⟨p,u,e⟩:=Xq.1 K;exact nf p u e
   obtain⟨p,u,rfl⟩:=Xq.1 I;obtain⟨q,r,rfl⟩:=Xq.1 hb;exact sm p u q r e
  obtain⟨p,u,rfl⟩:=Xq.1 I;obtain⟨q,r,rfl⟩:=Xq.1 hb;exact(hl q r).2<|e▸dl p u
 rintro P y A⟨S,hw,Q,L,z⟩hxy;have I:∀p∈(H,159,yt R Y X C)::(Z++d),rowL y _ _ _/\¬vu Y S _:=λp u=>Q p<|Xw _ u;rw[XP,X5]at L;refine⟨X,C,S,⟨(I _ Xz).1,N y<|λp u=>(I p<|IN _<|Xw _ u).1,m4 y<|λp u=>(I p<|IN _<|Xn _ u).1,hw,λt f k hk hs=>?_,h.hf,z,h.gl,h.sl,h.ml⟩,λp u=>⟨(Q p<|Xn _ u).1,λhd=>?_⟩,L.2.1⟩
 .obtain⟨p,u,rfl⟩:=s2 k hs;exact(I p<|IN _<|Xw _ u).2<|A4<|A4<|A4<|A4 ⟨t,f,hk⟩
 have J:∀q∈(H,159,yt R Y X C)::(Z++d),q.1≠p.1:=λq r e=>L.2.2 _ (Xq.2 ⟨q,r,W⟩) _ (Xq.2 ⟨p,u,W⟩) e;have D:=(Q p<|Xn _ u).2;rcases hd with e|e|e|e|e|e|e|e
 .exact J _ Xz e.symm
 .exact D (LZ e)
 .obtain⟨q,r,o⟩:=s2 _ e;exact J q (IN _<|Xw _ r) o
 .obtain⟨q,r,o⟩:=c _ e;exact J q (IN _<|Xn _ r) o
 .exact D (A4<|LZ e)
 .exact D (A4<|A4<|LZ e)
 .exact D (A4<|A4<|A4<|LZ e)
 exact D<|A4<|A4<|A4<|A4 e
def DQ.calls{f:FuncId}(h:DQ O H Y R l x)(J:∀C,WQ O Y R.w C x->cP f args x (Wp O Y P v C x)):cP f args x (Dp O H Y {R with w:=P} v l x):=by let⟨C,G,E⟩:=h.world;refine(J _ G).mono ?_;rintro e y⟨rfl,I,D⟩;exact⟨W,E P y I D.size,D⟩
end
section
variable {x0:WD}{R R0 R' tr:RS}{l L:hZ}{Ss:List RS}{ty:Vr}
def pV(R:RS):RS:={R with ac:=0,ao:=0,st:=[],mem:=[],aa:=⟨#[]⟩}
def QO(R:RS):RS:=if R.aR=true then fA R else R
structure Sm(R S:RS):Prop where
 hd:pV S=pV R
 ac:S.ac<=R.ac
 ov:R.ao=3->S.ao=3
 aa:S.aa=R.aa
theorem Sm.refl(R:RS):Sm R R:=⟨W,DO _,id,W⟩
theorem Sm.trans{R S T:RS}(h:Sm R S)(k:Sm S T):Sm R T:=⟨k.hd.trans h.hd,By k.ac h.ac,λe=>k.ov<|h.ov e,k.aa.trans h.aa⟩
def JI{R:RS}:¬(fA R).ao=0:=by show¬(3:Nat)=0;decide
theorem hM(R:RS):Sm R (fA R):=⟨W,DO _,λ_=>W,W⟩
theorem kI(n:Nat)(R:RS):Sm R (dU n R):=by
 unfold dU;split
 .exact hM R
 exact⟨rfl,K2,id,rfl⟩
theorem ee(R:RS):Sm R (dA R).2:=by
 unfold dA;split
 .exact hM R
 split
 .exact hM R
 exact⟨W,DO _,id,W⟩
theorem iQ(n:Nat)(R:RS):Sm R (eN n R):=by
 unfold eN;split
 .exact hM R
 exact⟨W,DO _,id,W⟩
theorem Bv(C:Nat):∀(k:Nat)(R:RS),Sm R<|jI k C R
 |0,R=>Sm.refl R
 |k+1,R=>by
  unfold jI;split
  .refine Sm.trans ?_ (Bv C k _);have h:=kI 3 R;exact⟨h.hd,h.ac,h.ov,h.aa⟩
  exact Sm.refl R
def gy(a n:Nat)(R:RS):Sm R (dJ a n R).2:=by grind[dJ,Sm.refl,hM,Bv]
theorem EE{s:BA}{R:RS}:Sm R (gT a s R):=⟨rfl,DO _,id,rfl⟩
def E8(R:RS):Sm R (QO R):=by grind[QO,hM,Sm.refl]
section
variable {S:RS}
def Sm.ae(h:Sm R S):S.ae=R.ae:=by have:=Xl RS.ae h.hd;exact this
def Sm.data(h:Sm R S):S.data=R.data:=by have:=Xl RS.data h.hd;exact this
def Sm.aI(h:Sm R S):S.aI=R.aI:=by have:=Xl RS.aI h.hd;exact this
def Sm.depth(h:Sm R S):S.depth=R.depth:=by have:=Xl RS.depth h.hd;exact this
def Sm.pc(h:Sm R S):S.pc=R.pc:=by have:=Xl RS.pc h.hd;exact this
def Sm.w(h:Sm R S):S.w=R.w:=by have:=Xl RS.w h.hd;exact this
end
def du{α β:Type}(p:α×RS)(k:α->RS->β):β:=k p.1 p.2
theorem dW{α β:Type}(a:α)(R:RS)(k:α->RS->β):du (a,R) k=k a R:=rfl
def fK{β:Type}(R:RS)(k:RS->β):β:=k R
theorem uX(C:Nat):∀(k:Nat)(R:RS),R.mem.length<=(jI k C R).mem.length
 |0,R=>DO _
 |k+1,R=>by
  unfold jI;split
  .exact By (by show R.mem.length<=(R.mem++_).length;simp) (uX C k _)
  omega
theorem Jk(C:Nat):∀(k:Nat)(R:RS),(jI k C R).ao=0->R.ao=0
 |0,R,h=>h
 |k+1,R,h=>by grind[jI]
structure Tq(R S:RS)(p n:Nat):Prop where
 bN:S.ao=0->p+n<=S.mem.length/\p+n<=65536
 p7:p<=70000
 n7:n<=70000
 mo:R.mem.length<=S.mem.length
 ov:S.ao=0->R.ao=0
theorem Dh(C:Nat):∀(k:Nat)(R:RS),(jI k C R).ao=0->C<=R.mem.length+32*k->C<=(jI k C R).mem.length
 |0,R,_,h=>by show C<=R.mem.length;omega
 |k+1,R,h0,h=>by
  unfold jI at h0⊢;split
  .rename_i E;rw[At E]at h0;refine Dh C k _ h0 ?_;show C<=(R.mem++List.replicate 32 0).length+32*k;grind
  grind
def vH(a:Nat):ec a 70000<=70000:=by grind[ec]
def oV(a n:Nat)(R:RS):Tq R (dJ a n R).2 (dJ a n R).1.1 (dJ a n R).1.2:=by
 have G:∀S:RS,(S.ao=0->R.ao=0)->R.mem.length<=S.mem.length->Tq R S 0 0:=λS E C=>⟨λ_=>⟨In _,In _⟩,In _,In _,C,E⟩
 unfold dJ;split
 .grind
 split
 .grind[fA]
 split
 .exact G _ (Jk _ _ _) (uX _ _ _)
 rename_i E C J;refine⟨λh=>⟨Dh _ _ _ h ?_,?_⟩,vH a,vH n,uX _ _ _,Jk _ _ _⟩
 .show ec a 70000+ec n 70000<=_;omega
 show ec a 70000+ec n 70000<=_;omega
structure Sx(O H Y:Nat)(x:WD)(R0 R:RS)(l:hZ)(y:WD):Prop where
 q:DQ O H Y R l y
 b:Below O x y
 s:Sm R0 R
abbrev bx(b a:Nat):Nat×Nat×Tn:=(b,24,[lu a 0,lu a 1,lu a 2,lu a 3])
section
variable {Q:Ending->X4}{f:FuncId}
def Sx.start(h:DQ O H Y R l x):Hd (Sx O H Y x R R l x):=⟨h,dO _ _,Sm.refl _⟩
def Sx.c(o:Nat)(h:Sx O H Y x R0 R l y)(e:∀X C,(yt R Y X C)[o]?=some v):cL y H o v:=(h.q.cell e).1
def Sx.cs(j b a:Nat)(h:Sx O H Y x R0 R l y)(e:l[j]?=some (bx b a)):cL y b 0 (lu a 0)/\cL y b 1 (lu a 1)/\cL y b 2 (lu a 2)/\cL y b 3 (lu a 3)/\∀i,y.frozen? ⟨b,i,none⟩=false:=by let⟨X,C,V,E,J,_⟩:=h.q;have G:=(J _<|Xe e).1;exact⟨G.cell W,G.cell W,G.cell W,G.cell W,World.rowIs.frozen G⟩
def Sx.below{y':WD}(h:Sx O H Y x R0 R l y)(hb:bW y y'):Sx O H Y x R0 R l y':=⟨h.q.below hb,h.b.trans<|hb.mono h.q.hb.1,h.s⟩
def jG{C:RS}(E:RS)(e:C=E)(h:DQ O H Y R l x)(k:∀tr,Hd (tr=E)->Hd (Sx O H Y x R R l x)->cP f args x (Dp O H Y tr v l x)):cP f args x (Dp O H Y C v l x):=k C e<|Sx.start h
def TX{K:RS->RS}(P:cP f args y<|Dp O H Y R' v l y)(U:Hd<|tr=fK R' K)(h:Hd<|Sx O H Y x R0 R l y)(V:Sm R R')(k:∀E C,Hd (tr=K E)->Hd (Sx O H Y x R0 E l C)->Q (.returned v) C):cP f args y Q:=by refine P.mono ?_;rintro e C⟨rfl,G,J⟩;exact k R' C U ⟨G,h.aa.b.trans J,h.aa.s.trans V⟩
def gR{K:RS->RS}(n:Nat)(G:Hd<|tr=fK (dU n R) K)(h:Hd<|Sx O H Y x R0 R l y)(k:∀C E,Hd (tr=K C)->Hd (Sx O H Y x R0 C l E)->Q AG E)(hn:n<=10000000:=by omega):cP 123 #[pt H,iI (n:Int)] y Q:=TX (vx n hn h.aa.q) G h (kI n R) k
def fE{K:Nat->RS->RS}(P:Hd<|tr=du (dA R) K)(h:Hd<|Sx O H Y x R0 R l y)(k:∀a E C,Hd (tr=K a E)->Hd (Sx O H Y x R0 E (bx C.heap.size a::l)<|C.alloc<|wc a)->Q (.returned<|wv a) C):cP 124 #[pt H] y Q:=by refine(pB h.aa.q).mono ?_;rintro e C⟨rfl,G,J⟩;exact k _ _ C P ⟨G.aW _ _ _ _,(h.aa.b.trans J).trans<|(ai (dO _ C) _).mono G.hb.1,h.aa.s.trans<|ee R⟩
def w_tak{K:Nat->RS->RS}(P:Hd<|tr=du (dA R) K)(h:Hd<|Sx O H Y x R0 R l y)(k:∀a E C,Hd (tr=K a E)->Hd (Sx O H Y x R0 E l C)->Q (.returned<|wv a) C):cP 124 #[pt H] y Q:=by refine(pB h.aa.q).mono ?_;rintro e C⟨rfl,G,J⟩;exact k _ _ C P ⟨G,h.aa.b.trans J,h.aa.s.trans<|ee R⟩
def qm{K:Nat×Nat->RS->RS}(a n:Nat)(P:Hd<|tr=du (dJ a n R) K)(h:Hd<|Sx O H Y x R0 R l y)(k:∀p m E C,Hd (tr=K (p,m) E)->Hd (Sx O H Y x R0 E l C)->Hd (Tq R E p m)->Q (.returned<|.tuple #[iI (p:Int),iI (m:Int)]) C):cP 183 #[pt H,wv a,wv n] y Q:=by refine(tX a n h.aa.q).mono ?_;rintro e C⟨rfl,G,J⟩;exact k _ _ _ C P ⟨G,h.aa.b.trans J,h.aa.s.trans<|gy a n R⟩<|oV a n R
def vK(E:cP f args y λe C=>e=.returned v/\bW y C)(h:Hd<|Sx O H Y x R0 R l y)(k:∀C,Hd (Sx O H Y x R0 R l C)->Q (.returned v) C):cP f args y Q:=by refine E.mono ?_;rintro e C⟨rfl,G⟩;exact k C<|h.aa.below G
def lT(E:cP f args y<|lI y n)(h:Hd<|Sx O H Y x R0 R l y)(k:∀C,Hd (Sx O H Y x R0 R l C)->Q (.returned<|wv n) C):cP f args y Q:=by refine E.mono ?_;rintro e C⟨r,G,rfl,J⟩;rw[G.aa];exact k C<|h.aa.below J
def gf(J:cP f args y<|Dp O H Y R' v l y)(P:Hd<|tr=R')(h:Hd<|Sx O H Y x R0 R l y)(k:∀C,Hd (DQ O H Y tr l C/\Below O x C)->Q (.returned v) C):cP f args y Q:=by refine J.mono ?_;rintro e C⟨rfl,E,G⟩;rw[<-P.aa]at E;exact k C ⟨E,h.aa.b.trans G⟩
def Sx.aZ(h:Sx O H Y x R0 R l y)(E:Hd<|tr=R):Hd (DQ O H Y tr l y/\Below O x y):=by have C:=h.q;rw[<-E.aa]at C;exact⟨C,h.b⟩
end
def PhDq(O H Y:Nat)(Ss:List RS)(L:hZ)(x0:WD)(k:Nat)(x:WD):=∃S,Ss[k]?=some S/\DQ O H Y S L x/\Below O x0 x
def Ld0(O H Y:Nat)(S:RS)(L:hZ)(I:Vm)(D:Td)(es:Es)(Q:Y6)(o:Oper)(d:Yt)(E:En):=
 ∀(s:Act)(x:WD),DQ O H Y S L x->(∀t c,pg I D es o t=some c->s.tmps.getD t undef=c)->
  ∀K:K6,(∀v x',bW x x'->(d=none->v=undef)->E.kp 0 v x'->K (s.put d v) x')->Oper.wp prog o s x K Q
def Cl0(O H Y:Nat)(Ss:List RS)(L:hZ)(I:Vm)(D:Td)(es:Es)(Q:Y6)(p:Nat)(o:Oper)(d:Yt)(E:En):=
 ∀(s:Act)(x:WD)(S:RS),Ss[p]?=some S->DQ O H Y S L x->(∀t c,pg I D es o t=some c->s.tmps.getD t undef=c)->
  ∀K:K6,(∀v x' S',Ss[p+1]?=some S'->DQ O H Y S' L x'->Below O x x'->(d=none->v=undef)->E.kp 0 v x'->K (s.put d v) x')->Oper.wp prog o s x K Q
theorem AllOb.all{α:Type}{I:Vm}{es:List<|Yt×α}{B:Nat->Nat->Oper->Yt->α->Prop}{Cq9:Nat->Prop}:∀{l:Tl}{p:Nat},(∀i∈l,Cq9 i)->AllOb I es B p l->AllOb I es (λp i o d E=>Cq9 i/\B p i o d E) p l
 |[],_,_,_=>trivial
 |_::_,_,hC,h1=>⟨wm (B:=λp i o d E=>Cq9 i/\B p i o d E) λo d E C G=>⟨hC _<|Xz ..,AllOb.hd h1 o d E C G⟩,AllOb.all (λi J=>hC i<|IN _ J) h1.2⟩
def VK{E:En}(h:E.bF=true){v:VL}{x y:WD}(C:E.kp k v x):E.kp j v y:=by
 cases E with
 |inl c=>exact C
 |inr T=>cases h
def rj{O H Y:Nat}{I:Vm}{Q:Y6}{id:Nat}{a:Act}{w:WD}{L:hZ}{R0:RS}(Ss:List RS){A e:RS}(D:Td)(es:Es)(P loads:Tl)(u:((es.all λp=>p.2.bF)&&(loads.all λi=>P.isEmpty||qU I 3 (P.getD 0 0) i))=true)(hS:Ss[0]?=some A/\Ss[P.length]?=some e/\Ss.length=P.length+1)(h:Hd<|Sx O H Y x0 R0 A L w)(J:AllOb I es (λp _=>Cl0 O H Y Ss L I D es Q p) 0 P)(C:AllOb I es (λ_ _=>Ld0 O H Y A L I D es Q) 0 loads)(Z:∀x,Hd (DQ O H Y e L x/\Below O x0 x)->Q .normal (dQ a<|se (λ_=>undef) es 0) x)(ha:Gr I a D es P loads [] []:=by exact⟨N0,R5,R5,N0⟩):(Code.region id I true).wp prog Q a w:=by
 rw[Xo]at u;let⟨G,hx2⟩:=u;have hv:∀{i:Nat}{d:Option _}{E:En},es[i]?=some (d,E)->E.bF=true:=λF=>Xp.1 G _<|Xe F;have hfe:∀(g:Vp)(es:Es)(i:Nat),(es.all λp=>p.2.bF)=true->se g es i=se (λ_=>undef) es i:=λg es=>by
  induction es with
  |nil=>intro i _;rfl
  |cons p r ih=>
   intro i u;rw[List.all_cons,Xo]at u;let⟨d,E⟩:=p;cases d with
   |none=>exact ih _ u.2
   |some d=>
    cases E with
    |inl c=>exact Xl _<|ih _ u.2
    |inr T=>cases u.1
 refine dy (PhDq O H Y Ss L x0) (λ_ _ _=>True) _ es _ _ (ha:=ha) ?_ ?_ ?_ ?_ (λ_ _ _ h=>(mE G h).elim) (λ_ _ _ h=>(mE G h).elim) ?_
 .exact⟨A,hS.1,h.aa.q.below (dO _ _).drew,h.aa.b.drew⟩
 .rintro k x m ⟨S,X,U,z⟩ hb;exact⟨S,X,U.below hb,z.trans<|hb.mono U.hb.1⟩
 .refine AllOb.mono (λp i o d E F N s x hdf hl K V hvv hK=>?_) J;let⟨S,X,U,z⟩:=V;exact N s x S X U @hvv K λv m S' k0 u k2 k3 k4=>hK v m ⟨S',k0,u,z.trans k2⟩ AF k3<|VK (hv F) k4
 .refine AllOb.mono (λp i o d E F N k s x hk hlo hdf hl K hhi V hvv hK=>?_) (AllOb.all (λi hi=>Xp.1 hx2 i hi) C);let⟨S,X,U,z⟩:=V;have hk0:k=0:=by
   cases hc:P with
   |nil=>rw[hc]at hk;simpa using hk
   |cons c r=>have:=N.1;rw[hc]at this;exact Yn.1<|hhi 0 c (by rw[hc];rfl)<|by simpa using this
  subst hk0;cases(hV (hS.1.symm.trans X):A=S);exact N.2 s x U @hvv K λv m u k2 k3=>hK v m u k2<|VK (hv F) k3
 rintro g m⟨S,X,U,z⟩_;cases(hV (hS.2.1.symm.trans X):e=S);rw[hfe g es 0 G];exact Z m ⟨U,z⟩
section
variable {S S':RS}{D:Td}{Q:Y6}{T:Vr}{o:Oper}{f:FuncId}
def lc(he:pg I D es ⟨some d,.load T<|.tmp t,ty,pos,af,gd⟩ t=some (pq H off))(E:∀X C,(yt S Y X C)[off]?=some v)(hA:∀w,(isAgg T).run prog w=.ok false w:=by exact λ_=>N0):Ld0 O H Y S L I D es Q ⟨some d,.load T<|.tmp t,ty,pos,af,gd⟩ (some d) (.v v):=λs x h J K G=>dm (hA:=hA) (J t _ he) (h.cell E).1<|kx G
def lw(he:pg I D es ⟨some d,.load 24<|.tmp t,ty,pos,af,gd⟩ t=some (pq H off))(E:∀X C,(yt S Y X C)[off]?=some (lu n 0)/\(yt S Y X C)[off+1]?=some (lu n 1)/\(yt S Y X C)[off+2]?=some (lu n 2)/\(yt S Y X C)[off+3]?=some (lu n 3)):Ld0 O H Y S L I D es Q ⟨some d,.load 24<|.tmp t,ty,pos,af,gd⟩ (some d) (.v<|wv n):=λs x h J K G=>dD (J t _ he) (h.cell λa b=>(E a b).1).1 (h.cell λa b=>(E a b).2.1).1 (h.cell λa b=>(E a b).2.2.1).1 (h.cell λa b=>(E a b).2.2.2).1<|kx G
def Oh(j:Nat)(he:pg I D es ⟨some d,.load 24<|.tmp t,ty,pos,af,gd⟩ t=some (pt b))(C:L[j]?=some (bx b n)):Ld0 O H Y S L I D es Q ⟨some d,.load 24<|.tmp t,ty,pos,af,gd⟩ (some d) (.v<|wv n):=λs x h J K E=>by let⟨G,c1,c2,c3,_⟩:=Sx.cs j b n ⟨h,dO _ _,Sm.refl _⟩ C;exact dD (J t _ he) G c1 c2 c3<|kx E
def lr(C:o.dst=some d)(J:∀x,cP f args x λe G=>e=.returned v/\bW x G)(he:∀s x,(execOp (pG (pg I D es o) s) o).run prog x=.ok (.enter f args) x:=by intros;kernel_rfl):Ld0 O H Y S L I D es Q o (some d) (.v v):=λs x h P K E=>by refine o6 P (J x) (he:=he s x) (λu z h=>?_) (λl z h=>absurd h.1 K2)<|λz h=>absurd h.1 K2;let⟨e,P⟩:=h;injection e with e;subst e;rw[C];exact E _ z P nn1 W
def lR(C:o.dst=some d)(E:∀x,cP f args x<|lI x n)(he:∀s x,(execOp (pG (pg I D es o) s) o).run prog x=.ok (.enter f args) x:=by intros;kernel_rfl):Ld0 O H Y S L I D es Q o (some d) (.v<|wv n):=lr C (he:=he) λx=>(E x).mono λe J h=>by obtain⟨r,G,rfl,P⟩:=h;exact⟨by rw[G.aa],P⟩
def oc(E:Ss[p]?=some S/\Ss[p+1]?=some S')(G:o.dst=some d)(P:∀x,DQ O H Y S L x->cP f args x (Dp O H Y S' v L x))(he:∀s x,(execOp (pG (pg I D es o) s) o).run prog x=.ok (.enter f args) x:=by intros;kernel_rfl):Cl0 O H Y Ss L I D es Q p o (some d) (.v v):=λs x S1 C h U K J=>by cases(hV (E.1.symm.trans C):S=S1);refine o6 U (P x h) (he:=he s x) (λu z h=>?_) (λl z h=>absurd h.1 K2)<|λz h=>absurd h.1 K2;let⟨e,C,U⟩:=h;injection e with e;subst e;rw[G];exact J _ z S' E.2 C U nn1 W
end
variable {w:WD}
def Bc(Jq9:X4):=∀x y,Jq9 x->bW x y->Jq9 y
def WL(Jq9:X4)(I:Vm)(D:Td)(es:Es)(Q:Y6)(o:Oper)(d:Yt)(E:En):=
 ∀(s:Act)(x:WD),Jq9 x->(∀t c,pg I D es o t=some c->s.tmps.getD t undef=c)->
  ∀K:K6,(∀v x',bW x x'->(d=none->v=undef)->E.kp 0 v x'->K (s.put d v) x')->Oper.wp prog o s x K Q
theorem QQ(g:Vp)(es:Es):∀(i:Nat),(es.all λp=>p.2.bF)=true->se g es i=se (λ_=>undef) es i:=by
 induction es with
 |nil=>intro i _;rfl
 |cons p r C=>
  intro i G;rw[List.all_cons,Xo]at G;let⟨d,E⟩:=p;cases d with
  |none=>exact C _ G.2
  |some d=>
   cases E with
   |inl c=>exact Xl _<|C _ G.2
   |inr T=>cases G.1
def Gs{I:Vm}{Q:Y6}{id:Nat}{a:Act}{Jq9:X4}(D:Td)(es:Es)(loads:Tl)(L:(es.all λp=>p.2.bF)=true)(R:Bc Jq9)(h:Jq9 w)(C:AllOb I es (λ_ _=>WL Jq9 I D es Q) 0 loads)(J:∀x,Jq9 x->Q .normal (dQ a<|se (λ_=>undef) es 0) x)(ha:Gr I a D es [] loads [] []:=by exact⟨N0,R5,R5,N0⟩):(Code.region id I true).wp prog Q a w:=by
 have m:∀{i:Nat}{d:Option _}{E:En},es[i]?=some (d,E)->E.bF=true:=λO=>Xp.1 L _<|Xe O;refine dy _ (λ_ _ _=>True) _ es [] _ (R _ _ h (dO _ _).drew) (λ_ x H h c=>R x H h c) True.intro ?_ (λ_ _ _ h=>(mE L h).elim) (λ_ _ _ h=>(mE L h).elim) ?_ ha
 .exact AllOb.mono (λp i o d E O z k s x c y V c K Z G P Y=>z s x G P K λv H U j X=>Y v H U j<|VK (m O) X) C
 grind[QQ]
section
variable {D:Td}{T:Vr}{o:Oper}{f:FuncId}{p:Addr}
def jc(he:pg I D es ⟨some d,.load T<|.tmp t,ty,pos,af,gd⟩ t=some (.pointer<|some p))(C:∀x,Jq9 x->x.cell? p=some v)(hA:∀w,(isAgg T).run prog w=.ok false w:=by exact λ_=>N0):WL Jq9 I D es Q ⟨some d,.load T<|.tmp t,ty,pos,af,gd⟩ (some d) (.v v):=λs x h G K E=>dm (hA:=hA) (G t _ he) (C x h)<|kx E
def Wd(x:WD)(b o n:Nat):=x.cell? ⟨b,o,none⟩=some (lu n 0)/\x.cell? ⟨b,o+1,none⟩=some (lu n 1)/\x.cell? ⟨b,o+2,none⟩=some (lu n 2)/\x.cell? ⟨b,o+3,none⟩=some (lu n 3)
def jw(he:pg I D es ⟨some d,.load 24<|.tmp t,ty,pos,af,gd⟩ t=some (pq b off))(C:∀x,Jq9 x->Wd x b off n):WL Jq9 I D es Q ⟨some d,.load 24<|.tmp t,ty,pos,af,gd⟩ (some d) (.v<|wv n):=λs x h G K E=>dD (G t _ he) (C x h).1 (C x h).2.1 (C x h).2.2.1 (C x h).2.2.2<|kx E
def jv(he:∀s x,(execOp (pG (pg I D es o) s) o).run prog x=.ok (.value v) x)(C:o.dst=some d):WL Jq9 I D es Q o (some d) (.v v):=λs x h G K E=>rR G (he s x) (by rw[C];exact E _ x (dO _ _) nn1 W)
def jl(C:o.dst=some d)(H:∀x,Jq9 x->cP f args x λe G=>e=.returned v/\bW x G)(he:∀s x,(execOp (pG (pg I D es o) s) o).run prog x=.ok (.enter f args) x:=by intros;kernel_rfl):WL Jq9 I D es Q o (some d) (.v v):=λs x h J K E=>by refine o6 J (H x h) (he:=he s x) (λu z h=>?_) (λl z h=>absurd h.1 K2)<|λz h=>absurd h.1 K2;let⟨e,J⟩:=h;injection e with e;subst e;rw[C];exact E _ z J nn1 W
end
variable {ss:Tl}
section
open Go.RowKit Go.Maps Go.Sort Go.Shelf
def rf(f:Nat->Option VL)(ss:Tl):=ss.Nodup/\∀m,m∈ss↔m<M/\(f m).isSome=true
def CollW(D:DataW VL)(left:Lit->Bool)(ss:Tl):=ss.Nodup/\∀m,m∈ss↔m<M/\∀kl,keyOf prog 24 (wv m)=some kl->has D kl=true/\left kl=false
def CollW.start(D:DataW VL):CollW D (has D) []:=by refine⟨qac,λm=>Iff.intro (λh=>absurd h K2)<|λh=>?_⟩;let⟨l,C⟩:=rI m;grind
def CollW.step{D:DataW VL}{left:Lit->Bool}(h:CollW D left ss){x:Nat}(Q:x<M){y:DataW VL}(U:keyOf prog 24 (wv x)=some kl)(P:left kl=true)(E:∀O,D.atKey kl O=y):CollW D (λz=>left z&& !z.sameKey kl) (ss++[x]):=by
 have H:x∉ss:=λC=>by have:=(((h.2 x).1 C).2 kl U).2;grind
 refine⟨X5.2 ⟨h.1,K2,λa R b V=>K9⟩,λm=>?_⟩;by_cases I:m=x
 .subst I;refine⟨λ_=>⟨Q,λl V=>?_⟩,λ_=>K2⟩;cases(hV (V.symm.trans U):l=kl);exact⟨has_true_of_atKey E,by simp[WideAt.sameKey_self<|wd_keyed.key U]⟩
 rw[Xr];refine⟨λC=>?_,λC=>LZ<|(h.2 m).2 ⟨C.1,λl V=>?_⟩⟩
 .rcases C with C|C
  .obtain⟨G,L⟩:=(h.2 m).1 C;grind
  grind
 let⟨G,L⟩:=C.2 l V;refine⟨G,?_⟩;have J:l≠kl:=λe=>I (by have:=xf<|wd_keyed.inj (e▸V) U;grind);grind[sameKey_ne]
def CollW.done{D:DataW VL}{left:Lit->Bool}{g:VL->Option VL}{f:Nat->Option VL}(h:CollW D left ss)(H:∀kl,left kl=false)(E:∀v l,keyOf prog 24 v=some l->has D l=(g v).isSome)(G:∀m,g (wv m)=f m):rf f ss:=by refine⟨h.1,λm=>?_⟩;rw[h.2 m];refine and_congr Iff.rfl ⟨λC=>?_,λC kl G=>⟨K9,H kl⟩⟩;let⟨kl,G⟩:=rI m;grind
abbrev FA:Fence:={fn:=λ_=>True}
def grownBy_alloc(w:WD){o:Obj}:w.grownBy (w.alloc o) none:=⟨W,W,W,K2,λk C _=>YH _ _ k C⟩
def V7(x:Nat):x%M<M:=Xs _ K2
abbrev gQ{d:Nat}(_:0<=d):Nat:=d
def nn{h tm tv:Nat}(t:(h=136/\tm=89/\tv=95)\/(h=193/\tm=93/\tv=24))(n:Nat)(hn:1<=n)(l S b J:Nat)(f:Nat->Option VL)(Jq9:Tl->X4)(s:∀pre x q,Jq9 pre q->pre.length<J->YieldAt FA (n-1) prog l #[wv x] q λe W'=>e=.returned (.bool true)/\Jq9 (pre++[x]) W'/\KeepsWalks q W')(q:WD)(R:AbidesFrom q.heap.size Jq9)(u:cL q S 0<|.map<|some b)(ha:AM q b J f)(u:Jq9 [] q):CallsIn FA n prog h #[.func (.yield l) #[] #[],pt S] q λe W'=>(∃v,e=.returned v)/\∃ss:Tl,rf f ss/\Jq9 ss W':=by
 let⟨g,⟨O,E,T⟩,hf⟩:=ha;have k:=E.size_le;have a:0<=tm:=In _;have h2:0<=tv:=In _;rcases t with⟨rfl,rfl,rfl⟩|⟨rfl,rfl,rfl⟩;all_goals
  first|refine callsIn_of_wp func136 rfl AF ?_ rfl|refine callsIn_of_wp func193 W AF ?_ W
  simp only[ntmps136,ntmps193,YU,X2,Y5,Nat.reduceAdd,Nat.reduceSub,Zy,Zz,Z4,ZJ,XG,XN]
  gi_wp2_with (first
   |(gi_at_range;refine wpListIn_range_own _ rfl _ (gQ a) rfl 24 (gQ h2) wd_keyed N0 _ b J _ rfl E ?_;intro a L V F)
   |gi_in)
  go_frame
  gi_loopw [3] (λ_ wr=>∃(left:Lit->Bool)(bm:Nat)(ss:Tl),wr.ranges prog 24 xi b q.heap.size J O left bm/\ss.length+bm<=Maps.size O/\CollW O left ss/\Jq9 ss wr)
   (λ_ wr=>wr.rangeLeft b q.heap.size)
  case atStart=>exact⟨_,_,[],L,K2,CollW.start O,R [] q a _ u V<|λr e=>by cases e⟩
  let⟨left,bm,ss,G,i,A,I⟩:=hrel
  gi_wp2_with (first
   |(gi_at_next;refine wpListIn_next_ranges _ rfl _ rfl 24 wd_keyed _ wv id (λN kl u=>r7 u) (λv _ _=>⟨v,rfl⟩) b _ J _ _ _ rfl G ?_ ?_)
   |gi_in)
  .intro hc0 Q
   gi_wp2
   go_end0;exact⟨⟨_,W⟩,ss,A.done Q (λv l u=>(T v l u).1) hf,I⟩
  intro x c kl u u P z C U u d H X j K m;obtain⟨x',Y,u⟩:∃x',x'<M/\wv x=wv x':=⟨_,V7 x,iL (Yu x M).symm⟩
  rw[u]at C m;rw[u];have o:Jq9 ss (P.alloc<|.cells #[lu x' 0,lu x' 1,lu x' 2,lu x' 3] 24):=R ss P _ _ (R ss wr P (some q.heap.size) I j (λr e=>by cases e;exact⟨DO _,G.iter_walk⟩)) (grownBy_alloc _) (λr e=>by cases e);let⟨fn,tmps,assign,body,y,q⟩:=s ss x' _ o wq;have y:(Instr.yield l #[.agg _]).run _ _=.ok _ _:=y
  gi_wp2
  refine q.mono ?_;rintro e W3⟨rfl,Z,p⟩
  gi_wp2
  have D:=(H.of_walks<|KeepsWalks.alloc P<|.cells #[lu x' 0,lu x' 1,lu x' 2,lu x' 3] 24).of_walks p;go_roundw;case rel=>exact⟨_,_,_,D,K9,A.step Y C U d,Z⟩
  rwa[D.left_eq,G.left_eq]
def keys_a(mb:Yt)(w:WD):cP 75 #[.map mb] w λe C=>e=.returned (.func (.func 136) #[] #[pt w.heap.size])/\C=w.alloc (.cells #[.map mb] 89):=by go_enter func75,ntmps75;go_wp2;go_ret;simp
def Q9(n:Nat)(hn:1<=n){C:Nat}(b G:Nat){f:Nat->Option VL}(D:C<w.heap.size)(I:cL w C 0<|.map<|some b)(ha:AM w b G f):SeqGives FA n prog 136 #[pt C] wv (rf f) G w:=λl E P H J O L=>nn (LZ ⟨W,W,W⟩) n hn l C b G f E O P J ((H.cell (p:=⟨C,0,none⟩) D).trans I) (ha.block<|H.block b ha.lt) L
def keys_s(mb:Yt)(w:WD):cP 137 #[.map mb] w λe C=>e=.returned (.func (.func 193) #[] #[pt w.heap.size])/\C=w.alloc (.cells #[.map mb] 93):=by go_enter func137,ntmps137;go_wp2;go_ret;simp
def VU(n:Nat)(hn:1<=n){C:Nat}(b G:Nat){f:Nat->Option VL}(D:C<w.heap.size)(I:cL w C 0<|.map<|some b)(ha:AM w b G f):SeqGives FA n prog 193 #[pt C] wv (rf f) G w:=λl E P H J O L=>nn (A4 ⟨W,W,W⟩) n hn l C b G f E O P J ((H.cell (p:=⟨C,0,none⟩) D).trans I) (ha.block<|H.block b ha.lt) L
end
end
section
variable {B:Nat}{w:WD}{ss:Tl}
section
open Go.RowKit Go.Maps Go.Sort Go.Shelf
def CQ:Code:=(Code.region 2 #[⟨some 5,.alloc 24,0,"iter.go:51",#[],none⟩,⟨none,.store 24 (.tmp 5)<|.tmp 7,0,"iter.go:51",#[⟨0,.data⟩,⟨0,.phase⟩],none⟩] false)
def Ns:Code:=(Code.block 1<|Code.region 3 #[⟨some 8,.load 110<|.tmp 2,110,"iter.go:52",#[],none⟩,⟨some 9,.load 24<|.tmp 5,24,"iter.go:52",#[],none⟩,⟨some 10,.buildSlice 110 1 #[(0,.tmp 9)],110,"iter.go:52",#[⟨1,.data⟩],none⟩,⟨some 11,.call ⟨.builtin Builtin.append,#[.tmp 8,.tmp 10],#[110,110]⟩,110,"iter.go:52",#[⟨0,.data⟩,⟨2,.data⟩],none⟩,⟨none,.store 110 (.tmp 2)<|.tmp 11,0,"iter.go:52",#[⟨3,.data⟩,⟨3,.chain⟩,⟨0,.phase⟩,⟨1,.phase⟩,⟨2,.phase⟩,⟨3,.phase⟩],none⟩] false)
def rB(fn:FuncId)(X:VL)(Bs D:Nat)(st:LoopState)(pend:Option Code):Loop:={state:=st,pending:=pend,fn,tmps:=#[.slice none 0 0,X,pt Bs,undef,.slice none 0 0,undef,X,undef,undef,undef,undef,undef,undef],params:=#[7],assign:=CQ,body:=Ns,defers:=D}
structure ApAt(w0:WD)(fn:FuncId)(X:VL)(Bs l D:Nat)(ss:Tl)(W:WD):Prop where
 box:∃v,W.heap[Bs]?=some (.cells #[v] 110 (0,0))/\W.ownsRow w0.heap.size 24 4 v ss.length (fj ss)
 L:W.heap[l]?=some (.loop (rB fn X Bs D .ready none))
 K:W.heap[D]?=some (.deferred (some []))
 below:Below w0.heap.size w0 W
def AA(H:WD)(fn:FuncId)(X:VL)(O l D:Nat)(P:H.heap.size<=B):AbidesFrom B (ApAt H fn X O l D):=λs U R row h G E=>by
 have C:∀r,row=some r->∃o:Obj,U.heap[r]?=some o/\o.isWalk=true:=λr e=>(E r e).2;let⟨v,J,U⟩:=h.box;exact⟨⟨v,(grownBy_keeps G C J W).trans J,ownsRow_abides_a U G C⟩,(grownBy_keeps G C h.L W).trans h.L,(grownBy_keeps G C h.K W).trans h.K,
  h.below.grown G h.below.size (λk e=>By P (E k e).1)⟩
def rN{F:Fence}{P:Program}{C:List Oper}{o:Oper}{a:Act}(O:o.guard=none){s x:Operand}{t:Vr}(H:o.op=Op.call {callee:=Callee.builtin Builtin.append,args:=#[s,x],argTypes:=#[t,t]}){vs J:VL}(U:a.eval s=vs)(R:a.eval x=J)(E:(Builtin.append_ #[t,t] o.type #[vs,J]).run P w=.ok v' w')(L:wpListIn F n P I Q C (a.put o.dst v') w'):wpListIn F n P I Q (o::C) a w:=by
 refine wpListIn_plain O λK G=>?_;unfold Oper.wpIn;refine⟨?_,?_⟩
 .simp_all[Oper.about,resolve,Target.leads]
 rw[Oper.semAt_plain F _ _ K9];simp[execOp,H,resolve,invoke,builtin,U,R,E,Result.andThen];exact G _ _ L
def Uo(F:WD)(fn:FuncId){G l:Nat}(y:G≠l)(a2:D≠l)(a:D≠G)(q:F.heap.size<=G)(i:F.heap.size<=l)
  (N:Nat)(b:N<=1000000000000)(x:Nat)(b:WD)(h:ApAt F fn X G l D ss b)(c:ss.length<N):
  YieldAt FA m prog l #[wv x] b λe W'=>e=.returned (.bool true)/\ApAt F fn X G l D (ss++[x]) W'/\KeepsWalks b W':=by
 obtain⟨i0,hi0,hz0,hz1,hz2⟩:=YI sy;refine⟨fn,_,_,_,by simpa[rB]using run_yield (P:=prog) (args:=#[wv x]) h.L W,roundIn_of_wpIn AF ?_⟩;have c:=(WY.1 h.L).1;obtain⟨Wa,Z⟩:∃Wa,b.alloc (.cells #[lu x 0,lu x 1,lu x 2,lu x 3] 24)=Wa:=⟨_,W⟩;have c:Wa.heap.size=b.heap.size+1:=by rw[<-Z];simp
 have hxa:Wa.cell? ⟨b.heap.size,0,none⟩=some (lu x 0)/\Wa.cell? ⟨b.heap.size,1,none⟩=some (lu x 1)/\Wa.cell? ⟨b.heap.size,2,none⟩=some (lu x 2)/\Wa.cell? ⟨b.heap.size,3,none⟩=some (lu x 3):=by
  rw[<-Z];refine⟨?_,?_,?_,?_⟩<;>simp[go_sem]
 have h:ApAt F fn X G l D ss Wa:=by
  rw[<-Z];exact AA F fn X G l D (DO _) ss b _ _ h (grownBy_alloc b)<|λr e=>by cases e
 obtain⟨v,hv,p⟩:=h.box;have c:=run_beginRound (P:=prog) h.L W;obtain⟨W2,R⟩:∃W2,Wa.putObj l (.loop {rB fn X G D .ready none with state:=.busy})=W2:=⟨_,W⟩;rw[R]at c;have T:Wa.grownBy W2 (some l):=by rw[<-R];exact grownBy_putObj_a _ _ _
 have f:W2.heap[G]?=some (.cells #[v] 110 (0,0)):=by rw[<-R];exact(World.putObj_heap_other y).trans hv
 have S:W2.heap[D]?=some (.deferred<|some []):=by rw[<-R];exact(World.putObj_heap_other a2).trans h.K
 have z:W2.heap[l]?=some (.loop {rB fn X G D .ready none with state:=.busy}):=by rw[<-R];exact World.putObj_heap_same<|(WY.1 h.L).1
 have E:=p.kept T (ownsRow_ne_a p h.L (λO e=>by first|cases e|exact hne (Zl e).2.1));have d:=h.below.grown T h.below.size (λk e=>by cases e;exact i);have c:=(WY.1 f).1;have hl2:=(WY.1 z).1;have a0:=(WY.1 S).1
 have H:∀{j:Nat}{o:Obj},W2.heap[j]?=some o->(∀O,o≠.cells _ 24 _)->some j≠v.ownBlock:=λhj c=>by
  rcases ownsRow_ne_a E hj c with e|e
  .rw[e];simp
  .exact λc=>e c.symm
 have g:W2.heap[b.heap.size]?=Wa.heap[b.heap.size]? :=T.block _ wq (λe=>by cases e;omega);obtain⟨x0,c,x2,x3⟩:=hxa;have x0:=(Xc g).trans x0;have c:=(Xc g).trans c;have x2:=(Xc g).trans x2;have x3:=(Xc g).trans x3;obtain⟨c,c⟩:=cell_of_box_a f;obtain⟨v',w3,a6,C,a1,c⟩:=fh _ F.heap.size 110 110 24 i0 _ 4 32 N0 hi0 hz0 hz1 hz2 W K3 v ss.length (fj ss) (dh E<|ai (dO _ W2) _) _ 1 1 [.int _<|cX x 0,.int _ _,.int _ _,.int _<|cX x 3] W (fJ W2 #[.int .u64 _,lu x 1,lu x 2,.int .u64 _] 24) (by intro u c;simp at c;rcases c with rfl|rfl|rfl|rfl<;>rfl) (by unfold maxLen;omega) wq (by have:=d.size;simp;omega);have A:=(a1.block G N3<|H f (λO e=>by first|cases e|exact hne (Zl e).2.1)).trans<|(YH _ _ G wq).trans f;obtain⟨c,c⟩:=cell_of_box_a A;obtain⟨a8,a7,t⟩:=dt C;subst t;have b0:=cV a6;have a5:=cV C;have c:=cV a1;unfold CQ
 gi_wp2_with gi_round_op_a
 unfold Ns
 gi_wp2_with (first
  |(gi_at_builtin;refine rN rfl rfl rfl rfl b0.aa ?_;go_frame)
  |gi_round_op_a)
 have C:=a5.aa;have J:=c.aa;have s:w3.heap[l]?=some (.loop {rB fn X G D _ _ with state:=.busy}):=(J.block l N3<|H z (λO e=>by first|cases e|exact hne (Zl e).2.1)).trans<|(YH _ _ l hl2).trans z;have a4:=(J.block D N3<|H S (λO e=>by first|cases e|exact hne (Zl e).2.1)).trans<|(YH _ _ D a0).trans S;obtain⟨w4,Y⟩:∃w4,w3.setCell ⟨G,0,none⟩ (.slice a8 (ss.length+1) a7)=w4:=⟨_,W⟩;rw[Y];have hg4:w3.grownBy w4 (some G):=by rw[<-Y];exact grownBy_setCell0_a _ _ _
 have hv4:w4.heap[G]?=some (.cells #[.slice a8 (ss.length+1) a7] 110 (0,0)):=by rw[<-Y];exact heap_setCell_box_a _ A
 have V:=(hg4.block l (WY.1 s).1<|λe=>y (by cases e;rfl)).trans s;have U:=C.kept hg4 (ownsRow_ne_a C A (λO e=>by first|cases e|exact hne (Zl e).2.1));have a3:=(d.alloc d.size _).grown J (by have:=d.size;simp;omega)<|λk e=>(E.lt k e).1;have a9:=a3.grown hg4 a3.size (λk e=>by cases e;exact q);have c:KeepsWalks b w4:=((((by rw[<-Z];exact KeepsWalks.alloc _ _:KeepsWalks b Wa).trans (by rw[<-R];exact KeepsWalks.putObj _ h.L W:KeepsWalks Wa W2)).trans<|KeepsWalks.alloc _ _).trans<|KeepsWalks.of_grownBy J<|ownsRow_not_walk_a<|E.alloc _).trans (by rw[<-Y];exact KeepsWalks.setCell _ _ _);refine⟨_,_,run_endRound _ V,W,⟨⟨_,(World.putObj_heap_other y).trans hv4,?_⟩,World.putObj_heap_same<|(WY.1 V).1,(World.putObj_heap_other a2).trans<|(hg4.block D (WY.1 a4).1<|λe=>a (by cases e;rfl)).trans a4,a9.grown (grownBy_putObj_a _ _ _) a9.size (λk e=>by cases e;exact i)⟩,c.trans<|KeepsWalks.putObj _ V W⟩;have:=U.kept (grownBy_putObj_a w4 l<|.loop {{rB fn X G D .ready none with state:=.busy}with state:=if (none:Option Code).isNone then .ready else .done,pending:=none}) (ownsRow_ne_a U V (λO e=>by first|cases e|exact hne (Zl e).2.1));rw[lB,Xm];exact this
def CW(hn:2<=n)(g:Nat)(lb:Ys)(y:∀args w,(callFunc g args).run prog w=.ok (.enter g args) w)(S:Tl->Prop)(N:Nat)(A:N<=1000000000000)(U:SeqGives FA (n-1) prog g lb wv S N w):CallsIn FA n prog 190 #[.slice none 0 0,.func (.func g) #[] lb] w λe w'=>∃(v:VL)(ss:Tl),e=.returned v/\S ss/\w'.ownsRow w.heap.size 24 4 v ss.length (fj ss)/\bW w w':=by
 refine callsIn_of_wp_marks func190 W AF ?_ W;simp only[ntmps190,YU,X2,Y5,Nat.reduceAdd,Nat.reduceSub,Zy,Zz,Z4,ZJ,XG,XN]
 gi_wp2
 refine wpIn_rangeFunc ?_;intro fn F;rw[show FA.round=none from W];obtain⟨W0,E⟩:∃W0,w.alloc (.cells #[.slice none 0 0] 110)=W0:=⟨_,W⟩
 have h:W0.heap.size=w.heap.size+1:=by rw[<-E];simp
 have J:bW w W0:=by rw[<-E];exact(dO _ w).alloc (DO _) _
 rw[E];obtain⟨W1,Y⟩:∃W1,(W0.alloc<|.deferred<|some []).alloc (.loop<|rB fn (.func (.func g) #[] lb) w.heap.size W0.heap.size .ready none)=W1:=⟨_,W⟩
 have d:∀k,k<W0.heap.size->W1.heap[k]?=W0.heap[k]? :=λk b=>by grind[YH,trans]
 have b:bW w W1:=by rw[<-Y];exact(J.alloc J.size _).alloc (by have:=J.size;simp;omega) _
 have o:ApAt w fn (.func (.func g) #[] lb) _ (W0.heap.size+1) W0.heap.size [] W1:=
  ⟨⟨_,(d _ wq).trans (by rw[<-E];exact World.alloc_heap_new w _:W0.heap[w.heap.size]?=some (.cells #[.slice none 0 0] 110 (0,0))),⟨W,.inl ⟨W,W⟩⟩⟩,
   by grind[World.alloc_heap_new,rB,lb,World.size_alloc],
   by grind[YH,trans,World.alloc_heap_new],b⟩
 refine⟨W0.heap.size+1,[{target:=.collected W0.heap.size,args:=#[]}],W1,{target:=.fn (.func g) lb,args:=#[.func (.yield<|W0.heap.size+1) #[] #[]]},W1,g,
  #[.func (.yield<|W0.heap.size+1) #[] #[]]++lb,W1,?_,?_,?_,?_,λ_=>(wq:1<=n),?_⟩
 .rw[<-Y];exact run_enterLoop_outer _ _ _ _ _
 .simp[resolve,go_sem]
 .simp
 .simp[invoke,go_sem,y]
 refine(U _ _ W1 b (AA _ _ _ _ _ _ b.size)
  (λpre x b z c=>Uo w fn wq wq wq (DO _) wq N A x b z c) o).mono ?_
 rintro e W2⟨⟨b,rfl⟩,ss,t,R⟩;let⟨v,T,H⟩:=R.box;have G:=run_endLoop (P:=prog) R.L (by simp[rB]);obtain⟨W3,O⟩:∃W3,W2.putObj (W0.heap.size+1) (.loop {rB fn (.func (.func g) #[] lb) w.heap.size W0.heap.size .ready none with state:=.exhausted})=W3:=⟨_,W⟩
 rw[O]at G;have Z:W2.grownBy W3 (some<|W0.heap.size+1):=by grind[grownBy_putObj_a]
 have V:W3.heap[W0.heap.size]?=some (.deferred<|some []):=by rw[<-O];exact(World.putObj_heap_other wq).trans R.K
 have C:=H.kept Z<|ownsRow_ne_a H R.L<|λj e=>K9;have f:=R.below.grown Z R.below.size<|λk e=>K9;let⟨s,p⟩:=cell_of_box_a (show W3.heap[w.heap.size]?=some (.cells #[v] 110 (0,0)) by rw[<-O];exact(World.putObj_heap_other wq).trans T);refine⟨none,W3,G,?_⟩
 gi_wp2
 rw[<-h];refine⟨K2,.inl ⟨_,_,W,run_takeDeferred V,?_⟩⟩;exact⟨_,results_tmp W _ _ _,v,ss,W,t,C.kept (grownBy_putObj_a _ _ _)<|ownsRow_ne_a C V<|λj e=>K9,f.grown (grownBy_putObj_a _ _ _) f.size<|λk e=>K9⟩
def Kk(n:Nat)(hn:3<=n)(g:Nat)(lb:Ys)(G:∀args w,(callFunc g args).run prog w=.ok (.enter g args) w){S:Tl->Prop}(N:Nat)(H:N<=1000000000000)(w:WD)(C:SeqGives FA (n-1-1) prog g lb wv S N w):CallsIn FA n prog 134 #[.func (.func g) #[] lb] w λe w'=>∃(v:VL)(ss:Tl),e=.returned v/\S ss/\w'.ownsRow w.heap.size 24 4 v ss.length (fj ss)/\bW w w':=by
 have L:1<=n:=wq
 refine callsIn_of_wp func134 W AF ?_ W;simp only[ntmps134,YU,X2,Y5,Nat.reduceAdd,Nat.reduceSub,Zy,Zz,Z4,ZJ,XG,XN]
 gi_wp2_with (gi_at_call 190;refine(CW wq g lb G S N H C).mono ?_;rintro e w'⟨v,ss,rfl,J,E,O⟩)
 go_ret;exact⟨v,ss,W,J,E,O⟩
def Qh(n l C:Nat)(Jq9:Tl->X4)(O:WD)(J:AbidesFrom O.heap.size Jq9)(L:cL O C 0<|.map none)(E:Jq9 [] O):CallsIn FA n prog 193 #[.func (.yield l) #[] #[],pt C] O λe W'=>(∃v,e=.returned v)/\∃ss:Tl,ss=[]/\Jq9 ss W':=by
 refine callsIn_of_wp func193 W AF ?_ W;simp only[ntmps193,YU,X2,Y5,Nat.reduceAdd,Nat.reduceSub,Zy,Zz,Z4,ZJ,XG,XN];have G:=run_range_nilMap (P:=prog) O 93 24 24 N0;have H:∀U,(Instr.next _ _ U).run prog (O.alloc _)=_:=λU=>run_next_nilMap _ U 0 0 #[]
 gi_wp2
 refine wpIn_loop_rounds 1 ?_;rw[roundsIn_succ]
 gi_wp2
 go_end0;exact⟨⟨_,W⟩,[],W,J [] O _ none E (World.grownBy_alloc O _ _)<|λr e=>by cases e⟩
def MH(n P:Nat){C:Nat}(G:C<w.heap.size)(U:cL w C 0<|.map none):SeqGives FA n prog 193 #[pt C] wv (rf<|λ_=>none) P w:=λl E Y L R _ J=>by refine(Qh n l C E Y R ((L.cell G).trans U) J).mono ?_;rintro e V⟨O,ss,rfl,H⟩;exact⟨O,[],⟨qac,λm=>K2⟩,H⟩
end
section
open Go.RowKit Go.Maps Go.Sort Go.Shelf
abbrev cpW(w:WD)(a b:Nat):WD:=(w.alloc<|.cells #[.int .u64<|cX a 0,.int .u64<|cX a 1,.int .u64<|cX a 2,.int .u64<|cX a 3] 24).alloc<|.cells #[.int .u64<|cX b 0,.int .u64<|cX b 1,.int .u64<|cX b 2,.int .u64<|cX b 3] 24
def Ku(h:∃q,x=w.drewN q):∃q,x.drew=w.drewN q:=by obtain⟨q,rfl⟩:=h;exact⟨q+1,W⟩
def zV(h:∃q,x=(cpW w a b).drewN q):∃q os,x=grow (w.drewN q) os:=by obtain⟨q,rfl⟩:=h;refine⟨q,#[.cells #[lu a 0,lu a 1,lu a 2,lu a 3] 24]++#[.cells #[lu b 0,lu b 1,lu b 2,lu b 3] 24],?_⟩;show(cpW w a b).drewN q=_;unfold cpW;rw[alloc_eq_grow,alloc_eq_grow,grow_grow];rfl
def yr(h:∃q os,x=grow (w.drewN q) os):∃q os,x.drew=grow (w.drewN q) os:=by obtain⟨q,os,rfl⟩:=h;exact⟨q+1,os,W⟩
def CB(a b:Nat):cP 33 #[wv a,wv b] w λe P=>e=.returned (iI<|gP a b)/\∃q os',P=grow (w.drewN q) os':=by
 go_enter func33,ntmps33;go_wp2;go_loopw[5] (λt5 wr=>∃k:Nat,k<=3/\t5=iI k/\Hd (∀j,k<j->j<4->cX a j=cX b j)/\
   wr.rowIs w.heap.size 24 4 (dz<|cX a)/\wr.rowIs (w.heap.size+1) 24 4 (dz<|cX b)/\Hd (∃q,wr=(cpW w a b).drewN q))
   (λt5 _=>nI t5)
 case atStart=>
  refine⟨3,wq,W,λj Q I=>wq,?_,?_,⟨0,W⟩⟩
  .exact(de _ W W W W W).alloc _
  exact de (cX b) K2 W W W W
 obtain⟨k,X,rfl,HE,E,G,D⟩:=hrel;have X:=E.cell (i:=0) wq;have R:=G.cell (i:=0) wq;have c1:=E.cell (i:=k) wq;have c2:=G.cell (i:=k) wq;simp only[dz]at X R c1 c2;by_cases O:0<k
 .have V:=dT<|(0:Int)<(k:Int);by_cases C:cX a k=cX b k
  .have J:(cX a k !=cX b k)=false:=by simp[C]
   have U:Hd (∀j,k-1<j->j<4->cX a j=cX b j):=λj Q I=>by
    by_cases e:j=k
    .rw[e];exact C
    exact HE j wq I
   clear C;go_wp2;go_region;all_goals go_wp2
   all_goals go_roundw
   case rel=>exact⟨k-1,wq,N1,U,E.drew,G.drew,cV<|Ku D.aa⟩
   simp[nI];omega
  have J:(cX a k !=cX b k)=true:=by simp[C]
  have H:Hd (Kl (cX a k) (cX b k)=gP a b):=qF a b k wq HE<|LZ C;clear C;go_wp2;go_region;all_goals go_wp2
  all_goals go_region_with (go_at_call 59;refine(sS).mono ?_;rintro e L⟨rfl,rfl⟩)
  all_goals go_wp2
  all_goals go_ret
  all_goals exact⟨Xl (λz=>Ending.returned<|iI z) H,by repeat' (first|exact zV D.aa|refine yr ?_)⟩
 cases(wq:k=0)
 have H:Hd (Kl (cX a 0) (cX b 0)=gP a b):=qF a b 0 wq HE<|A4 W;go_wp2_with(go_at_call 59;refine(sS).mono ?_;rintro e L⟨rfl,rfl⟩);go_ret;exact⟨Xl (λz=>Ending.returned<|iI z) H,by repeat' (first|exact zV D.aa|refine yr ?_)⟩
end
section
open Go.RowKit Go.Maps Go.Sort Go.Shelf
open Go.Proofs
def sortW_ren:Go.Shelf.Ren:=⟨λ|6=>135|15=>192|14=>191|28=>225|29=>211|20=>217|21=>218|22=>219|23=>220|24=>221|25=>222|26=>223|27=>224|46=>250|47=>251|48=>252|49=>253|50=>254|57=>281|n=>n,λ|22=>110|24=>24|25=>92|3=>3|39=>173|0=>0|53=>83|55=>22|4=>4|46=>267|45=>266|50=>114|5=>5|9=>9|66=>278|70=>282|76=>295|77=>241|n=>n,λ|n=>n⟩
def Wl:Go.Proofs.SlLaysF0.n6 prog sortW_ren:={
 mixed:=N0
 f6:=⟨f135.name,K3,func135.trans<|Xl some N0⟩
 f14:=⟨f191.name,K3,func191.trans<|Xl some N0⟩
 f15:=func192.trans (Xl some N0)
 f20:=⟨f217.name,K3,func217.trans<|Xl some N0⟩
 f21:=⟨f218.name,K3,func218.trans<|Xl some N0⟩
 f22:=⟨f219.name,K3,func219.trans<|Xl some N0⟩
 f23:=⟨f220.name,K3,func220.trans<|Xl some N0⟩
 f24:=⟨f221.name,K3,func221.trans<|Xl some N0⟩
 f25:=⟨f222.name,K3,func222.trans<|Xl some N0⟩
 f26:=⟨f223.name,K3,func223.trans<|Xl some N0⟩
 f27:=⟨f224.name,K3,func224.trans<|Xl some N0⟩
 f28:=func225.trans (Xl some N0)
 f29:=func211.trans (Xl some N0)
 f46:=⟨f250.name,K3,func250.trans<|Xl some N0⟩
 f47:=func251.trans (Xl some N0)
 f48:=func252.trans (Xl some N0)
 f49:=⟨f253.name,K3,func253.trans<|Xl some N0⟩
 f50:=⟨f254.name,K3,func254.trans<|Xl some N0⟩
 f57:=⟨f281.name,K3,func281.trans<|Xl some N0⟩
 t0:=underlying0
 a0:=isAgg0
 z0:=sizeOf0
 v0:=zeroValue0
 t3:=underlying3
 a3:=isAgg3
 z3:=sizeOf3
 v3:=zeroValue3
 t4:=underlying4
 a4:=isAgg4
 z4:=sizeOf4
 v4:=zeroValue4
 t5:=underlying5
 a5:=isAgg5
 z5:=sizeOf5
 v5:=zeroValue5
 t9:=underlying9
 a9:=isAgg9
 z9:=sizeOf9
 v9:=zeroValue9
 t22:=underlying110
 a22:=isAgg110
 z22:=sizeOf110
 v22:=zeroValue110
 t25:=underlying92
 a25:=isAgg92
 z25:=sizeOf92
 v25:=zeroValue92
 t39:=underlying173
 a39:=isAgg173
 z39:=sizeOf173
 v39:=zeroValue173
 t45:=underlying266
 a45:=isAgg266
 z45:=sizeOf266
 v45:=zeroValue266
 t46:=underlying267
 a46:=isAgg267
 z46:=sizeOf267
 v46:=zeroValue267
 t50:=underlying114
 a50:=isAgg114
 z50:=sizeOf114
 v50:=zeroValue114
 t53:=underlying83
 a53:=isAgg83
 z53:=sizeOf83
 v53:=zeroValue83
 t55:=underlying22
 a55:=isAgg22
 z55:=sizeOf22
 v55:=zeroValue22
 t66:=underlying278
 a66:=isAgg278
 z66:=sizeOf278
 v66:=zeroValue278
 t70:=underlying282
 a70:=isAgg282
 z70:=sizeOf282
 v70:=zeroValue282
 t76:=underlying295
 a76:=isAgg295
 z76:=sizeOf295
 v76:=zeroValue295
 t77:=underlying241
 a77:=isAgg241
 z77:=sizeOf241
 v77:=zeroValue241}
def eU(n:Nat):Tn:=[.int .u64<|cX n 0,.int .u64<|cX n 1,.int .u64<|cX n 2,.int .u64<|cX n 3]
def wK(a b:Nat):ltOf gP a b=decide (a%M<b%M):=by
 unfold ltOf gP;by_cases C:a%M<b%M
 .simp[C]
 by_cases D:b%M<a%M<;>simp[C,D]
theorem Ld:SWO (ltOf gP) where
 irrefl x:=by rw[wK];simp
 trans x y z h1 h2:=by rw[wK]at*;simp at*;omega
 ntrans x y z h1 h2:=by rw[wK]at*;simp at*;omega
theorem oP:∀(l:Tl)(j:Nat),j<l.length*4->(fj l)[j]?=some ((eU l[j/4]!)[j%4]!)
 |[],j,h=>by simp at h
 |n::r,j,h=>by
  show(eU n++fj r)[j]?=_;by_cases C:j<4
  .rw[Xv<|by simpa[eU]using C];rcases NC C with rfl|rfl|rfl|rfl<;>rfl
  rw[Xx (by simp[eU];omega)];have e:(eU n).length=4:=rfl;rw[e,oP r (j-4) (by simp at h;omega)];have D:j/4=(j-4)/4+1:=wq
  have G:j%4=(j-4)%4:=wq
  rw[D,G];rfl
def flat_w(d:Array Nat):(flatK eU 4 d).toList=fj d.toList:=by
 refine List.ext_getElem? λj=>?_;by_cases C:j<d.size*4
 .rw[oP _ j<|by simpa using C,Zs,Y8<|by simpa using C,<-Zj _ j (by simpa using C),get_flatK _ _ _ _ C];have e:d.toList[j/4]! =d[j/4]! :=by
   have D:j/4<d.size:=wq
   rw[Zj d.toList _<|by simpa using D,Zj d _ D];rfl
  rw[e]
 rw[Ym N3,Ym (by rw[mx];simp;omega)]
def vf(h:w.ownsRow O e size v n xs)(D:v=sL g n E):∃C,w.heap[g]?=some (.cells C e (0,0))/\O<=g/\n<=E/\E<=maxLen/\C.size=E*size/\C.toList.take (n*size)=xs:=by
 rcases h.2 with⟨rfl,_⟩|⟨G,G,C,rfl,G,H,I,J,L,P⟩
 .cases D
 cases D;exact⟨C,H,G,I,J,L,P⟩
def RH(h:w.ownsRow O 24 4 (sL g ss.length E) ss.length<|fj ss):HoldsK eU 4 w g 0 ss.toArray:=by
 let⟨D,G,I,J,P,H,L⟩:=vf h W;intro j C;have C:j<ss.length*4:=by simpa using C
 refine⟨?_,by simp[World.frozen?,G]⟩;rw[XF,h.cellAt j C,oP ss j C];show _=some ((flatK eU 4 ss.toArray)[j]!);rw[get_flatK _ _ _ _<|by simpa using C];simp
def GL{os:Array Obj}{C:Ys}{e:Vr}{fr:Nat×Nat}(d:Array Nat)(G:w.heap[g]?=some (.cells C e fr)):(sortWorldK eU 4 w g 0 n d os).heap[g]?=some (.cells (putCells id 0 (flatK eU 4 d) C) e fr):=by have D:g<w.heap.size:=(WY.1 G).1;unfold sortWorldK putRowK;rw[heap_grow_old _ _<|by simpa using D];simp[putRow,mapBlock,Sort.ahead,Zq,G,onCells]
def J7{os:Array Obj}(h:w.ownsRow O 24 4 (sL g ss.length E) ss.length<|fj ss)(d:Array Nat)(U:d.size=ss.length):(sortWorldK eU 4 w g 0 n d os).ownsRow O 24 4 (sL g ss.length E) ss.length (fj d.toList):=by
 let⟨G,Q,J,L,P,H,R⟩:=vf h W;refine⟨by rw[mx];simp[U],A4 ⟨g,E,_,W,J,GL d Q,L,P,by simp[putCells,H],?_⟩⟩;refine List.ext_getElem? λj=>?_;by_cases I:j<ss.length*4
 .have D:j<G.size:=by rw[H];omega
  rw[List.getElem?_take_of_lt I,Zs];rw[<-flat_w,Zs];have C:j<(flatK eU 4 d).size:=by rwa[size_flatK,U]
  unfold putCells;rw[Array.getElem?_mapIdx,Y8 D,Y8 C];simp only[Yi];rw[At ⟨In _,by rw[XF];exact C⟩];show some (id (flatK eU 4 d)[j-0]!)=_;rw[Nat.sub_zero,Zj _ j C];rfl
 rw[List.getElem?_take_eq_none wq,Ym (by rw[mx];simp[U];omega)]
def CV{D:WD}{os:Array Obj}{d:Array Nat}(H:Below O D w)(G:O<=g)(I:O<=w.heap.size):Below O D (sortWorldK eU 4 w g 0 n d os):=by
 refine H.grown (row:=some g) ⟨W,W,W,?_,λk H C=>?_⟩ I (λk e=>by cases e;exact G)
 .unfold sortWorldK putRowK;simp[grow,putRow,mapBlock,Sort.ahead]
 unfold sortWorldK putRowK;rw[heap_grow_old _ _<|by simpa using H];have:g≠k:=λe=>C (by rw[e]);simp[putRow,mapBlock,Sort.ahead,Zq,this]
def SortedKeys(f:Nat->Option VL)(ts:Tl):=ts.Pairwise (·<·)/\∀m,m∈ts↔m<M/\(f m).isSome=true
def rE{f:Nat->Option VL}(h:rf f ss)(L:ts.Perm ss)(P:ts.Pairwise<|λa b=>ltOf gP b a=false):SortedKeys f ts:=by have D:∀m,m∈ts↔m<M/\(f m).isSome=true:=λm=>(L.mem_iff).trans<|h.2 m;refine⟨?_,D⟩;have H:ts.Nodup:=L.nodup_iff.2 h.1;refine List.Pairwise.imp_of_mem ?_<|P.and H;intro a b I L C;have G:=C.1;rw[wK,WZ ((D b).1 L).1,WZ ((D a).1 I).1]at G;have G:¬b<a:=of_decide_eq_false G;have J:a≠b:=C.2;omega
def ry{us:Tl}(D:ts.Pairwise (·<·))(C:us.Pairwise (·<·))(h:∀m,m∈ts↔m∈us):ts=us:=by have I:ts.Perm us:=(List.perm_ext_iff_of_nodup (D.imp λh=>Nat.ne_of_lt h)<|C.imp λh=>Nat.ne_of_lt h).2 h;exact I.eq_of_pairwise (le:=λa b=>a<b) (λa b _ _ G H=>absurd G wq) D C
def SortedKeys.bU{f g:Nat->Option VL}{us:Tl}(D:SortedKeys f ts)(C:SortedKeys g us)(h:∀m,m<M->(f m).isSome=(g m).isSome):ts=us:=ry D.1 C.1 λm=>by rw[D.2,C.2];exact and_congr_right λG=>by rw[h m G]
end
section
open Go.RowKit Go.Maps Go.Sort Go.Shelf
def xk(p:Gj)(E:Nat)(C:VL)(w:WD):cP 217 #[.slice p 0 E,iI 0,iI 0,C] w λe D=>e=AG/\D=w:=by go_enter func217,ntmps217;go_wp2;refine wp_loop_rounds 1 ?_;rw[rounds_succ];go_wp2;go_end0;exact⟨W,W⟩
def Qp(p:Gj)(E:Nat)(C:Int)(D:VL)(w:WD):cP 191 #[.slice p 0 E,iI 0,iI 0,iI C,D] w λe G=>e=AG/\G=w:=by
 have I:=λH=>xk p E D H;go_enter func191,ntmps191;go_wp2;refine wp_loop_rounds 1 ?_;rw[rounds_succ];go_wp2_with(go_at_call 217;refine(I _).mono ?_;rintro e G⟨rfl,rfl⟩)
 (try simp only[Exit.inBlock,Exit.then]);refine sp (ZW W _ _ _) W ?_
 exact⟨W,W⟩
def len_W(n:Nat)(hn:n<9223372036854775808)(w:WD):cP (sortW_ren.f 15) #[iU (n:Int)] w λe C=>e=.returned (iI (Lib.bitLen n:Nat))/\C=w:=by have h:=Any.bits_Len (SlLaysF0.n15.bits (P:=prog) (ρ:=sortW_ren) {Wl with}) (n:Int) w wq wq;rwa[Int.toNat_natCast]at h
def zj(p:Gj)(E:Nat)(G:VL)(w:WD):cP 135 #[.slice p 0 E,G] w λe D=>e=AG/\D=w:=by have J:=λC H=>Qp p E C G H;have I:=len_W 0 wq;change ∀H,cP 192 #[iU 0] H _ at I;go_enter func135,ntmps135;go_wp2_with(first|(go_at_call 192;refine(I _).mono ?_;rintro e D⟨rfl,rfl⟩)|(go_at_call 191;refine(J _ _).mono ?_;rintro e D⟨rfl,rfl⟩));go_end0;exact⟨W,W⟩
def Eo{F:Fence}{lb:Ys}{S:Tl->Prop}(h:SeqGives F n prog g lb wv S N w):SeqGives F n prog g lb wv (λss=>S ss/\ss.length<=N) N w:=λl G b L V R I=>by
 refine(h l (λss b=>G ss b/\ss.length<=N) b L (λs W1 W2 row b J c=>⟨V s W1 W2 row b.1 J c,b.2⟩) (λpre x W1 c b=>?_) ⟨I,In _⟩).mono ?_
 .obtain⟨fn,tmps,H,U,D,C⟩:=R pre x W1 c.1 b;exact⟨fn,tmps,H,U,D,C.mono λe d⟨Y,Q,Z⟩=>⟨Y,⟨Q,N3⟩,Z⟩⟩
 rintro e d⟨D,xs,C,X,P⟩;exact⟨D,xs,⟨C,P⟩,X⟩
def xK(h:w.ownsRow O e size v n xs)(hn:0<n):∃g E,v=sL g n E/\O<=g:=by
 rcases h.2 with⟨_,C⟩|⟨g,E,C,D,C,_⟩
 .omega
 exact⟨g,E,D,C⟩
def Mh(C:Nat)(w:WD):CmpLays prog 33 #[] eU 4 gP C 0 size w:=λm os dk C x y=>CB x y
def FK(w:WD)(h:w.ownsRow O 24 4 (sL g ss.length E) ss.length<|fj ss)(c:ss.length<4611686018427387904):cP 135 #[sL g ss.length E,.func (.func 33) #[] #[]] w λe L=>e=AG/\∃(J:Tl)(n:Nat)(os:Array Obj),J.Perm ss/\J.Pairwise (λa b=>ltOf gP b a=false)/\L=sortWorldK eU 4 w g 0 n J.toArray os:=by
 let⟨X,Y,d,f,o,p,m⟩:=vf h W;have R:∀args w,(callFunc 33 args).run prog w=.ok (.enter 33 args) w:=enters_of func33 N0 W;have C:=AnyQ.slices_SortFunc Wl 4 isAgg24 sizeOf24 eU (λ_=>W) (λx v P=>by simp[eU]at P;rcases P with rfl|rfl|rfl|rfl<;>rfl) gP Ld 33 #[] g 0 E ss.toArray w R (Mh g w) (RH h) (WY.1 Y).1 (by simpa using c);rw[(K2:ss.toArray.size=ss.length)]at C;refine C.mono ?_;rintro e L⟨rfl,d',n,os,⟨H,V,D⟩,l,rfl⟩;have G:d'.size=ss.length:=by rw[H];simp
 refine⟨W,d'.toList,n,os,?_,?_,W⟩
 .have Z:d'.extract 0 ss.length=d':=by rw[<-G];exact Array.extract_size
  have U:ss.toArray.extract 0 ss.length=ss.toArray:=by rw[(K2:ss.length=ss.toArray.size)];exact Array.extract_size
  rwa[Z,U]at D
 refine Y7.2 λi j c Q I=>?_;have:=l i j (In _) I (by rw[<-G];simpa using Q);rw[Zj d' j<|by simpa using Q,Zj d' i<|by simpa using c]at this;exact this
def tQ(n:Nat)(hn:3<=n){lb:Ys}(U:∀args w,(callFunc g args).run prog w=.ok (.enter g args) w)(f:Nat->Option VL)(N:Nat)(X:N<=1000000000000)(D:SeqGives FA (n-1-1) prog g lb wv (rf f) N w):cP 74 #[.func (.func g) #[] lb,.func (.func 33) #[] #[]] w λe w'=>∃(v:VL)(H:Tl),e=.returned v/\H.length<=N/\SortedKeys f H/\w'.ownsRow w.heap.size 24 4 v H.length (fj H)/\bW w w':=by
 have I:=cV ((Kk n hn g lb U N X w<|Eo D).calls<|λ_ _ h=>by cases h);clear D;go_enter func74,ntmps74;go_wp2_with fail
 refine I.mono ?_;rintro e Z⟨v,ss,rfl,⟨G,Q⟩,C,b⟩;by_cases P:ss=[]
 .subst P;obtain⟨V,Y,rfl⟩:=dt C;have J:=cV<|zj V Y (.func (.func 33) #[] #[]) Z;have L:=cV<|aIn C<|aIn b G;clear C b G I;go_wp2_with(go_at_call 135;refine J.mono ?_;rintro e w'⟨rfl,rfl⟩);go_ret;let⟨C,b,G⟩:=L.aa;exact⟨_,[],W,In _,rE G (List.Perm.refl _) List.Pairwise.nil,C,b⟩
 obtain⟨g,E,rfl,R⟩:=xK C<|List.length_pos_iff.2 P;have J:=cV<|FK Z C wq;have L:=cV<|aIn C<|aIn b G;clear C b G I;go_wp2_with(go_at_call 135;refine J.mono ?_;rintro e w'⟨rfl,H,n,os,c,d,rfl⟩);go_ret;let⟨C,b,G⟩:=L.aa;have Z:=c.length_eq;refine⟨_,H,W,wq,rE G c d,?_,CV b R b.size⟩;have:=J7 (n:=n) (os:=os) C H.toArray (by simpa using Z);rw[Z];exact this
end
variable {bl:Nat}{ae:BA}
section
open Go.RowKit Go.Maps Go.Sort Go.Shelf
def CH(s:Vq)(ts:Tl):Tn:=ts.flatMap λk=>eU k++eU (s k)
def Nl(s:Vq)(ts:Tl)(k:Nat):CH s (ts++[k])=CH s ts++(eU k++eU (s k)):=by simp[CH]
def nH(h:w.ownsRow b e size v n xs)(H:b'<=b):w.ownsRow b' e size v n xs:=by refine⟨h.1,h.2.imp id ?_⟩;rintro⟨g,E,C,C,D,G⟩;exact⟨g,_,_,C,By H D,G⟩
def CR:∀u∈eU k,u.oneCell'=true:=by intro u C;simp[eU]at C;rcases C with rfl|rfl|rfl|rfl<;>rfl
def Ep(h:w.ownsRow O 24 4 (sL g ts.length E) ts.length<|fj ts)(i:Nat)(hi:i<ts.length):cL w g (i*4) (iU<|cX ts[i] 0)/\cL w g (i*4+1) (iU<|cX ts[i] 1)/\cL w g (i*4+2) (iU<|cX ts[i] 2)/\cL w g (i*4+3) (iU<|cX ts[i] 3):=by
 have N:∀j,j<4->w.cell? _=some ((eU ts[i])[j]!):=λj C=>by rw[h.cellAt (i*4+j) wq,oP _ _ wq];grind
 exact⟨N 0 wq,N 1 wq,N 2 wq,N 3 wq⟩
def wg:(prog.info? 54).map (λi=>(i.zero,i.size,i.bytes))=some (some<|.agg #[iU 0,iU 0,iU 0,iU 0,iU 0,iU 0,iU 0,iU 0],8,64):=N0
def Tv(w3 wr:WD):Nat->X4
 |0,x=>bW wr x
 |_,x=>bW w3 x
def pE{C:WD}(h:Tv C wr k x)(D:k<=0):bW wr x:=by
 cases(wq:k=0)
 exact h
def Nu{C:WD}(D:bW C wr)(k:Nat)(x x':WD)(h:Tv C wr k x)(G:bW x x'):Tv C wr k x':=by
 match k,h with
 |0,h=>exact(h).trans<|G.mono (h).size
 |_+1,h=>exact(h).trans<|G.mono (h).size
def OneE(cs:Ys):Kp:=λp v x=>∃q,v=.slice (some ⟨q,0,none⟩) 1 1/\(p<=0->q<x.heap.size/\∀(j:Nat) u,cs.toList[j]?=some u->x.cell? ((⟨q,0,none⟩:Addr).add j)=some u)
def NewE(O e size n:Nat)(xs:Tn):Kp:=λp v x=>p≠0/\x.ownsRow O e size v n xs
def KK{G:Vr}(he:tG s t<|.agg #[lu n 0,lu n 1,lu n 2,lu n 3,lu m 0,lu m 1,lu m 2,lu m 3])(C:K (Wb s d<|sL x.heap.size 1 1)<|x.alloc<|.cells #[lu n 0,lu n 1,lu n 2,lu n 3,lu m 0,lu m 1,lu m 2,lu m 3] 54):Oper.wp prog ⟨some d,.buildSlice 32 1 #[(0,.tmp t)],G,pos,af,gd⟩ s x K Q:=by
 have D:s.tmps[t]?.getD undef=.agg #[lu n 0,lu n 1,lu n 2,lu n 3,lu m 0,lu m 1,lu m 2,lu m 3]:=Q1
 go_simp;exact C
structure SLr(w3:WD)(s:Vq)(ts:Tl)(i:Nat)(v:VL)(wr:WD):Prop where
 aD:wr.ownsRow w3.heap.size 54 8 v i (CH s (ts.take i))
 below:Below w3.heap.size w3 wr
def Cu{s:Vq}(w:WD)(h:SlotsOk w n ab s X)(hn:n<=1000000000000):
  Calls prog 76 #[iu bl ae X] w λe w'=>∃(v:VL)(ts:Tl),e=.returned v/\ts.length<=n/\SortedKeys (gh s) ts/\w'.ownsRow w.heap.size 54 8 v ts.length (CH s ts)/\Below w.heap.size w w':=by
 obtain⟨o,rfl⟩:=h.is;have eg:∀args w,(callFunc 193 _).run _ w=.ok _ w:=enters_of func193 N0 W;obtain⟨w1,a4⟩:=dP<|w.alloc<|.cells #[.int .u64<|cX bl 0,.int .u64<|cX bl 1,.int .u64<|cX bl 2,.int .u64<|cX bl 3,.string ae,.map o] 95;have a1:Below w.heap.size w w1:=by rw[a4.aa];grind[ai,dO]
 have d4:w1.heap.size=w.heap.size+1:=by rw[a4.aa];simp
 have a5:w1.cell? ⟨w.heap.size,5,none⟩=some (.map o):=by rw[a4.aa];simp[go_sem]
 have A:Below _ w1 (w1.alloc<|.cells #[.map o] 93):=ai (dO _ w1) _;have HK:=cV<|keys_s o w1
 have d6:SeqGives FA 3 prog 193 #[pt w1.heap.size] wv (rf<|gh s) n (w1.alloc<|.cells #[.map o] 93):=by
  have hc:(w1.alloc<|.cells #[.map o] 93).cell? ⟨w1.heap.size,0,none⟩=some (.map o):=by simp[go_sem]
  rcases h with⟨e,hz⟩|⟨b,e,hb,ha⟩
  .cases e;have a:gh s=λ_=>none:=funext λk=>At<|hz k
   rw[a];exact MH 3 n K2 hc
  .cases e;exact VU 3 wq b n K2 hc<|(ha.kb (Kb.h (S:=[]) a1) K2).kb (Kb.h (S:=[]) A) K2
 have HS:=cV<|tQ 5 wq eg _ n hn d6;have HL:Hd (∀x,Below _ w x->∀k,(Instr.lookup 93 _ _ _).run _ x=.ok _ x):=λx P k=>zK (h.kb (Kb.h (S:=[]) P) K2<|DO _) k
 go_enter func76,ntmps76;go_wp2_with fail
 rw[<-a4.aa];refine HK.aa.mono ?_;rintro e w2⟨rfl,rfl⟩;have c:=a1.trans<|A.mono a1.size;generalize w1.alloc (.cells #[.map o] 93)=w2 at*;have c8:w.heap.size<w2.heap.size:=by have:=A.size;omega
 rw[d4]at HS;go_wp2_with fail
 refine HS.aa.mono ?_;rintro e w3⟨v,ts,rfl,a6,T,H,V⟩;obtain⟨adv,cpv,rfl⟩:=dt H;have HX:=cV<|aIn T<|aIn H V;have a3:=c.trans<|V.mono c.size;have d0:=(V.cell c8).trans ((A.cell (p:=⟨w.heap.size,5,none⟩) (by show w.heap.size<_;omega)).trans a5);have a7:=Xg c8 V.size;clear HS H T a5 A a1 d4 c V;obtain⟨L,F⟩:=dP ts.length;rw[<-F.aa]at a6⊢;go_wp2
 go_loopw[3,11] (λt3 a8 wr=>∃(i:Nat)(ad:Gj)(cp:Nat),i<=L/\a8=.int .i64 (i:Int)/\t3=.slice ad i cp/\Hd (SLr w3 s ts i (.slice ad i cp) wr)) (λ_ a8 _=>L-nI a8)
 case atStart=>exact⟨0,_,0,In _,W,W,⟨Xy _ _ _ _,dO _ _⟩⟩
 case round=>
  obtain⟨i,ad,cp,hi,rfl,rfl,r⟩:=hrel;by_cases hlt:i<L
  .obtain⟨T,H,V⟩:=HX.aa;have d7:i<ts.length:=by rw[<-F.aa];exact hlt
   obtain⟨kb,E,he,hkb⟩:=xK H wq;obtain⟨rfl,rfl⟩:adv=some ⟨kb,0,none⟩/\cpv=E:=K9
   have Y:=(H.lt kb W).2;obtain⟨c0,c1,c2,c3⟩:=Ep H i d7;obtain⟨C,d3⟩:∃C:Nat,Hd (C=ts[i]):=⟨_,cV W⟩;rw[<-d3.aa]at c0 c1 c2 c3;have c0:=(r.aa.below.cell Y).trans c0;have c1:=(r.aa.below.cell Y).trans c1;have c2:=(r.aa.below.cell Y).trans c2;have c3:=(r.aa.below.cell Y).trans c3;go_wp2;obtain⟨wr9,a0⟩:=dP<|wr.alloc<|.cells #[.int .u64<|cX C 0,.int .u64<|cX C 1,.int .u64<|cX C 2,.int .u64<|cX C 3] 24;rw[<-a0.aa];have b6:Below wr.heap.size wr wr9:=by rw[a0.aa];grind[ai,dO]
   obtain⟨N,b7⟩:=dP wr.heap.size
   have b1:wr9.cell? ⟨N,0,none⟩=some (.int .u64<|cX C 0)/\wr9.cell? ⟨N,0+1,none⟩=some (.int .u64<|cX C 1)/\wr9.cell? ⟨N,0+2,none⟩=some (.int .u64<|cX C 2)/\wr9.cell? ⟨N,0+3,none⟩=some (.int .u64<|cX C 3):=by
    rw[a0.aa,b7.aa];refine⟨?_,?_,?_,?_⟩<;>simp[go_sem]
   have R:N<wr9.heap.size:=by rw[a0.aa,b7.aa];simp
   rw[<-b7.aa];have D:=r.aa.below.trans<|b6.mono r.aa.below.size;have U:=dh r.aa.aD b6;have c9:=Xg a7 D.size;have b9:=(D.cell a7).trans d0;have f:=a3.trans<|D.mono a3.size
   refine dy _ (λ_ _ _=>True) [(1,(.pointer _)),(3,(.slice ad i cp)),(5,(.pointer _))] (nV 15 [.slice ad i cp,wv C,.pointer _,.map o,wv C,wv<|s C,.agg _]++[(some 22,.l<|OneE #[.int .u64 _,.int .u64 _,.int .u64<|cX C 2,.int .u64<|cX C 3,.int .u64 _,.int .u64 _,.int .u64 _,.int .u64 _]),(some 23,.l<|NewE _ 54 8 (i+1) _),(some 3,.l<|NewE _ 54 8 (i+1) _)]) [8] [1,4,3,5,7,9] ((dO _ _).drew) (Nu D)
     (oz W W
     (@λs9 x b0 hl K G hv Z=>by
      have P:Below wr9.heap.size wr9 x:=G;obtain⟨q,e1,a⟩:=hl 22 _ W;obtain⟨hq,a2⟩:=a wq;obtain⟨i0,hi0,hz0,hz1,hz2⟩:=YI wg;refine mq w3.heap.size 54 i0 _ 8 64 N0 hi0 hz0 hz1 hz2 W K3 (.slice ad i cp) i (CH s<|ts.take i) (hv W) (dh U P) ⟨q,0,none⟩ 1 1 (eU C++eU (s C)) e1 W a2 (λu hu=>(Xr.1 hu).elim (CR u)<|CR u) (by grind[maxLen]) wq (by have:=D.size;have:=P.size;omega) ?_;intro v' y ho hgr hfr;exact Z v' y ((D.trans<|P.mono D.size).grown hgr (By D.size P.size)<|λk hk=>(U.lt k hk).1) AF nn1 ⟨wq,ho⟩)
     True.intro)
     (oz W W
     (λI G hv Z=>by
      have P:Below wr9.heap.size wr9 _:=pE G<|I 0 8;obtain⟨q0,q1,q2,q3⟩:=b1;exact dD (n:=C) (hv W) ((P.cell R).trans q0) ((P.cell R).trans q1) ((P.cell R).trans q2) ((P.cell R).trans q3)<|kx Z)
     (oz W W
     (λI G hv Z=>by
      have P:Below wr9.heap.size wr9 _:=pE G<|I 0 8;obtain⟨q0,q1,q2,q3⟩:=b1;exact dD (n:=C) (hv W) ((P.cell R).trans q0) ((P.cell R).trans q1) ((P.cell R).trans q2) ((P.cell R).trans q3)<|kx Z)
     (oz W W
     (λI G hv Z=>by
      exact dm (v:=.map o) (hv W) (((pE G<|I 0 8).cell c9).trans b9)<|kx Z)
     (oz W W
     (@λk s9 x hk a9 b0 hl K I G hv Z=>by
      exact rR (v:=wv<|s C) (x':=x) @hv (KR<|(λx P k=>HL.aa x (f.trans<|P.mono f.size) k) x (pE G<|I 0 8) C)<|kx Z)
     (oz W W
     (@λk s9 x hk a9 b0 hl K I G hv Z=>by
      have P:Below wr9.heap.size wr9 x:=pE G<|I 0 8;exact KK (hv W)<|Z _ _ (ai (dO _ x) _) nn1 ⟨x.heap.size,W,λ_=>⟨K2,fJ x #[.int .u64<|cX C 0,.int .u64<|cX C 1,.int .u64<|cX C 2,.int .u64<|cX C 3,.int .u64<|cX (s C) 0,.int .u64<|cX (s C) 1,.int .u64<|cX (s C) 2,.int .u64<|cX (s C) 3] 54⟩⟩)
     (oz W W
     (@λk s9 x hk a9 b0 hl K I G hv Z=>by
      have hp:k≠0:=by have:=a9 0 8 W N0;omega
      exact nY 23 3 W<|Z _ x (dO _ _) nn1<|hl 23 _ W)
     True.intro))))))
     (λi9 d T' he p v x x' hne hp G hrel hT=>by
      rcases WS (show i9<10 from(Do.1 he).1)with rfl|rfl|rfl|rfl|rfl|rfl|rfl|rfl|rfl|rfl
      all_goals first
       |(cases he;done)
       |(cases Zk (Xi<|hV he).2;first|(obtain⟨q,e1,a⟩:=hT;exact⟨q,e1,λh=>wq⟩)|exact absurd (by have hp:p<1:=hp;omega:p=0) hT.1)) (λi9 d T' he p v x x' G hb hT=>by
      rcases WS (show i9<10 from(Do.1 he).1)with rfl|rfl|rfl|rfl|rfl|rfl|rfl|rfl|rfl|rfl
      all_goals first
       |(cases he;done)
       |(cases Zk (Xi<|hV he).2;first|(obtain⟨q,e1,a⟩:=hT;exact⟨q,e1,λh=>⟨Xg (a h).1 hb.size,λj u hu=>(hb.cell (by rw[nD];exact(a h).1)).trans<|(a h).2 j u hu⟩⟩)|exact⟨hT.1,dh hT.2 hb⟩)) ?_
   intro gg z hz d5;have d8:NewE w3.heap.size 54 8 (i+1) (CH s (ts.take i)++(eU C++eU (s C))) 1 (gg 9) z:=d5 9 _ _ W;have hz:Below w3.heap.size w3 z:=hz;have J:=d8.2;obtain⟨d1,b8,e9⟩:=dt J
   have HSL:Hd (SLr w3 s ts (i+1) (.slice d1 (i+1) b8) z):=by
    refine⟨?_,hz⟩;rw[e9]at J;rw[Yy,iN d7,<-d3.aa];show z.ownsRow _ _ _ _ _ (CH s<|ts.take i++[C]);rwa[Nl]
   clear d8 J hz d5 f b9 c9 U D R b1 b6;simp only[n8,sx9];rw[e9];go_wp2
   go_roundw
   case rel=>exact⟨i+1,d1,b8,wq,N1,W,HSL⟩
   case measure=>simp[nI];omega
  .obtain rfl:i=L:=wq
   obtain⟨T,H,V⟩:=HX.aa
   have HE:Hd (∃(v:VL)(ts:Tl),Ending.returned (.slice ad i cp)=.returned v/\ts.length<=n/\SortedKeys (gh s) ts/\wr.ownsRow w.heap.size 54 8 v ts.length (CH s ts)/\Below w.heap.size w wr):=by
    refine⟨_,ts,W,by rw[<-F.aa];exact a6,T,?_,a3.trans<|r.aa.below.mono a3.size⟩;have:=r.aa.aD;rw[F.aa,ZK]at this;rw[F.aa];exact nH this (Nat.le_of_lt a7)
   go_wp2;go_ret;exact HE.aa
end
end
end cin
end Go.Proofs.YtohoajjdoihekaaGreatDoor
