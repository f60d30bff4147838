import Derived.Test.YtohoajjdoihekaaGreatDoorYfb
import Derived.Test.YtohoajjdoihekaaGreatDoorCards
import Derived.Test.YtohoajjdoihekaaGreatDoorTie
import Derived.Deep.RegionHeld3
import Derived.ProofKit
import Derived.OpenShut
import Derived.ChangeOld
import Derived.Below
import Derived.Laws.IdiomArrays
import Derived.ChangeMaps5
import Derived.LaidMore
import Derived.SevenTiedAt
import Derived.Deep.DeepHandedRow
import Derived.Deep.Slices
set_option linter.unusedVariables false
set_option linter.unusedSimpArgs false
set_option linter.defProp false
namespace Go.Proofs.YtohoajjdoihekaaGreatDoor
namespace cin
open Go.RowKit Go.Maps Go.Proofs.Tryz Tryz
set_option maxRecDepth 100000
set_option maxHeartbeats 8000000
variable {P:RW}{p b t d n m c H O Y k a g o hb b1 U gs Z o1 o2 gb xb q1 q2 gv J fr i ab r e st pb mb sz bb:Nat}{v pv lv u1 u2 u3 u7 u8 u9 X C u4 u10 u11 u12 u13 u17 u19:VL}{S:Tl}{s:Act}{pos:String}{af:U9}{gd:U6}{K:K6}{Q:Y6}{ad:Gj}{R tr R0 Ry:RS}{l L:hZ}{L9:List LogE}{tvs tv xs cs:Tn}{w x x' y y1:WD}{pu:List Pur}{sl:List Slt}{rs q':List Rs}{ot data aa ae:BA}{run:RS->RS}{wk:Wk}{F F':Fz}{T T':TS}{A:Nat->Acc}{sb:Vp}{er:Int}{P0:X4}{Zq9:Nat->X4}{D2:Nat->VL->X4}{args:Ys}
def PhG(O Y:Nat)(V:DV)(L9:List LogE)(tvs:Tn)(w:WD):Nat->X4
 |0,x=>bW w x
 |1,x=>Kb V.gv.ownBlock.toList w x
 |_,x=>∃v',x.ownsRow O 112 6 v' L9.length (qM L9 tvs)/\Fresh w V.gv v'/\Up V.gv.ownBlock.toList Y 2 v' w x
def RelG(Y:Nat):Nat->WD->X4:=λp x x'=>p=1->∃u,x'=x.setCell ⟨Y,2,none⟩ u
def NewG(O:Nat)(V:DV)(L9:List LogE)(tvs:Tn)(w:WD):Kp:=λp v x=>p≠0/\x.ownsRow O 112 6 v L9.length (qM L9 tvs)/\Fresh w V.gv v
section
variable {V:DV}
def Cn(h:PhG O Y V L9 tvs w k x)(C:k<=0):bW w x:=by
 obtain rfl:k=0:=by omega
 exact h
def OG(h:PhG O Y V L9 tvs w k x)(C:k<=1):Kb V.gv.ownBlock.toList w x:=by
 match k,C,h with
 |0,_,h=>exact Kb.h h
 |1,_,h=>exact h
def VQ(C:Y<w.heap.size)(k:Nat)(x x':WD)(h:PhG O Y V L9 tvs w k x)(D:bW x x'):PhG O Y V L9 tvs w k x':=by
 match k,h with
 |0,h=>exact(show bW w x from h).trans (D.mono (show bW w x from h).size)
 |1,h=>exact(show Kb V.gv.ownBlock.toList w x from h).below D
 |_+2,⟨v',h1,h2,h3⟩=>exact⟨v',dh h1 D,h2,Kb.up h3 D C⟩
def Vz(E:DW O Y P V w)(G:Y∉V.gv.ownBlock.toList)(I:p<2)(C:PhG O Y V L9 tvs w p x)(hrel:RelG Y p x x')(D:NewG O V L9 tvs w p v x):NewG O V L9 tvs w (p+1) v x':=by
 match p,I,C,hrel,D with
 |0,_,_,_,D=>exact absurd W D.1
 |1,_,C,hrel,D=>obtain⟨u,rfl⟩:=hrel W;exact⟨by omega,fC D.2.1 (dS ((show Kb V.gv.ownBlock.toList w x from C).row E.row G) D.2.1) _ _,D.2.2⟩
def Kb.cP(h:Kb S x x')(G:b<=x.heap.size)(D:∀k∈S,b<=k):Below b x x':=⟨h.os,h.tape,h.output,h.size,λi E=>h.block i (by omega) (λC=>by have:=D i C;omega)⟩
end
def Kh{x:WD}{X:Vr}{C:BA}(h:tG s t (pt b))(U:rowL x b 112 [lu n 0,lu n 1,lu n 2,lu n 3,.slice ad m c,.string C])(D:K (s.put (some d) (.agg #[lu n 0,lu n 1,lu n 2,lu n 3,.slice ad m c,.string C])) x):Oper.wp prog ⟨some d,.load 112 (.tmp t),X,pos,af,gd⟩ s x K Q:=by have I:s.eval (.tmp t)=pt b:=h;have E:=U.cell (i:=0) W;have X:=U.cell (i:=1) W;have X:=U.cell (i:=2) W;have J:=U.cell (i:=3) W;have G:=U.cell (i:=4) W;have L:=U.cell (i:=5) W;go_simp;exact D
def log_R{O Y:Nat}{x:WD}(hn4:n<=4)(hn:R.w.lg.length<=900000000)(h:DQ O H Y R l x):cP 130 #[pt H,iI (n:Int)] x (Dp O H Y (Gf n R) (.tuple #[]) l x):=by
 let⟨tr,U⟩:=dP (Gf n R);rw[<-U.aa];unfold Gf at U;have G:=cV h;have T:=cV (dO O x);obtain⟨D,HL,HD⟩:∃D,Hd (pV R=D)/\Hd (D=pV R):=⟨_,W,W⟩
 clear h;go_enter func130,ntmps130;go_wp2_with fail
 refine(vx 300 (by omega) G).mono ?_;rintro e y1⟨rfl,J,r⟩;obtain⟨R1,Z⟩:∃R',Hd (R'=dU 300 R):=⟨_,W⟩
 rw[<-Z.aa]at J U;replace G:=cV J;replace T:=cV (T.trans r);replace HL:Hd (pV R1=D):=by rw[Z.aa,vb];exact HL
 clear J r Z;let⟨g8,_,_⟩:=G.aa.cell (o:=20) (λ_ _=>W);obtain⟨R2,Z⟩:∃R',Hd (R'=QO R1):=⟨_,W⟩
 let⟨rd,a6⟩:=dP R1.aR;rw[<-a6.aa]at g8;go_upto_if 16 with fail;go_cut[] (λwx=>Hd (DQ O H Y R2 (l) wx)/\Hd (Below O x wx));case first=>
  cases rd
  .have he:R2=R1:=Z.aa.trans (iF (by rw[<-a6.aa];decide));rw[<-he]at G;clear a6 Z he;go_wp2;go_meet;case rel=>exact⟨G,T⟩
  have he:R2=fA R1:=Z.aa.trans (At a6.symm);clear a6 Z;go_wp2_with fail
  refine(jh G G.ac).mono ?_;rintro e y⟨rfl,J,r⟩;rw[<-he]at J;replace G:=cV J;replace T:=cV (T.trans r);clear J r he;go_wp2;go_meet;case rel=>exact⟨G,T⟩
 clear G T g8 a6;let⟨G,T⟩:=hcut;rw[<-Z.aa]at U;replace HL:Hd (pV R2=D):=by rw[Z.aa,hd_rd];exact HL
 clear Z;go_wp2_with fail
 refine(pB G).mono ?_;rintro e y3⟨rfl,J,r⟩;obtain⟨a,R3,Z⟩:∃a R',Hd (dA R2=(a,R')):=⟨_,_,W⟩
 rw[Z.aa]at J⊢;rw[Z.aa,dW]at U;replace G:=cV (J.aW (iU (cX a 0)) (iU (cX a 1)) (iU (cX a 2)) (iU (cX a 3)));replace T:=cV ((T.trans r).trans ((ai (dO _ y3) (cin.wc a)).mono J.hb.1));replace HL:Hd (pV R3=D):=by rw[show R3=(dA R2).2 by rw[Z.aa],Bt];exact HL
 clear J r Z;go_wp2_with fail
 refine(pB G).mono ?_;rintro e y4⟨rfl,J,r⟩;obtain⟨s,R4,Z⟩:∃a R',Hd (dA R3=(a,R')):=⟨_,_,W⟩
 rw[Z.aa]at J⊢;rw[Z.aa,dW]at U;replace G:=cV (J.aW (iU (cX s 0)) (iU (cX s 1)) (iU (cX s 2)) (iU (cX s 3)));replace T:=cV ((T.trans r).trans ((ai (dO _ y4) (cin.wc s)).mono J.hb.1));replace HL:Hd (pV R4=D):=by rw[show R4=(dA R3).2 by rw[Z.aa],Bt];exact HL
 clear J r Z;let⟨d9,e5,e3,e4,d8⟩:=G.aa.aJ;go_wp2_with fail
 refine(ij s 70000 (by decide) _).mono ?_;rintro e y5⟨rfl,r⟩;replace T:=cV (T.trans (r.mono G.hb.1));replace G:=cV (G.below r);clear r;clear d9 e5 e3 e4 d8;have h7:=vH s;let⟨n7,f7⟩:=dP (ec s 70000);rw[<-f7.aa]at h7 U⊢;go_wp2_with fail
 have hp:=vx (8*n7) (by omega) G;rw[show((8*n7:Nat):Int)=8*(n7:Int) by omega]at hp;refine hp.mono ?_;rintro e y6⟨rfl,J,r⟩;obtain⟨R6,Z⟩:∃R',Hd (R'=dU (8*n7) R4):=⟨_,W⟩
 rw[<-Z.aa]at J U;replace G:=cV J;replace T:=cV (T.trans r);replace HL:Hd (pV R6=D):=by rw[Z.aa,vb];exact HL
 clear J r Z hp f7 h7;let⟨d9,e5,e3,e4,d8⟩:=G.aa.aJ;let⟨vm,ze,p12,p13,p1f⟩:=G.aa.tail.aJ;go_wp2_with fail
 refine(tX a s G).mono ?_;rintro e y7⟨rfl,J,r⟩;have F:=Lu a s R6;have g4:=uC a s R6;obtain⟨⟨q1,q2⟩,R7,Z⟩:∃q R',Hd (dJ a s R6=(q,R')):=⟨_,_,W⟩
 rw[Z.aa]at J F g4⊢;rw[Z.aa,dW]at U;try dsimp only at J U F g4
 replace HL:Hd (pV R7=D):=by rw[show R7=(dJ a s R6).2 by rw[Z.aa],M8];exact HL
 simp only[rG];replace G:=cV J;replace T:=cV (T.trans r);clear J r Z;clear d9 e5 e3 e4 d8 vm ze p12 p13 p1f;let⟨sf,e6⟩:=dP R7.ak;obtain⟨c4,c5,c6,c7⟩:cL y7 H 4 (iU (cX sf 0))/\cL y7 H 5 (iU (cX sf 1))/\cL y7 H 6 (iU (cX sf 2))/\cL y7 H 7 (iU (cX sf 3)):=by rw[e6.aa];exact⟨(G.cell (o:=4) (λ_ _=>W)).1,(G.cell (o:=5) (λ_ _=>W)).1,(G.cell (o:=6) (λ_ _=>W)).1,(G.cell (o:=7) (λ_ _=>W)).1⟩
 have a5:=G.aa.hb.1;let⟨lb,f1⟩:=dP y7.heap.size;replace G:=cV (G.tail.tail.box 112 [iU (cX sf 0),iU (cX sf 1),iU (cX sf 2),iU (cX sf 3),.slice none 0 0,.string ⟨#[]⟩]);replace T:=cV (T.trans ((ai (dO _ y7) (.cells #[iU (cX sf 0),iU (cX sf 1),iU (cX sf 2),iU (cX sf 3),.slice none 0 0,.string ⟨#[]⟩] 112)).mono a5));have f2:O<=lb:=by rw[f1.aa];exact a5
 clear a5;go_wp2;rw[<-f1.aa]at G⊢;go_loopw[9] (λt9 wr=>∃(i:Nat)(ts:Tl)(R':RS)(ad:Gj)(cp:Nat)(L:hZ),i<=n/\t9=iI (i:Int)/\Hd (nR (n-i) ts R'=nR n [] R7)/\Hd (ts.length=i)/\Hd (pV R'=pV R7/\R'.mem=R7.mem/\(R'.ao=0->R7.ao=0))/\Hd (Tps O (.slice ad i cp) ts L)/\Hd (DQ O H Y R' ((lb,112,[iU (cX sf 0),iU (cX sf 1),iU (cX sf 2),iU (cX sf 3),.slice ad i cp,.string ⟨#[]⟩])::(L++l)) wr)/\Hd (Below O x wr)) (λt9 _=>n-nI t9);case atStart=>exact⟨0,[],R7,none,0,[],In _,W,W,W,⟨W,W,id⟩,Tps.nil O,G,T⟩
 clear G T c4 c5 c6 c7;obtain⟨i,ts,R',ad,cp,L,hi,rfl,b9,f8,a1,a7,G,T⟩:=hrel;by_cases hlt:i<n;case pos=>
  have hd:=dN i n;go_wp2_with fail
  refine(pB G).mono ?_;rintro e y⟨rfl,J,r⟩;obtain⟨t,R2,Z⟩:∃a R2,Hd (dA R'=(a,R2)):=⟨_,_,W⟩
  rw[Z.aa]at J⊢;have f4:Hd (nR (n-(i+1)) (ts++[t]) R2=nR n [] R7):=by show _=_;rw[<-b9.aa,show n-i=n-(i+1)+1 by omega,nR,Z.aa]
  have g0:Hd (pV R2=pV R7/\R2.mem=R7.mem/\(R2.ao=0->R7.ao=0)):=by rw[show R2=(dA R').2 by rw[Z.aa]];exact⟨(Bt R').trans a1.1,(yC R').trans a1.2.1,λe=>a1.2.2 (Cs e)⟩
  have a5:=J.hb.1;have h2:DQ O H Y R2 ((lb,112,[iU (cX sf 0),iU (cX sf 1),iU (cX sf 2),iU (cX sf 3),.slice ad i cp,.string ⟨#[]⟩])::(L++l)) ((y.alloc (cin.wc t)).alloc (cin.wc t)):=(J.below (ai (dO _ _) (cin.wc t))).below (ai (dO _ _) (cin.wc t));have g6:(lb,112,[iU (cX sf 0),iU (cX sf 1),iU (cX sf 2),iU (cX sf 3),.slice ad i cp,.string ⟨#[]⟩])::(L++l) |>.Perm (L++(lb,112,[iU (cX sf 0),iU (cX sf 1),iU (cX sf 2),iU (cX sf 3),.slice ad i cp,.string ⟨#[]⟩])::l):=X6.symm
  have h3:=h2.bh g6;let⟨i0,c8,b8,c9,c0⟩:=YI sy;have e8:=f8.aa;let⟨v',z,a3,d5,b1,d4⟩:=fh (P:=prog) _ O 110 110 24 i0 (.agg #[iU 0,iU 0,iU 0,iU 0]) 4 32 (by kernel_rfl) c8 b8 c9 c0 W (by decide) (.slice ad i cp) ts.length (fj ts) (h3.tps a7) ⟨(y.alloc (cin.wc t)).heap.size,0,none⟩ 1 1 [iU (cX t 0),iU (cX t 1),iU (cX t 2),iU (cX t 3)] W (fJ (y.alloc (cin.wc t)) #[iU (cX t 0),iU (cX t 1),iU (cX t 2),iU (cX t 3)] 24) (by intro u hu;simp at hu;rcases hu with rfl|rfl|rfl|rfl<;>rfl) (by unfold maxLen;omega) (by omega) (by simp;omega);rw[show(y.alloc (cin.wc t)).heap.size=y.heap.size+1 by simp]at a3;have b0:Wds z O v' (ts++[t]):=by unfold Wds;rw[lB,Xm];exact d5
  let⟨L',a4,h4⟩:=h3.cS a7 b1 b0 d4;have h5:=h4.bh X6;obtain⟨f9,e7,rfl⟩:=dt b0;have k1:=(J.below (ai (dO _ _) (cin.wc t))).row.cell (i:=4) W;have k2:=h5.row.cell (i:=4) W;have k3:=World.rowIs.frozen h5.row 4;have HBN:Hd (Below O x z):=(((T.trans r).trans ((ai (dO _ y) (cin.wc t)).mono a5)).trans ((ai (dO _ (y.alloc (cin.wc t))) (cin.wc t)).mono (by simp;omega))).grown b1 h3.hb.1 (λk hk=>((h3.tps a7).lt k hk).1);have HN:=cV (h5.bt (o:=4) (v:=.slice f9 (ts++[t]).length e7));have a9:(ts++[t]).length=i+1:=by rw[Xm,e8];rfl
  have g3:=cV a9;replace a4:=cV a4;rw[a9]at HN a3 a4;have g7:=cV a3;clear J h2 h3 h4 h5 g6 c8 b8 c9 c0 a3 d5 b1 d4 b0 e8 a9 Z b9 a1 a7 G T r f8 a5;go_wp2_with(at_builtin;refine Lib.wpList_append_run _ W _ _ _ _ W _ _ W W _ _ g7 ?_);refine⟨⟨i+1,ts++[t],R2,f9,e7,L',by omega,by go_num,f4,g3,g0,a4,HN,HBN.setCell f2 _⟩,by simp[nI];omega⟩
 obtain rfl:i=n:=by omega
 have hd:=dG i i;replace U:Hd (tr=DH (q1,q2) ts R'):=U.aa.trans (by rw[<-b9.aa,Nat.sub_self];rfl);clear b9;let⟨c19,_,_⟩:=G.aa.cell (o:=19) (λ_ _=>W);by_cases h0:R'.ao=0;case neg=>
  have ht:tr=R':=U.aa.trans (iF h0);have d0:((R'.ao:Int)==0)=false:=by rw[Xb];omega
  subst ht;have HE:Hd (DQ O H Y tr l wr):=by let⟨X,C,V,h,hl,hn⟩:=G.aa.tail;rw[XP,X5]at hn;exact⟨X,C,V,h,λp hp=>hl p (Xn _ hp),hn.2.1⟩
  clear U G;go_wp2;refine bI W W ⟨W,HE,T⟩
 let⟨F,hq⟩:=F (a1.2.2 h0);have hsf:R'.ak=sf:=by have:=Xl RS.ak a1.1;rw[e6.aa];exact this
 have hwl:R'.w.lg.length<=900000000:=by have:=Xl RS.w a1.1;replace this:R'.w=R7.w:=this;rw[this,hdw (HL.trans HD)];exact hn
 rw[<-a1.aa.2.1]at F;let⟨I,f3⟩:=dP (dI (dM R'.mem q1 q2));replace U:Hd (tr={R' with w:={R'.w with lg:=R'.w.lg++[⟨sf,ts,I⟩]}}):=U.aa.trans ((At h0).trans (by rw[f3.aa,hsf]));have d0:((R'.ao:Int)==0)=true:=by rw[h0];rfl
 let⟨ad9,N,E,c22,F,hcc,hcm,hc⟩:=G.aa.cut (a:=q1) (b:=q2) F;rw[<-f3.aa]at hc;have k1:=G.aa.row.cell (i:=5) W;have k2:=World.rowIs.frozen G.row 5;go_upto_region 14 with fail
 go_cut[] (λwx=>wx=wr.setCell ⟨lb,5,none⟩ (.string I));case first=>
  clear G T a7;rcases hc with⟨rfl,rfl,rfl,rfl,rfl,hc⟩|⟨g,rfl,⟨rfl,rfl,hc⟩|⟨hca,hc⟩⟩;all_goals
   go_wp2;go_meet;case rel=>rfl
 clear hc c22 k1 k2 F hcc hcm;let⟨w9,b6⟩:=dP (wr.setCell ⟨lb,5,none⟩ (.string I));obtain rfl:w9=wc:=b6.aa.trans hcut.symm;have h9:DQ O H Y R' ((lb,112,[iU (cX sf 0),iU (cX sf 1),iU (cX sf 2),iU (cX sf 3),.slice ad i cp,.string I])::(L++l)) w9:=by rw[b6.aa];exact G.bt (o:=5) (v:=.string I)
 have hb9:Below O x w9:=by rw[b6.aa];exact T.setCell f2 _
 clear G T b6 hcut;let⟨l1,hw,g5⟩:=h9.world;have e0:=(h9.cell (o:=0) (λ_ _=>W)).1;let⟨V,A,f0,g1,d6⟩:=hw;have HP:Hd ((∀p∈L++(l1++((lb,112,[iU (cX sf 0),iU (cX sf 1),iU (cX sf 2),iU (cX sf 3),.slice ad i cp,.string I])::l)),rowL w9 p.1 p.2.1 p.2.2/\¬vu Y V p.1)/\((L++(l1++((lb,112,[iU (cX sf 0),iU (cX sf 1),iU (cX sf 2),iU (cX sf 3),.slice ad i cp,.string I])::l))).map (·.1)).Nodup):=by
  have hp:(l1++((lb,112,[iU (cX sf 0),iU (cX sf 1),iU (cX sf 2),iU (cX sf 3),.slice ad i cp,.string I])::(L++l))).Perm (L++(l1++((lb,112,[iU (cX sf 0),iU (cX sf 1),iU (cX sf 2),iU (cX sf 3),.slice ad i cp,.string I])::l))):=by refine List.Perm.trans (List.Perm.append_left l1 (X6 (a:=(lb,112,[iU (cX sf 0),iU (cX sf 1),iU (cX sf 2),iU (cX sf 3),.slice ad i cp,.string I])) (l₁:=L) (l₂:=l)).symm) ?_;rw[<-XL,<-XL];exact List.Perm.append_right _ List.perm_append_comm
  exact⟨λp hm=>f0 p (hp.mem_iff.2 hm),(hp.map _).nodup_iff.1 g1⟩
 have a2:Y∉V.gv.ownBlock.toList:=λhm=>absurd ((Ty.az A.lg (by simpa using hm)).aF (Ty.aB A.row)) (by decide);have a8:∀k v,cL w9 H k v->∀y,Kb V.gv.ownBlock.toList w9 y->cL y H k v:=λk v hc y hk=>(Xc (hk.block H (Yb _ _ hc) (λhm=>by let⟨X,C,V9,hA,_⟩:=h9;exact absurd ((Ty.az A.lg (by simpa using hm)).aF (Ty.aB hA.row)) (by decide)))).trans hc;have d3:=h9.row;have d1:∀u∈wI ⟨sf,ts,I⟩ (.slice ad i cp),u.oneCell'=true:=by intro u hu;unfold wI at hu;simp at hu;rcases hu with rfl|rfl|rfl|rfl|rfl|rfl<;>rfl
 clear h9 f0 g1;go_wp2;refine dy (PhG O Y V (R'.w.lg++[⟨sf,ts,I⟩]) (V.tv++[.slice ad i cp]) w9) (RelG Y) [(0,(pt H)),(8,(pt lb))] [(some 69,.v (pt H)),(some 70,.v (pt H)),(some 71,.v (pt H)),(some 72,.v (pt Y)),(some 73,.v (pt H)),(some 74,.v (pt H)),(some 75,.v (pt H)),(some 76,.v (pt Y)),(some 77,.v (pt Y)),(some 78,.v (pq Y 2)),(some 79,.v V.gv),(some 80,.v (.agg #[iU (cX sf 0),iU (cX sf 1),iU (cX sf 2),iU (cX sf 3),.slice ad i cp,.string I])),(some 81,.l (Wx w9 sf I (.slice ad i cp))),(some 82,.l (NewG O V (R'.w.lg++[⟨sf,ts,I⟩]) (V.tv++[.slice ad i cp]) w9)),(some 83,.v (pt Y)),(some 84,.v (pq Y 2)),(none,.v undef)] [13,16] [3,7,10,11,12] ((dO _ _).drew) (VQ A.row.lt)
   ⟨(@λs x f5 hl K f hv hK=>by
    have hx:bW w9 x:=f;let⟨q,e1,e2⟩:=hl 81 _ W;let⟨hq,b7⟩:=e2 (by omega);let⟨i0,c8,b8,c9,c0⟩:=YI wO;refine mq O 112 i0 _ 6 72 (by kernel_rfl) c8 b8 c9 c0 W (by decide) V.gv R'.w.lg.length (qM R'.w.lg V.tv) (hv W) (dh A.lg hx) ⟨q,0,none⟩ 1 1 (wI ⟨sf,ts,I⟩ (.slice ad i cp)) e1 W b7 d1 (by unfold maxLen;omega) (by omega) (By d6 hx.size) ?_;intro v' y ho b1 hfr;refine hK v' y ((Kb.h (S:=V.gv.ownBlock.toList) hx).grown b1 (λk hk=>LZ (by rw[hk];simp))) (λh=>absurd h (by omega)) nn1 ⟨by omega,?_,hfr.pre hx⟩;rw[EI A.tl,Xm];exact ho),(@λs x f5 hl K f hv hK=>by
    have hx:Kb V.gv.ownBlock.toList w9 x:=f;obtain⟨-,J,h2⟩:=hl 82 _ W;have d7:=hx.row A.row a2;let⟨ad,cp,e⟩:=dt J;exact kY (u:=V.gv) (λ_=>by kernel_rfl) ⟨_,_,_,e⟩ (hv W) W (rowL.cell (i:=2) d7 W) (d7.frozen 2) (hK _ _ ⟨_,fC J (dS d7 J) _ _,h2,Up.bM _ hx a2 A.row.lt⟩ (λ_=>⟨_,W⟩) (λ_=>W) W)),AF⟩
   ⟨(λa0 f hv hK=>by
    have hx:Kb V.gv.ownBlock.toList w9 _:=OG f (a0 1 16);exact dm (v:=(pt Y)) (hv W) (a8 0 _ e0 _ hx) (kx hK)),(λa0 f hv hK=>by
    have hx:Kb V.gv.ownBlock.toList w9 _:=OG f (a0 1 16);exact dm (v:=(pt Y)) (hv W) (a8 0 _ e0 _ hx) (kx hK)),(λa0 f hv hK=>by
    have hx:bW w9 _:=Cn f (a0 0 13);exact dm (v:=V.gv) (hv W) ((A.row.below hx).cell (i:=2) W) (kx hK)),(λa0 f hv hK=>by
    have hx:bW w9 _:=Cn f (a0 0 13);exact Kh (hv W) (d3.below hx) (kx hK)),(@λk s x hk hlo f5 hl K a0 f hv hK=>by
    have hx:bW w9 x:=Cn f (a0 0 13);refine AB (hv W) (hK _ _ (ai (dO _ x) _) nn1 ⟨x.heap.size,W,λ_=>⟨by simp,?_⟩⟩);exact fJ x #[iU (cX sf 0),iU (cX sf 1),iU (cX sf 2),iU (cX sf 3),.slice ad i cp,.string I] 112),AF⟩
   (λi d T' he p v x x' hne hp f hrel hT=>by
    have hm:=Xe he;simp only[IF,XV,reduceCtorEq,Zb,Za,XI,Xk,En.l.injEq]at hm;rcases hm with⟨-,rfl⟩|⟨-,rfl⟩
    .obtain⟨q,e1,e2⟩:=hT;exact⟨q,e1,λh=>by omega⟩
    .exact Vz A a2 hp f hrel hT) (λi d T' he p v x x' f hb hT=>by
    have hm:=Xe he;simp only[IF,XV,reduceCtorEq,Zb,Za,XI,Xk,En.l.injEq]at hm;rcases hm with⟨-,rfl⟩|⟨-,rfl⟩
    .obtain⟨q,e1,e2⟩:=hT;exact⟨q,e1,λh=>⟨Xg (e2 h).1 hb.size,λj u hu=>(hb.cell (by rw[nD];exact(e2 h).1)).trans ((e2 h).2 j u hu)⟩⟩
    exact⟨hT.1,dh hT.2.1 hb,hT.2.2⟩) ?_
 intro gg z hz _;obtain⟨v',u1,u2,u3⟩:PhG O Y V (R'.w.lg++[⟨sf,ts,I⟩]) (V.tv++[.slice ad i cp]) w9 2 z:=hz;have f6:rowL z Y 146 [V.pv,V.lv,v']:=(u3.row A.row).congr λj hj=>by rcases(show j=0\/j=1\/j=2 by simp at hj;omega)with rfl|rfl|rfl<;>rfl
 have e9:=WQ.lg1 (e:=⟨sf,ts,I⟩) (l:=l1++((lb,112,[iU (cX sf 0),iU (cX sf 1),iU (cX sf 2),iU (cX sf 3),.slice ad i cp,.string I])::l)) A HP d6 a7 u3.kb f6 u1 u2;have HE:Hd (DQ O H Y tr l z):=by rw[U.aa];exact(g5 _ z e9 u3.kb.size).tail
 have HBZ:Hd (Below O x z):=hb9.trans (u3.kb.cP d6 (λk hm=>by
  rcases IF.1 hm with rfl|hm
  .exact A.hb
  exact(A.lg.lt k (by simpa using hm)).1))
 clear hz u1 u2 u3 f6 e9 A a2 d1 d3 a8 g5 e0 HP;simp only[n8,sx9];go_wp2;refine bI W W ⟨W,HE,HBZ⟩
def po:Nat->(Tn->Prop)->Prop
 |0,P=>P []
 |n+1,P=>∀v,po n λl=>P (v::l)
theorem yI:∀(n:Nat){P:Tn->Prop},po n P->∀l:Tn,l.length=n->P l
 |0,P,h,l,hl=>by rwa[Yo hl]
 |n+1,P,h,[],hl=>by cases hl
 |n+1,P,h,v::l,hl=>yI n (h v) l (by grind)
def Frm(h:Tn)(n:Nat)(a:Act):=∃l:Tn,a=⟨(h++l).toArray,[]⟩/\l.length=n
def Frm.op{h:Tn}{a:Act}{P:Act->Prop}(A:Frm h n a)(k:po n λl=>P ⟨(h++l).toArray,[]⟩):P a:=by obtain⟨l,rfl,C⟩:=A;grind[yI]
def WT:Nat->Code->Code
 |n+1,.seq _ b=>WT n b
 |_,c=>c
def pW(run:RS->RS)(d:Nat):=d<16->∀(b gb xb:Nat)(G:RS)(L:hZ)(z:WD),DQ b gb xb G L z->GoodR G->G.depth=d+1->cP 71 #[pt gb] z (Dp b gb xb (run G) (.tuple #[]) L z)
structure Cb(R Ry:RS)(q1 q2 o1 o2 gv:Nat):Prop where
 w:Ry.w=R.w
 aS:Ry.depth=R.depth
 d16:Ry.depth≠16
 gv:gv<=Ry.ac
 ac:Ry.ac+100<=R.ac
 fq:q1+q2<=Ry.mem.length
 q2:q2<=70000
 q1:q1<=70000
 fo:o1+o2<=Ry.mem.length
def w_pay0{Q:Ending->X4}{K:RS->RS}(n:Nat)(hn:n<=10000000)(I:Hd (tr=fK (dU n R) K))(h:Hd (Sx O H Y x R R l y))(k:∀D C,Hd (tr=K D)->Hd (Sx O H Y x (dU n R) D l C)->Q AG C):cP 123 #[pt H,iI (n:Int)] y Q:=by refine(vx n hn h.aa.q).mono ?_;rintro e C⟨rfl,E,G⟩;exact k _ C I ⟨E,h.aa.b.trans G,Sm.refl _⟩
def Vn{E:RS}{Q:Ending->X4}(V:Hd ((a,E)=du (dA R) λa S=>(a,S)))(h:Hd (Sx O H Y x R0 R (bx b n::l) y))(Z:O<=b)(k:∀C,(∃X L P a3,cL C b 0 X/\cL C b 1 L/\cL C b 2 P/\cL C b 3 a3/\∀i,C.frozen? ⟨b,i,none⟩=false)->Hd (Sx O H Y x R0 E (bx b a::l) (lp C b a))->Q (.returned (wv a)) C):cP 124 #[pt H] y Q:=by let⟨J,G⟩:=Xi V;refine(pB h.aa.q).mono ?_;rintro e C⟨rfl,D,U⟩;rw[<-G]at D;rw[<-J];let⟨X,c1,c2,c3,I⟩:=Sx.cs 0 b n ⟨D,dO _ _,Sm.refl _⟩ W;exact k C ⟨_,_,_,_,X,c1,c2,c3,I⟩ ⟨D.store,(h.aa.b.trans U).trans (EQ Z),h.aa.s.trans (by grind[ee])⟩
structure SnD where
 st:Nat
 ac:Nat
 aa:BA
 lg:List LogE
 er:Int
 pu:List Pur
 sl:List Slt
def EK(O hb:Nat)(rs:List Rs)(S:SnD)(x:WD)(e:Ending)(y:WD):=∃pv lv gv tv,e=.returned (.tuple #[iy S.st S.ac S.aa gv,.int .i64 S.er])/\Sep O (iK hb S.pu S.sl pv lv::rs) y/\Below O x y/\Low y 0 gv tv S.lg
structure SdI(b1 Y U gs:Nat)(ot:BA)(V:DV)(P:RW)(L:VL)(l:List Slt)(y1 x:WD):Prop where
 row:rowL x Y 146 [V.pv,V.lv,dL]
 bz:rowL x U 38 [.int .u8 0,.int .i64 (gs:Int),.string ot,V.gv]
 pu:x.ownsRow b1 150 9 V.pv P.pu.length (P.pu.flatMap qX)
 sl:x.ownsRow b1 152 13 V.lv P.sl.length (P.sl.flatMap oj)
 lo:Low x 0 V.gv V.tv P.lg
 aD:x.ownsRow b1 152 13 L l.length (l.flatMap oj)
 ne:∀k,L.ownBlock=some k->V.lv.ownBlock≠some k
 bel:Below b1 y1 x
 hb:b1<=Y/\b1<=U/\b1<=y1.heap.size
def rowL.bH{x:WD}{T:Nat}{l:Tn}(h:rowL x b T l)(hne:b≠g)(v:VL):rowL (x.setCell ⟨g,o,none⟩ v) b T l:=World.rowIs.setOther h hne v
def Low.kbt{x:WD}{G:VL}{L:List LogE}(h:Low x 0 G tv L)(H:Kb S x y)(E:∀k∈S,∀T,Ty x k T->T≠112/\T≠24):Low y 0 G tv L:=⟨h.1,H.aD h.2.1 λk hb C=>(E k C _ (Ty.az h.2.1 hb)).1 W,λi l t G D=>H.aD (h.2.2 i l t G D) λk hb C=>(E k C _ (Ty.az (h.2.2 i l t G D) hb)).2 W⟩
section
variable {V:DV}{L:VL}{l:List Slt}
def SdI.cC(h:SdI b1 Y U gs ot V P L l y1 x)(s:Slt)(c:l.length<=1000000000):∃I y,(Builtin.append_ #[144,144] 144 #[L,sL x.heap.size 1 1]).run prog (x.alloc (.cells (oj s).toArray 152))=.ok I y/\SdI b1 Y U gs ot V P I (l++[s]) y1 y:=by
 have C:Below _ x (x.alloc (.cells (oj s).toArray 152)):=ai (dO _ x) _;let⟨Q,p,i,z,d,q,c,X,f⟩:=We;have E:=By h.hb.2.2 h.bel.size;let⟨I,y,n,t,r3,A⟩:=fh _ b1 144 144 152 i z 13 _ Q d q c X f p L _ _ (dh h.aD C) ⟨x.heap.size,0,none⟩ 1 1 (oj s) W (λj u K=>by rw[show(⟨x.heap.size,0,none⟩:Addr).add j=⟨x.heap.size,j,none⟩ by simp[Addr.add,qag]];exact(rowL.al x (oj s) _).cell K) (IQ s) (by grind[maxLen]) (by omega) (By E C.size);have R:=iM r3;have c:=(Kb.h C).trans R λi d=>LZ d;have Z:∀k∈L.ownBlock.toList,Ty x k 152:=λk H=>Ty.az h.aD (by grind);have D:∀{T k},Ty x k T->T≠152->k∉L.ownBlock.toList:=λQ J H=>J (Q.aF (Z _ H));refine⟨I,y,n,c.row h.row (D (Ty.aB h.row) (by decide)),c.row h.bz (D (Ty.aB h.bz) (by decide)),c.aD h.pu λk hb=>D (Ty.az h.pu hb) (by decide),c.aD h.sl λk hb H=>h.ne k (by grind) hb,h.lo.kbt c λk H T q=>?_,?_,λk G m=>?_,h.bel.trans (c.bel (λk H=>(h.aD.lt k (by grind)).1) E),h.hb⟩
 .grind
 .grind
 rcases A with e|e
 .exact h.ne k (e▸G) m
 have N:=e k G;have F:=(h.sl.lt k m).2;have c:=C.size;omega
end
def KO{b1 rb Y U gs:Nat}{ot:BA}{V:DV}{P:RW}{S:SnD}{x y1:WD}(HS:Hd (S=⟨0,gs,ot,P.lg,0,P.pu,P.sl.filter λs=> !s.br⟩))(C:Hd (SdI b1 Y U gs ot V P dL [] y1 y))(Q:Hd (Sep O (iK hb pu sl pv lv::rs) x))(z:Hd (bW x y1))(aA:b1=y1.heap.size)(HR:Hd (rowL y1 rb 38 [iB 0,iI 0,.string ⟨#[]⟩,dL]/\x.heap.size<=rb))(hsl:P.sl.length<=1000000000){a:Act}(A:Frm [pt hb,u1,u2,u3,pt rb,iI 0,pt Y,u7,u8,u9,pt U] 110 a):Code.wp prog (WT 12 (f41.body.getD .skip)) (bodyPost prog f41 (EK O hb rs S x)) a y:=by
 apply A.op;simp only[po,XN,XG];clear A;intros;conv=>arg 2;whnf
 let⟨a5,p5,e5⟩:=dt C.sl;let⟨N,HN⟩:=dP P.sl.length;rw[<-HN.aa]at hsl e5;go_wp2;go_loopw[11,12] (λt11 a0 wr=>∃i:Nat,i<=N/\a0=iI (i:Int)/\Hd (SdI b1 Y U gs ot V P t11 ((P.sl.take i).filter λs=> !s.br) y1 wr)) (λ_ a0 _=>N-nI a0);case atStart=>exact⟨0,In _,W,C⟩
 clear C;obtain⟨i,hi,rfl,C⟩:=hrel;have r1:=rowL.cell (i:=1) C.row W;rw[e5]at r1;by_cases hlt:i<N;case neg=>
  have hd:=dG i N;rw[XA (by rw[<-HN.aa];omega)]at C;let⟨aL,pL,eL⟩:=dt C.aD;let⟨m,q⟩:=dP ((P.sl.filter λs=> !s.br).length);rw[<-q.aa]at eL;let⟨a6,p6,e6⟩:=dt C.pu;let⟨n6,HN6⟩:=dP P.pu.length;rw[<-HN6.aa]at e6;let⟨a4,p4,e4⟩:=dt C.lo.2.1;let⟨n4,HN4⟩:=dP P.lg.length;rw[<-HN4.aa]at e4;have t:=z.aa.trans (C.bel.mono (aA▸z.size));have I:=(Q.below t).hd;have H:=HR.aa.1.below (aA▸C.bel);have hrl:=World.rowIs.lt HR.1;have hhl:hb<x.heap.size:=World.rowIs.lt Q.hd.row;have hbb:=C.aa.hb;have hx1:=z.aa.size;have a7:=HR.aa.2;have n1:Y≠U:=λe=>absurd ((Ty.aB C.row).aF (e▸Ty.aB C.bz)) (by decide);have n2:hb≠Y:=by omega
  have n3:hb≠U:=by omega
  have G:hb≠rb:=by omega
  have n5:rb≠Y:=by omega
  have n6':rb≠U:=by omega
  let⟨Yq9,p⟩:=dP (gB ((((wr.setCell ⟨Y,1,none⟩ u11).setCell ⟨hb,0,none⟩ V.pv).setCell ⟨hb,1,none⟩ u11).setCell ⟨hb,2,none⟩ dL) rb 0 gs ot V.gv);have hk:Kb [Y,hb,rb] wr Yq9:=by rw[p.aa];exact jE (((((Kb.refl [Y,hb,rb] wr).setCell AI _).setCell AI _).setCell AI _).setCell AI _) AI
  have F:Kb [hb] x Yq9:=by rw[p.aa];exact jE (((((Kb.h (S:=[hb]) t).setCell (A4 (by show _<=Y;omega)) _).setCell AI _).setCell AI _).setCell AI _) (A4 a7)
  have c:∀k∈[Y,hb,rb],∀T,Ty wr k T->T=146\/T=148\/T=38:=λk E T r=>by
   simp only[IF,Xk,XI]at E;rcases E with rfl|rfl|rfl
   .exact LZ (r.aF (Ty.aB C.row))
   .exact A4 (LZ (r.aF (Ty.aB I.row)))
   exact A4 (A4 (r.aF (Ty.aB H)))
  have Z:∀{b e s n:Nat}{v:VL}{xs:List _},e≠146/\e≠148/\e≠38->wr.ownsRow b e s v n xs->Yq9.ownsRow b e s v n xs:=λR ho=>hk.aD ho λk hb E=>by
   rcases c k E _ (Ty.az ho hb)with h|h|h
   .exact R.1 h
   .exact R.2.1 h
   exact R.2.2 h
  have HE:Hd (EK O hb rs S x (.returned (.tuple #[iy 0 gs ot V.gv,iI 0])) Yq9):=by
   rw[HS.aa];refine⟨_,u11,_,_,W,Q.kb (S:=[hb]) (r':=iK hb P.pu (P.sl.filter λs=> !s.br) _ u11) ⟨?_,fO (Z (by decide) C.pu) (In _),fO (Z (by decide) C.aD) (In _)⟩ F (λk E=>LZ (BY.1 E)) λk E=>?_,F.bel (λk E=>by rw[BY.1 E];exact Q.ge (LZ W)) Q.s,C.lo.kbt hk λk E T r=>?_⟩
   .have h9:rowL ((((wr.setCell ⟨Y,1,_⟩ u11).setCell ⟨hb,0,_⟩ _).setCell ⟨hb,1,_⟩ u11).setCell ⟨hb,2,_⟩ dL) hb 148 [V.pv,u11,dL]:=(rowL.set (rowL.set (rowL.set (rowL.bH I.row n2 _) _) u11) dL:)
    rw[p.aa];exact(((h9.bH G _).bH G _).bH G _).bH G _
   .rcases E with E|E|E
    .exact LZ (LZ E)
    .exact A4 (by have:=(C.pu.lt k E).1;omega)
    exact A4 (by have:=(C.aD.lt k E).1;omega)
   rcases c k E T r with rfl|rfl|rfl<;>decide
  have a3:Hd (cL Yq9 rb 0 (iB 0)/\cL Yq9 rb 1 (iI (gs:Int))/\cL Yq9 rb 2 (.string ot)/\cL Yq9 rb 3 V.gv):=by have h9:rowL ((((wr.setCell ⟨Y,1,_⟩ u11).setCell ⟨hb,0,_⟩ V.pv).setCell ⟨hb,1,_⟩ u11).setCell ⟨hb,2,_⟩ dL) rb 38 [iB 0,iI 0,.string ⟨#[]⟩,dL]:=(((rowL.bH H n5 _).bH G.symm _).bH G.symm _).bH G.symm _;have h8:=rowL.set (o:=3) (rowL.set (o:=2) (rowL.set (o:=1) (rowL.set (o:=0) h9 (iB ((0:Nat):Int))) (iI (gs:Int))) (.string ot)) V.gv;rw[p.aa];exact⟨rowL.cell (i:=0) h8 W,rowL.cell (i:=1) h8 W,rowL.cell (i:=2) h8 W,rowL.cell (i:=3) h8 W⟩
  have w0:=rowL.cell (i:=0) C.row W;have w2:=rowL.cell (i:=2) C.row W;have wf:=World.rowIs.frozen C.row;have h0:=rowL.cell (i:=0) I.row W;have h1:=rowL.cell (i:=1) I.row W;have h2:=rowL.cell (i:=2) I.row W;have hf:=World.rowIs.frozen I.row;have t0:=rowL.cell (i:=0) C.bz W;have t1:=rowL.cell (i:=1) C.bz W;have t2:=rowL.cell (i:=2) C.bz W;have t3:=rowL.cell (i:=3) C.bz W;have q0:=rowL.cell (i:=0) H W;have q1:=rowL.cell (i:=1) H W;have q2:=rowL.cell (i:=2) H W;have q3:=rowL.cell (i:=3) H W;have qf:=World.rowIs.frozen H;have m1:=n1.symm;have m2:=n2.symm;have m3:=n3.symm;have m4:=G.symm;have m5:=n5.symm;have m6:=n6'.symm;unfold dL at w2 h2 q3 p;rw[e6]at w0 p;rw[e4]at t3 p HE a3;rw[eL]at p;clear Z c hk F I H t C HS hbb hx1 a7 hrl hhl e5 Q HR z;subst eL;go_wp2;let⟨k0,k1,k2,k3⟩:=a3.aa;change bodyPost _ _ _ _ _ (gB ((((wr.setCell ⟨Y,1,none⟩ (.slice aL m pL)).setCell ⟨hb,0,none⟩ (.slice a6 n6 p6)).setCell ⟨hb,1,none⟩ (.slice aL m pL)).setCell ⟨hb,2,none⟩ (.slice none 0 0)) rb 0 gs ot (.slice a4 n4 p4));rw[<-p.aa];refine sp (by simp[results,results41,go_sem,k0,k1,k2,k3]) W HE
 have hd:=dN i N;have K:i<P.sl.length:=by rw[<-HN.aa];exact hlt
 obtain⟨s,a2⟩:∃s,Hd (s=P.sl[i]):=⟨P.sl[i],cV W⟩
 have d:Hd (P.sl.take (i+1)=P.sl.take i++[s]):=by show P.sl.take (i+1)=_;rw[Yy,iN K,a2.aa];rfl
 have a1:=C.aa.sl;rw[e5]at a1;obtain⟨R,g5,rfl,hg5,a8, -⟩:=fH (fO a1 (In _)) i K;have D:∀j u,j<13->(oj s)[j]?=some u->cL wr g5 (i*13+j) u:=λj u hj hu=>a8 j u hj ((oW (f:=oj) (λ_=>W) _ i K j hj).trans (by rw[<-a2.aa];exact hu));clear a8 a1 R hg5 a2 K;let⟨sa,sk,X,sb⟩:=s;have s0:=D 0 _ (by omega) W;have s1:=D 1 _ (by omega) W;have s2:=D 2 _ (by omega) W;have s3:=D 3 _ (by omega) W;have s4:=D 4 _ (by omega) W;have s5:=D 5 _ (by omega) W;have s6:=D 6 _ (by omega) W;have s7:=D 7 _ (by omega) W;have s8:=D 8 _ (by omega) W;have s9:=D 9 _ (by omega) W;have s10:=D 10 _ (by omega) W;have s11:=D 11 _ (by omega) W;have s12:=D 12 _ (by omega) W;simp only[Ye]at s0;clear D;cases w:sb with
 |true=>
  subst w;have HX:Hd (SdI b1 Y U gs ot V P u11 ((P.sl.take (i+1)).filter λs=> !s.br) y1 wr):=by show SdI _ _ _ _ _ _ _ _ _ _ _;rw[d.aa,List.filter_append];simpa using C.aa
  clear C d;go_wp2;exact⟨⟨_,by omega,by go_num,HX⟩,by simp[nI];omega⟩
 |false=>
  subst w;obtain⟨aL,pL,rfl⟩:=dt C.aD;let⟨m,q⟩:=dP (((P.sl.take i).filter λs=> !s.br).length);let⟨L',y2,J,HX⟩:=C.aa.cC ⟨sa,sk,X,false⟩ (By (List.length_filter_le _ _) (by rw[XB];omega));rw[<-q.aa]at J;replace J:Hd ((Builtin.append_ #[144,144] 144 #[.slice aL m pL,sL wr.heap.size 1 1]).run prog (wr.alloc (.cells #[iU (cX sa 0),iU (cX sa 1),iU (cX sa 2),iU (cX sa 3),iU (cX sk 0),.int _ (cX sk 1),iU (cX sk 2),iU (cX sk 3),.int _ (cX X 0),iU (cX X 1),iU (cX X 2),iU (cX X 3),.bool false] 152))=.ok L' y2):=J;have HX2:Hd (SdI b1 Y U gs ot V P L' ((P.sl.take (i+1)).filter λs=> !s.br) y1 y2):=by show SdI _ _ _ _ _ _ _ _ _ _ _;rw[d.aa,List.filter_append];exact HX
  rw[<-q.aa];clear C d HX q;go_wp2_with(at_builtin;refine Lib.wpList_append_run _ W _ _ _ _ W _ _ W W _ _ J ?_);exact⟨⟨_,by omega,by go_num,HX2⟩,by simp[nI];omega⟩
section
variable {b2 b3 B:Nat}
def call_6{j D:RS}{y14:WD}{v:Nat}{V:DV}(b:Hd (DX O H Y j X C V (bx b3 v::bx b2 Z::bx b1 gs::l) y14))(a3:Hd (DQ B gb xb D (L++(bx b3 v::bx b2 Z::bx b1 gs::l)) y14))(d0:Hd (Below O x y14))(d3:Hd ((∀k,vU H Y X C V k->k<B)/\∀p∈(bx b3 v::bx b2 Z::bx b1 gs::l:hZ),p.1<B))(hLs:Hd (∀k,X.ownBlock=some k->∃p∈L,p.1=k))(hbx:O<=B)(r:j.ac+D.ac<=1000000)(d8:D.aa.size<=70000)(c:o1+o2<=j.mem.length)(hne:H≠gb)(h3:D.ao≠3)(Q:Hd (tr=FR (o1,o2) D j)){c u6 u16:VL}{a:Act}(A:Frm [pt H,u1,u2,u3,u4,c,u6,u7,u8,u9,u10,u11,u12,u13,iI (o1:Int),iI (o2:Int),u16,u17,pt xb,u19,pt gb] 234 a):Code.wp prog (WT 27 (f131.body.getD .skip)) (bodyPost prog f131 (Dp O H Y tr (.tuple #[]) l x)) a y14:=by
 apply A.op;clear A;iterate 234 intro
 simp only[po,XN,XG];conv=>arg 2;whnf
 unfold FR at Q;replace Q:=cV (Q.trans (iF h3));clear h3;let⟨sv2,mv2,V2,a2,e7,hn2⟩:=a3.aa;have a1:=cV a2.wa;have d4:Hd (∀p∈(L++(bx b3 v::bx b2 Z::bx b1 gs::l)),∀t∈V2.tv,t.ownBlock≠some _):=λp c t ht e=>(e7 p c).2 (A4 (A4 (A4 (A4 (A4 (A4 (A4 ⟨t,ht,e⟩)))))));have f:=cV a2.row;let⟨n5,y⟩:=dP j.ac;let⟨n6,T⟩:=dP D.ac;have c:n5+n6<=1000000:=by rw[y.aa,T.aa];omega
 clear r;let⟨b9,e9,m⟩:=b.aa.q.cell (o:=16) (λ_ _=>W);let⟨d7,_,_⟩:=a3.aa.cell (o:=16) (λ_ _=>W);rw[<-y.aa]at b9;rw[<-T.aa]at d7;obtain⟨r,a0⟩:∃r:RS,Hd (r={j with ac:=j.ac+D.ac,aI:=D.aa}):=⟨_,W⟩
 rw[<-a0.aa]at Q;let⟨E,d⟩:=dP D.aa;have b7:=(b.below (dO _ _).drew).set (o:=16) (v:=.int _ ((n5+n6:Nat))) (R':={j with ac:=j.ac+D.ac}) (by rw[y.aa,T.aa];rfl) W W W (by show j.ac+D.ac<=_;rw[<-y.aa,<-T.aa];omega);rw[show((n5+n6:Nat):Int)=n5+n6 by omega]at b7;have b6:Hd (DX O H Y r X C V (bx b3 v::bx b2 Z::bx b1 gs::l) ((y14.drew.setCell ⟨H,16,none⟩ (iI (n5+n6))).setCell ⟨H,3,none⟩ (.string E))):=by rw[a0.aa,d.aa];exact b7.set (R':={j with ac:=j.ac+D.ac,aI:=D.aa}) W W W W (by show j.ac+D.ac<=_;rw[<-y.aa,<-T.aa];omega)
 have a7:Kb [H] _ ((y14.drew.setCell ⟨H,16,none⟩ (iI (n5+n6))).setCell ⟨H,3,none⟩ (.string E)):=((Kb.h (dO _ _).drew).setCell AI _).setCell AI _;replace a1:=cV (b.aY a1 a7 (λk c=>LZ (BY.1 c)));replace f:Hd (rowL _ gb _ _):=cV (a7.row f (λc=>hne (BY.1 c).symm));have I:Hd (Below _ x ((y14.drew.setCell ⟨H,16,none⟩ (iI (n5+n6))).setCell ⟨H,3,none⟩ (.string E))):=(d0.drew.setCell m _).setCell m _;have g23b:cL y14 gb 23 (.string E):=by rw[d.aa];exact a2.row.cell (i:=23) W
 let⟨f3b,z3b,_⟩:=b.aa.q.cell (o:=3) (λ_ _=>W);clear a2 e7 hn2 b7 a7 a3 b d0 m;go_wp2
 go_big_region
 go_wp2;obtain⟨R7,d6⟩:∃R7:RS,Hd (R7=gT o1 (dI (dH E 0 (min o2 E.size))) r):=⟨_,W⟩
 rw[<-d.aa,<-d6.aa]at Q;have c8:o1+(dI (dH E 0 (min o2 E.size))).size<=r.mem.length:=by
  have s:r.mem=j.mem:=by rw[a0.aa]
  rw[s];show o1+(dH E 0 (min o2 E.size)).length<=_;rw[nF];omega
 have hhs:E.size<=70000:=by rw[d.aa];exact d8
 clear b9 e9 d7;refine dy (PhP ((y14.drew.setCell _ _).setCell _ _) (λx=>DX _ H Y R7 X C V _ x/\DW B xb D.w V2 x/\rowL x gb 159 _/\Below _ _ x)) (λ_ _ _=>True) [(0,(.pointer _)),(14,(.int _ _)),(15,(.int _ _)),(20,(.pointer _))] (nV 221 [pt H,iI o1,pt gb,pt gb,_,_,iI o2,pt gb,pt gb,_,_,_,_,_,_]) [14] [5,10,11,12,13] ((dO _ _).drew) (Rb (λx b h hb=>⟨h.1.below hb,h.2.1.kb (Kb.h (S:=[]) hb) (by simp),rowL.below h.2.2.1 hb,h.2.2.2.trans (hb.mono h.1.1.hb)⟩))
   ⟨(λg hv b=>by have r:Below _ _ _:=g;have hf:=b6.aa.below r;have hc:=IH o1 (dI (dH E 0 (min o2 E.size))) hf.1 c8;refine em @hv hc (λu z h=>?_) (λl z h=>absurd h.1 (by simp)) (λz h=>absurd h.1 (by simp));let⟨e,s,h2,h3⟩:=h;injection e with e;subst e;have hd:=hf.aY (a1.kb (Kb.h (S:=[]) r) (by simp)) h2 (λk c=>A4 (by simpa using c));have hr:=h2.row (rowL.below f r) (λc=>absurd ((Ty.aB (rowL.below f r)).aF (Ty.az hf.1.me (by simpa using c))) (by decide));have hu:=hf.aX s h2 (λk c=>A4 (A4 (A4 (LZ (by simpa using c)))));rw[<-d6.aa]at hu;exact b _ z ⟨hu,hd,hr,(r.mono b6.1.hb).trans h3⟩ AF nn1 W),AF⟩
   ⟨(@λk s9 x hk hlo hdf hl K c g hv b=>by
    obtain rfl:k=0:=Yn.1 (c 0 14);have r:Below _ _ x:=g;exact dm (v:=.string E) (hv W) (by rw[d.aa];exact rowL.cell (i:=23) (rowL.below f r) W) (kx b)),(@λk s9 x hk hlo hdf hl K c g hv b=>by
    obtain rfl:k=0:=Yn.1 (c 0 14);have r:Below _ _ x:=g;exact dm (v:=.string E) (hv W) (by rw[d.aa];exact rowL.cell (i:=23) (rowL.below f r) W) (kx b)),(λ_ _ hv b=>by
    exact Va (hv W) (kx b)),(λ_ _ hv b=>by
    refine em @hv (FJ o2 E.size) (λu z h=>?_) (λl z h=>absurd h.1 (by simp)) (λz h=>absurd h.1 (by simp));let⟨e,hb⟩:=h;injection e with e;subst e;exact b _ z hb nn1 W),(λ_ _ hv b=>by
    refine em @hv (sK E 0 (min o2 E.size) (by omega) (by omega) (by omega) _) (λu z h=>?_) (λl z h=>absurd h.1 (by simp)) (λz h=>absurd h.1 (by simp));let⟨e,hb⟩:=h;injection e with e;subst e;exact b _ z hb nn1 W),AF⟩
   (nl W) (nl W) ?_
 intro b y15 g _;obtain⟨c,b,r,e8⟩:(λx:WD=>DX O H Y R7 X C V (bx b3 v::bx b2 Z::bx b1 gs::l) x/\DW B xb D.w V2 x/\rowL x gb 159 (yt D xb sv2 mv2)/\Below O ((y14.drew.setCell ⟨H,16,none⟩ (iI ((n5:Int)+(n6:Int)))).setCell ⟨H,3,none⟩ (.string E)) x) y15:=g;have U:=cV c;have J:=cV b;replace I:=cV (I.trans e8);have c19:=rowL.cell (i:=19) r W;simp only[n8,sx9];clear c b e8 b6 a1 f c8 a0 d d8 hhs;by_cases n:D.ao=1;case neg=>
  have N:(D.ao==1)=false:=Xb.2 n;replace Q:Hd (tr=eN (jM false) R7):=Q.aa.trans (by rw[iF n,N]);have d1:((D.ao:Int)==1)=false:=Xb.2 (by omega);have P:=cV U.q;clear r U J N;go_wp2_with fail
  refine(jY false _).mono ?_;rintro e yA⟨r9,c,rfl,b⟩;replace I:=cV (I.trans (b.mono P.hb.1));replace P:=cV (P.below b);clear b;go_wp2_with fail
  refine(iq r9 P).mono ?_;rintro e yB⟨rfl,s,F⟩;rw[c.aa,<-Q.aa]at s;replace P:=cV s.tail.tail.tail;replace I:=cV (I.trans F);clear s F Q;go_wp2;refine bI W W ⟨W,P,I⟩
 have N:(D.ao==1)=true:=by rw[n];rfl
 replace Q:Hd (tr=eN (jM true) {R7 with w:=D.w}):=Q.aa.trans (by rw[At n,N]);have d1:((D.ao:Int)==1)=true:=by rw[n];rfl
 let⟨pv2,lv2,gv2,tv2⟩:=V2;let⟨a4,k4,e4⟩:=dt J.pu;let⟨a5,k5,e5⟩:=dt J.sl;let⟨a6,k6,e6⟩:=dt J.lg;dsimp only at e4 e5 e6;subst e4 e5 e6;have c0:=(U.q.cell (o:=0) (λ_ _=>W)).1;have e0:=J.aa.row.cell (i:=0) W;have e1:=J.aa.row.cell (i:=1) W;have e2:=J.aa.row.cell (i:=2) W;have w0:=U.aa.1.wa.row.cell (i:=0) W;have w1:=U.aa.1.wa.row.cell (i:=1) W;have w2:=U.aa.1.wa.row.cell (i:=2) W;have wz:=World.rowIs.frozen U.1.wa.row;have d5:=(U.below (dO _ y15).drew).adopt (G:=D) (L:=L) (J.kb (Kb.h (S:=[]) (dO _ y15).drew) (by simp)) hbx d4 hLs.aa d3.1 d3.2;have a9:O<=Y:=U.aa.1.wa.hb;replace I:=cV (((I.drew.setCell (p:=⟨Y,0,none⟩) a9 (.slice a4 D.w.pu.length k4)).setCell (p:=⟨Y,1,none⟩) a9 (.slice a5 D.w.sl.length k5)).setCell (p:=⟨Y,2,none⟩) a9 (.slice a6 D.w.lg.length k6));have P:=cV d5;clear d5 r U J N d4;go_wp2
 go_big_region
 go_wp2_with fail
 refine(jY true _).mono ?_;rintro e yA⟨r9,c,rfl,b⟩;replace I:=cV (I.trans (b.mono P.hb.1));replace P:=cV (P.below b);clear b;go_wp2_with fail
 refine(iq r9 P).mono ?_;rintro e yB⟨rfl,s,F⟩;rw[c.aa,<-Q.aa]at s;replace P:=cV s.tail.tail.tail;replace I:=cV (I.trans F);clear s F Q;go_wp2;refine bI W W ⟨W,P,I⟩

variable {x0:WD}
def call_5{wc:WD}{v:Nat}{V:DV}(J:Nat)(r:Hd (∀G,Pot G (run G)))(b7:Hd (pW run R.depth))(U:Hd (GoodR R))(D:Hd (Cb R Ry q1 q2 o1 o2 gv))(g:Hd (DX O H Y Ry X C V (bx b3 v::bx b2 Z::bx b1 gs::l) x0))(hLs:Hd (∀k,X.ownBlock=some k->∃p∈L,p.1=k))(c:Hd (∀p∈L,X.ownBlock=some p.1))(u:Hd (Below O x x0))(y:Hd (bW x0 wc)){G2:RS}(b:Hd (DQ x0.heap.size gb xb G2 (L++(bx b3 v::bx b2 Z::bx b1 gs::l)) wc))(j:Hd (G2=uT J Z v (q1,q2) gv Ry (mB (bc Z Ry.w).2 (bc Z Ry.w).1).ae (ow J Z v Ry).2))(E:Hd (tr=FR (o1,o2) (run G2) {Ry with ac:=Ry.ac-gv})){u5 u6:VL}{a:Act}(A:Frm [pt H,u1,u2,u3,u4,u5,u6,u7,u8,u9,u10,u11,u12,u13,iI (o1:Int),iI (o2:Int),iI (gv:Int),u17,pt xb,u19,pt gb] 234 a):Code.wp prog (WT 24 (f131.body.getD .skip)) (bodyPost prog f131 (Dp O H Y tr (.tuple #[]) l x)) a wc:=by
 apply A.op;clear A;iterate 234 intro
 simp only[po,XN,XG];conv=>arg 2;whnf
 have hgb:=b.aa.hb.2;have hfx:=g.aa.1.row.lt;have a7:=g.aa.1.hb;have HLT:Hd ((∀k,vU H Y X C V k->k<x0.heap.size)/\∀p∈(bx b3 v::bx b2 Z::bx b1 gs::l),p.1<x0.heap.size):=⟨λk hk=>g.1.lt hk,λp hp=>World.rowIs.lt (g.2.1 p hp).1⟩
 obtain⟨N,h⟩:∃N,Hd (Ry.ac=N):=⟨_,W⟩
 have hgN:N<=1000000:=by rw[<-h.aa];exact g.1.gl
 have hgv:gv<=N:=by rw[<-h.aa];exact D.gv
 have a2:H≠gb:=by omega
 rw[h.aa]at E;obtain⟨i,m⟩:∃i:RS,Hd (i={Ry with ac:=N-gv}):=⟨_,W⟩
 rw[<-m.aa]at E;let⟨a5,z16,z⟩:=(g.below y).q.cell (o:=16) (λ_ _=>W);rw[h.aa]at a5;have n:Hd (DX O H Y i X C V (bx b3 v::bx b2 Z::bx b1 gs::l) (x0.setCell ⟨H,16,none⟩ (iI ((N-gv:Nat))))):=by rw[m.aa];exact g.set W W W W (by grind)
 rw[show((N-gv:Nat):Int)=N-gv by omega]at n;have f:Hd (Below _ (x0.setCell ⟨H,16,none⟩ (iI (N-gv))) _):=Ho y;have a1:Hd (DQ _ gb xb G2 _ (wc.setCell ⟨H,16,none⟩ (iI (N-gv)))):=b.aa.frm (Ty.aB (g.below y).1.row) a2 (g.nofb c.aa) ((Kb.refl _ _).setCell AI _);have b6:Hd (Below _ x (x0.setCell ⟨H,16,none⟩ (iI (N-gv)))):=u.aa.setCell z _;have S:R.depth<16:=by have K:=D.aa.aS;have h2:=D.aa.d16;have c:=U.aa.aS;omega
 have a0:GoodR G2:=by rw[j.aa];exact Mt J Z v gv U.aa D.w D.aS D.d16 D.q2 (by have K:=D.aa.ac;have h2:=D.aa.gv;omega)
 have T:G2.depth=R.depth+1:=by rw[j.aa];show Ry.depth+1=_;rw[D.aa.aS]
 have a3:=cV (b7 S _ gb xb G2 _ _ a1 a0 T);have a4:(x0.setCell ⟨H,16,none⟩ (iI (N-gv))).heap.size=x0.heap.size:=by simp
 have a9:=cV a4;have F:o1+o2<=i.mem.length:=by rw[m.aa];exact D.fo
 clear b y u a1 S a0 T a4 g z;go_wp2_with fail
 refine a3.mono ?_;rintro e y14⟨rfl,u,t⟩;have I:=r.aa G2;let⟨Q,b⟩:=dP (run G2);rw[<-b.aa]at u I E;have s:i.ac+Q.ac<=1000000:=by
  have K:=I.ac;rw[j.aa]at K;have h2:i.ac=N-gv:=by rw[m.aa]
  have c:Q.ac<=gv:=K;omega
 have b:=I.aa (by rw[j.aa];exact In _);have b0:Hd (DX _ H Y i X C V _ _):=n.aa.below (by rw[a9.aa];exact f.trans t);have a6:Hd _:=b6.aa.trans ((f.trans t).mono a7);have r:=cV u;let⟨c19,_,_⟩:=u.cell (o:=19) (λ_ _=>W);replace s:=cV s;replace b:=cV b;replace F:=cV F;clear u t f b6 n a3 I a5 z16 a9;go_upto_if 198 with fail;go_cut[] (λu=>u=y14/\Q.ao≠3);case first=>
  by_cases c:Q.ao=3
  .have d3:((Q.ao:Int)==3)=true:=by rw[c];rfl
   replace E:Hd _:=E.aa.trans (At c);have P:=cV b0.q;have d:=cV a6;go_wp2_with fail
   refine(dx 0 (by omega) _).mono ?_;rintro e u⟨r9,u,rfl,hB⟩;replace d:=cV (d.trans (hB.mono P.hb.1));replace P:=cV (P.below hB);clear hB;go_wp2_with fail
   refine(iq r9 P).mono ?_;rintro e yB⟨rfl,K,a8⟩;rw[u.aa,<-E.aa]at K;replace P:=cV K.tail.tail.tail;replace d:=cV (d.trans a8);clear K a8 E;go_wp2;refine bI W W ⟨W,P,d⟩
  have d3:((Q.ao:Int)==3)=false:=Xb.2 (by omega);go_wp2;go_meet;grind
 rename_i hgo;refine hgo _ _ ?_;obtain⟨rfl,c⟩:=hcut;exact call_6 b0 r a6 HLT hLs a7 s.aa b.aa F.aa a2 c E ⟨_,W,W⟩

def call_4{wc:WD}{v:Nat}{V:DV}(J:Nat)(hrp:Hd (∀G,Pot G (run G)))(a3:Hd (pW run R.depth))(f:Hd (GoodR R))(F:Hd (Cb R Ry q1 q2 o1 o2 gv))(i:Hd (DX O H Y Ry X C V (bx b3 v::bx b2 Z::bx b1 gs::l) x0))(hLs:Hd (∀k,X.ownBlock=some k->∃p∈L,p.1=k))(hL3:Hd (∀p∈L,X.ownBlock=some p.1))(HB:Hd (Below O x x0))(E:Hd (bW x0 wc)){g:RS}(y:Hd (DQ x0.heap.size gb xb g (L++(bx b3 v::bx b2 Z::bx b1 gs::l)) wc))(s:Hd (g=uT J Z v (q1,q2) gv Ry (mB (bc Z Ry.w).2 (bc Z Ry.w).1).ae (bc Z Ry.w).2))(I:Hd (tr=D3 run J Z v (q1,q2) (o1,o2) gv Ry)){a:Act}(A:Frm [pt H,iI (J:Int),u2,u3,u4,pt b2,pt b3,u7,u8,u9,u10,u11,u12,u13,iI (o1:Int),iI (o2:Int),iI (gv:Int),u17,pt xb,u19,pt gb] 234 a):Code.wp prog (WT 23 (f131.body.getD .skip)) (bodyPost prog f131 (Dp O H Y tr (.tuple #[]) l x)) a wc:=by
 apply A.op;clear A;iterate 234 intro
 simp only[po,XN,XG];conv=>arg 2;whnf
 obtain⟨G2,U⟩:∃G2:RS,Hd (G2=uT J Z v (q1,q2) gv Ry (mB (bc Z Ry.w).2 (bc Z Ry.w).1).ae (ow J Z v Ry).2):=⟨_,W⟩
 let⟨P1,t⟩:=dP ((bc Z Ry.w).2);have P:Hd (g={G2 with w:=P1}):=by show _=_;rw[s.aa,U.aa,t.aa];rfl
 have a2:g.w.pu.length<=900000000:=by rw[s.aa];show(bc Z Ry.w).2.pu.length<=_;have o:=(iG Z Ry.w).2;have h2:=f.aa.pu;rw[F.aa.w]at o;rw[F.aa.w];omega
 have hbx:=i.aa.1.hb;clear s;let⟨mk,S⟩:=dP ((ow J Z v Ry).1);unfold D3 at I;rw[<-U.aa,<-S.aa]at I;go_upto_if 170 with fail;go_cut[] (λb=>mk=true/\Hd (DQ x0.heap.size gb xb G2 (L++(bx b3 v::bx b2 Z::bx b1 gs::l)) b)/\Hd (bW x0 b));case first=>
  by_cases ho:J=241;case neg=>
   have d:((J:Int)==241)=false:=Xb.2 (by omega);have c:ow J Z v Ry=(true,P1):=by rw[t.aa];exact iF ho
   have r:g=G2:=by
    rw[P.aa];have:G2.w=P1:=by rw[U.aa];show(ow J Z v Ry).2=_;rw[c]
    rw[<-this]
   have b:mk=true:=by rw[S.aa,c]
   rw[r]at y;clear r ho c U P S;go_wp2;go_meet;case rel=>exact⟨b,y,E⟩
  have d:((J:Int)==241)=true:=by rw[ho];rfl
  have c:fP Ry.ak Z v g.w=(mk,G2.w):=by
   have o:ow J Z v Ry=fP Ry.ak Z v P1:=by rw[t.aa];exact At ho
   have h2:g.w=P1:=by rw[P.aa]
   have h3:G2.w=(ow J Z v Ry).2:=by rw[U.aa];rfl
   rw[h2,<-o,h3,S.aa]
  have r:({g with w:=G2.w}:RS)=G2:=by rw[P.aa]
  have HM:=cV c;have HE:=cV r;clear ho c r;go_wp2;refine dy (PhQ _ gb xb (λk=>match k with|0=>g|_=>G2) (L++(bx b3 v::bx b2 Z::bx b1 gs::l)) x0) (λ_ _ _=>True) [(0,(.pointer _)),(18,(.pointer _)),(5,(.pointer _)),(6,(.pointer _))] (nV 171 [pt H,pt H,pq H 4,_,_,_,.bool mk]++[(some 21,.v (.bool mk))]) [6] [3,4,5] (Ik 0 _ _ ⟨y,E⟩ (dO _ _).drew) (Ik)
    ⟨(@λs9 x N hl K D hv n=>by have T:DQ _ gb xb g _ x:=D.1;have c:=move_D Ry.ak Z v T a2;rw[HM.aa]at c;refine em @hv c (λu z h=>?_) (λl z h=>absurd h.1 (by simp)) (λz h=>absurd h.1 (by simp));let⟨e,o,hb⟩:=h;injection e with e;subst e;rw[show({g with w:=(mk,G2.w).2}:RS)=G2 from HE.aa]at o;exact n _ z ⟨o,D.2.trans hb⟩ AF nn1 W),AF⟩
    ⟨(@λk s9 x hk a0 N hl K j D hv n=>by
     obtain rfl:k=0:=Yn.1 (j 0 6);have T:=D.2;have c:=(i.below T).q;exact dD (hv W) (c.cell (λ_ _=>W)).1 (c.cell (λ_ _=>W)).1 (c.cell (λ_ _=>W)).1 (c.cell (λ_ _=>W)).1 (n _ x (dO _ _) nn1 W)),(@λk s9 x hk a0 N hl K j D hv n=>by
     obtain rfl:k=0:=Yn.1 (j 0 6);have T:=D.2;have c:=(i.below T).q;let⟨r,c1,c2,c3,_⟩:=c.tail.aJ;exact dD (hv W) r c1 c2 c3 (n _ x (dO _ _) nn1 W)),(@λk s9 x hk a0 N hl K j D hv n=>by
     obtain rfl:k=0:=Yn.1 (j 0 6);have T:=D.2;have c:=(i.below T).q;let⟨r,c1,c2,c3,_⟩:=c.aJ;exact dD (hv W) r c1 c2 c3 (n _ x (dO _ _) nn1 W)),AF⟩
    (λ_ _ _ h=>(mE W h).elim) (λ_ _ _ h=>(mE W h).elim) ?_
  intro c c D _;replace y:Hd (DQ _ gb xb G2 _ _):=cV D.1;replace E:=cV D.2;clear D;simp only[n8,sx9];cases mk;case true=>go_wp2;go_meet;case rel=>exact⟨W,y,E⟩
  have Q:=cV (i.below E).q;have m:=cV (HB.trans (E.mono hbx));replace I:Hd _:=I.aa.trans (iF (by decide));clear HM HE y E;go_wp2_with fail
  refine(dx 0 (by omega) _).mono ?_;rintro e c⟨r9,c,rfl,r⟩;replace m:=cV (m.trans (r.mono Q.hb.1));replace Q:=cV (Q.below r);clear r;go_wp2_with fail
  refine(iq r9 Q).mono ?_;rintro e r⟨rfl,o,r⟩;rw[c.aa,<-I.aa]at o;replace Q:=cV o.tail.tail.tail;replace m:=cV (m.trans r);clear o r I;go_wp2;refine bI W W ⟨W,Q,m⟩
 rename_i hgo;refine hgo _ _ ?_;clear y E;let⟨b,y,E⟩:=hcut;replace I:=cV (I.trans (At b));exact call_5 J hrp a3 f F i hLs hL3 HB E y U I ⟨_,W,W⟩

def Jt{wc:WD}{v:Nat}{V:DV}(J:Nat)(u:Hd (∀G,Pot G (run G)))(F:Hd (pW run R.depth))(j:Hd (GoodR R))(s:Hd (Cb R Ry q1 q2 o1 o2 gv))(U:Hd (DX O H Y Ry X C V (bx b3 v::bx b2 Z::bx b1 gs::l) x0))(i:Hd (∀k,X.ownBlock=some k->∃p∈L,p.1=k))(N:Hd (∀p∈L,X.ownBlock=some p.1))(r:Hd (Below O x x0))(D:Hd (bW x0 wc)){z:RS}(E:Hd (DQ x0.heap.size gb xb z (L++(bx b3 v::bx b2 Z::bx b1 gs::l)) wc))(K:Hd (z={uT J Z v (q1,q2) gv Ry (mB (bc Z Ry.w).2 (bc Z Ry.w).1).ae (bc Z Ry.w).2 with ak:=Z,ax:=Ry.ak,value:=v}))(c:Hd (tr=D3 run J Z v (q1,q2) (o1,o2) gv Ry)){a:Act}(A:Frm [pt H,iI (J:Int),u2,u3,u4,pt b2,pt b3,u7,u8,u9,u10,u11,u12,u13,iI (o1:Int),iI (o2:Int),iI (gv:Int),u17,pt xb,u19,pt gb] 234 a):Code.wp prog (WT 22 (f131.body.getD .skip)) (bodyPost prog f131 (Dp O H Y tr (.tuple #[]) l x)) a wc:=by
 apply A.op;clear A;iterate 234 intro
 simp only[po,XN,XG];conv=>arg 2;whnf
 have I:=E.aa.hb.2;have b:H<x0.heap.size:=U.aa.1.row.lt;obtain⟨G1,y⟩:∃G1:RS,Hd (G1=uT J Z v (q1,q2) gv Ry (mB (bc Z Ry.w).2 (bc Z Ry.w).1).ae (bc Z Ry.w).2):=⟨_,W⟩
 go_upto_if 147 with fail;go_cut[] (λg=>Hd (DQ x0.heap.size gb xb G1 (L++(bx b3 v::bx b2 Z::bx b1 gs::l)) g)/\Hd (bW x0 g));case first=>
  by_cases T:J=244;case neg=>
   have d:((J:Int)==244)=false:=Xb.2 (by omega);have h:z=G1:=by rw[K.aa,y.aa];unfold uT;simp only[iF T]
   rw[h]at E;clear h T;go_wp2;go_meet;simp_all
  have d:((J:Int)==244)=true:=by rw[T];rfl
  have h:({{{z with ak:=Ry.ak}with ax:=Ry.ax}with value:=Ry.value})=G1:=by rw[K.aa,y.aa];unfold uT;simp only[At T]
  clear T;refine wp_cond_true (Xl Value.bool d) ?_;obtain⟨m,P⟩:∃n:Nat,Hd (n=Ry.ak):=⟨_,cV W⟩
  rw[<-P.aa]at h;refine wp_seq_k λb Q=>?_;go_cut[] (λg=>Hd (DQ x0.heap.size gb xb {z with ak:=m} (L++(bx b3 v::bx b2 Z::bx b1 gs::l)) g)/\Hd (bW x0 g));case first=>have e:=((U.below D).q.cell (o:=4) (λ_ _=>W)).1;rw[<-P.aa]at e;let⟨e,z4,_⟩:=E.aa.cell (o:=4) (λ_ _=>W);have e:=((U.below D).q.cell (o:=5) (λ_ _=>W)).1;rw[<-P.aa]at e;let⟨e,z5,_⟩:=E.aa.cell (o:=5) (λ_ _=>W);have e:=((U.below D).q.cell (o:=6) (λ_ _=>W)).1;rw[<-P.aa]at e;obtain⟨e,e,_⟩:=E.aa.cell (o:=6) (λ_ _=>W);have e:=((U.below D).q.cell (o:=7) (λ_ _=>W)).1;rw[<-P.aa]at e;obtain⟨e,e,_⟩:=E.aa.cell (o:=7) (λ_ _=>W);replace E:=cV (E.self4 m);replace D:=cV ((((D.setCell (p:=⟨gb,4,none⟩) I (lu m 0)).setCell (p:=⟨gb,5,none⟩) I (lu m 1)).setCell (p:=⟨gb,6,none⟩) I (lu m 2)).setCell (p:=⟨gb,7,none⟩) I (lu m 3));clear P;go_wp2;go_meet;case rel=>exact⟨E,D⟩
  refine Q _ _ ?_;clear E D P Q;let⟨E,D⟩:=hcut;obtain⟨S,P⟩:∃n:Nat,Hd (n=Ry.ax):=⟨_,cV W⟩
  rw[<-P.aa]at h;refine wp_seq_k λb Q=>?_;go_cut[] (λg=>Hd (DQ x0.heap.size gb xb {{z with ak:=m}with ax:=S} (L++(bx b3 v::bx b2 Z::bx b1 gs::l)) g)/\Hd (bW x0 g));case first=>have b:=((U.below D).q.cell (o:=8) (λ_ _=>W)).1;rw[<-P.aa]at b;obtain⟨b,b,_⟩:=E.aa.cell (o:=8) (λ_ _=>W);have b:=((U.below D).q.cell (o:=9) (λ_ _=>W)).1;rw[<-P.aa]at b;let⟨b,z9,_⟩:=E.aa.cell (o:=9) (λ_ _=>W);have b:=((U.below D).q.cell (o:=10) (λ_ _=>W)).1;rw[<-P.aa]at b;obtain⟨b,b,_⟩:=E.aa.cell (o:=10) (λ_ _=>W);have t:=((U.below D).q.cell (o:=11) (λ_ _=>W)).1;rw[<-P.aa]at t;obtain⟨b,b,_⟩:=E.aa.cell (o:=11) (λ_ _=>W);replace E:=cV (E.cK S);replace D:=cV ((((D.setCell (p:=⟨gb,8,none⟩) I (lu S 0)).setCell (p:=⟨gb,9,none⟩) I (lu S 1)).setCell (p:=⟨gb,10,none⟩) I (lu S 2)).setCell (p:=⟨gb,11,none⟩) I (lu S 3));clear P;go_wp2;go_meet;case rel=>exact⟨E,D⟩
  refine Q _ _ ?_;clear E D P Q;let⟨E,D⟩:=hcut;obtain⟨f,P⟩:∃n:Nat,Hd (n=Ry.value):=⟨_,cV W⟩
  rw[<-P.aa]at h;have b:=((U.below D).q.cell (o:=12) (λ_ _=>W)).1;rw[<-P.aa]at b;obtain⟨b,b,_⟩:=E.aa.cell (o:=12) (λ_ _=>W);have b:=((U.below D).q.cell (o:=13) (λ_ _=>W)).1;rw[<-P.aa]at b;obtain⟨b,b,_⟩:=E.aa.cell (o:=13) (λ_ _=>W);have b:=((U.below D).q.cell (o:=14) (λ_ _=>W)).1;rw[<-P.aa]at b;obtain⟨b,b,_⟩:=E.aa.cell (o:=14) (λ_ _=>W);have f15:=((U.below D).q.cell (o:=15) (λ_ _=>W)).1;rw[<-P.aa]at f15;obtain⟨b,b,_⟩:=E.aa.cell (o:=15) (λ_ _=>W);replace E:=cV (E.cQ f);replace D:=cV ((((D.setCell (p:=⟨gb,12,none⟩) I (lu f 0)).setCell (p:=⟨gb,13,none⟩) I (lu f 1)).setCell (p:=⟨gb,14,none⟩) I (lu f 2)).setCell (p:=⟨gb,15,none⟩) I (lu f 3));clear P;rw[h]at E;clear h;go_wp2;go_meet;case rel=>exact⟨E,D⟩
 rename_i hgo;refine hgo _ _ ?_;clear E D;let⟨E,D⟩:=hcut;exact call_4 J u F j s U i N r D E y c ⟨_,W,W⟩

def call_3{v:Nat}(J:Nat)(f9:Hd (∀G,Pot G (run G)))(d3:Hd (pW run R.depth))(f:Hd (GoodR R))(c:Hd (Cb R Ry q1 q2 o1 o2 gv))(g0:Hd (tr=D3 run J Z v (q1,q2) (o1,o2) gv Ry))(u:Hd (Sx O H Y x Ry Ry (bx b3 v::bx b2 Z::bx b1 gs::l) y)){u18 u20:VL}{a:Act}(A:Frm [pt H,iI (J:Int),u2,u3,pt b1,pt b2,pt b3,u7,u8,u9,u10,u11,iI (q1:Int),iI (q2:Int),iI (o1:Int),iI (o2:Int),iI (gv:Int),u17,u18,u19,u20] 234 a):Code.wp prog (WT 19 (f131.body.getD .skip)) (bodyPost prog f131 (Dp O H Y tr (.tuple #[]) l x)) a y:=by
 apply A.op;clear A;iterate 234 intro
 simp only[po,XN,XG];conv=>arg 2;whnf
 have hpu:=f.aa.pu;have hsl:=f.aa.sl;have hlg:=f.aa.lg;rw[<-c.aa.w]at hpu hsl hlg;have b8:=c.aa.fq;have hmy:Ry.mem.length<=65568:=by let⟨_,_,_,h9,_⟩:=u.aa.q.ex;exact h9
 have d0:Ry.depth<=16:=by rw[c.aa.aS];exact f.aa.aS
 have hgl:=By c.gv u.q.ac;have HB:=cV u.b;let⟨X,C,V,t⟩:=u.aa.q;have c0:=(u.q.cell (o:=0) (λ_ _=>W)).1;have e0:=t.1.wa.row.cell (i:=0) W;have e1:=t.1.wa.row.cell (i:=1) W;have e2:=t.1.wa.row.cell (i:=2) W;let⟨L,b7,f5,f8,a8⟩:=DX.rows t;replace a8:=cV a8;replace b7:=cV b7;have HF:Hd (DX O H Y Ry X C V _ y):=t;have e9:=cV (aIn f5 f8);clear t f5 f8 u;go_wp2_with fail
 refine(Ow HF.1.wa (by omega) (by omega) (by omega)).mono ?_;rintro e y9⟨V9,rfl,d7,d4,u⟩;let⟨a1,k1,a2,k2,a3,k3,s1,s2,s3⟩:=d4.sl u.size;let⟨pv9,lv9,gv9,tv9⟩:=V9;dsimp only at d7 s1 s2 s3;subst s1 s2 s3;have HQ:=cV (WQ.copy HF.1.wa e9.1 e9.2 d7 d4 u);have S:=cV (u.trans ((ai (dO _ y9) (.cells #[.slice a1 Ry.w.pu.length k1,.slice a2 Ry.w.sl.length k2,.slice a3 Ry.w.lg.length k3] 146)).mono u.size));let⟨t0,t1,t2,t3,_⟩:=(HF.below S).q.tail.aJ;clear d4 d7 u e0 e1 e2 c0;go_wp2_with fail
 refine(qE Z HQ).mono ?_;rintro e U⟨rfl,hQ,c9⟩;let⟨b0,f7⟩:=iG Z Ry.w;let⟨pi,e8⟩:=dP ((bc Z Ry.w).1);let⟨P1,u⟩:=dP ((bc Z Ry.w).2);rw[<-e8.aa,<-u.aa]at b0;rw[<-u.aa]at f7 hQ;rw[<-e8.aa];obtain⟨cd,e6⟩:∃cd:BA,Hd (cd=P1.pu[pi].ae):=⟨_,cV W⟩
 have g3:cd=(mB (bc Z Ry.w).2 (bc Z Ry.w).1).ae:=by rw[e6.aa,<-u.aa,<-e8.aa,sd _]
 replace HQ:=cV hQ;replace S:=cV (S.trans c9);let⟨xb,HXB⟩:=dP y9.heap.size;rw[<-HXB.aa]at HQ⊢;clear hQ c9 t0 t1 t2 t3;obtain⟨G0,m⟩:∃G0:RS,Hd (G0={uT J Z v (q1,q2) gv Ry cd P1 with ak:=Z,ax:=Ry.ak,value:=v}):=⟨_,W⟩
 have c8:Hd (G0={uT J Z v (q1,q2) gv Ry (mB (bc Z Ry.w).2 (bc Z Ry.w).1).ae (bc Z Ry.w).2 with ak:=Z,ax:=Ry.ak,value:=v}):=by rwa[<-g3,<-u.aa]
 clear g3;have u:=HF.aa.below S;let⟨g9,d1,j0,f6⟩:=HQ.aa.ps b0;have j8:cL U g9 (pi*9+8) (.string cd):=by rw[e6.aa];exact f6 8 _ (by omega) W
 let⟨N9,e5⟩:=dP P1.pu.length;rw[<-e5.aa]at j0;have f4:pi<N9:=by rw[e5.aa];exact b0
 let⟨sf,d6⟩:=dP Ry.ak;obtain⟨c4,c5,c6,c7⟩:U.cell? _=some (lu sf 0)/\U.cell? _=some (lu sf 1)/\U.cell? _=some (lu sf 2)/\U.cell? _=some (lu sf 3):=by rw[d6.aa];exact⟨(u.q.cell (o:=4) (λ_ _=>W)).1,(u.q.cell (o:=5) (λ_ _=>W)).1,(u.q.cell (o:=6) (λ_ _=>W)).1,(u.q.cell (o:=7) (λ_ _=>W)).1⟩
 have e7:=(u.q.cell (o:=17) (λ_ _=>W)).1;have f1:=(u.q.cell (o:=20) (λ_ _=>W)).1;let⟨dp,b6⟩:=dP Ry.depth;have Bp:dp<=16:=by rw[b6.aa];exact d0
 rw[<-b6.aa]at e7;let⟨rd,e4⟩:=dP Ry.aR;rw[<-e4.aa]at f1;let⟨b5,f0⟩:=dP ((J==250));have d5:((J:Int)==250)=b5:=by
  rw[f0.aa];by_cases h:J=250
  .rw[h];rfl
  rw[Xb.2 h];exact Xb.2 (by omega)
 let⟨g6,g1,f2,g5,_⟩:=u.q.aJ;let⟨t0,t1,t2,t3,_⟩:=u.q.tail.aJ;let⟨N,d8⟩:=dP (dI (dM Ry.mem q1 q2));have f3:=u.1.row.cell (i:=22) W;have a9:=cV u.1.me;let⟨g4,E,T⟩:=dt a9.aa;have a0:Hd (((g4=none/\E=0)\/∃g,g4=some ⟨g,0,none⟩)/\Ry.mem.length<=E/\E<=9223372036854775807):=by
  rcases a9.aa.2 with⟨e,h0⟩|⟨g,cap',cur,e,_,_,h4,h5,_⟩
  .rw[T]at e;injection e with e1 e2 e3;exact⟨LZ ⟨e1,e3⟩,by omega,by omega⟩
  rw[T]at e;injection e with e1 e2 e3;subst e3;exact⟨A4 ⟨g,e1⟩,h4,by unfold maxLen at h5;omega⟩
 replace m:Hd (G0=⟨cd,N,⟨_⟩,Z,sf,v,gv,dp+1,0,0,rd||b5,[],[],⟨_⟩,P1⟩):=m.aa.trans (by rw[d8.aa,d6.aa,b6.aa,e4.aa,f0.aa];rfl);have d9:Hd (∀z,Below _ _ z->DQ y.heap.size z.heap.size xb G0 (L++(bx b3 v::bx b2 Z::bx b1 gs::l)) _):=λz hz=>(HQ.below hz).frame G0 (by rw[m.aa]) (by rw[m.aa]) (by rw[m.aa]) (by rw[m.aa];exact hgl);rw[m.aa]at d9;clear f6 d6 b6 e4 f0 HQ e9 b0 f7 e5 e6 d0 u;replace T:=cV T;go_wp2;rename_i hgo;cases rd
 .refine jB (λx x'=>bW x x') (λx=>dO _ x) (λ_ x=>bW U x) (λ_ _ _ _=>True) [(0,(pt H)),(1,(iI (J:Int))),(5,(pt b2)),(6,(pt b3)),(12,(iI (q1:Int))),(13,(iI (q2:Int))),(16,(iI (gv:Int))),(18,(pt xb)),(19,(iI (pi:Int)))] [(some 108,.v (pt xb)),(some 109,.v (sL g9 N9 d1)),(some 110,.v (iI (pi:Int))),(some 111,.v (pq g9 (pi*9))),(some 112,.v (pq g9 (pi*9+8))),(some 113,.v (.string cd)),(some 114,.v (pt H)),(some 115,.v (pt H)),(some 116,.v (pq H 22)),(some 117,.v C),(some 118,.v (iI (q1:Int))),(some 119,.v (iI (q1:Int))),(some 120,.v (iI (q2:Int))),(some 121,.v (iI ((q1+q2:Nat):Int))),(some 122,.l (λ_ v _=>PartOf C v q1 q2)),(some 123,.v (.string N)),(some 124,.v (wv Z)),(some 125,.v (pt H)),(some 126,.v (pt H)),(some 127,.v (pq H 4)),(some 128,.v (wv sf)),(some 129,.v (wv v)),(some 130,.v (iI (gv:Int))),(some 131,.v (pt H)),(some 132,.v (pt H)),(some 133,.v (pq H 17)),(some 134,.v (iI (dp:Int))),(some 135,.v (iI ((dp+1:Nat):Int))),(some 136,.v (pt H)),(some 137,.v (pt H)),(some 138,.v (pq H 20)),(some 139,.v (.bool false)),(some 140,.v (.bool false)),(some 141,.v (iI (J:Int))),(some 142,.v (.bool b5)),(some 143,.v (.bool b5)),(some 144,.v (.agg #[pt xb,.string cd,.string N,.string ⟨#[]⟩,lu Z 0,lu Z 1,lu Z 2,lu Z 3,lu sf 0,lu sf 1,lu sf 2,lu sf 3,lu v 0,lu v 1,lu v 2,lu v 3,iI (gv:Int),iI ((dp+1:Nat):Int),iI 0,iI 0,.bool b5,.slice none 0 0,.slice none 0 0,.string ⟨#[]⟩])),(some 145,.l (λ_ u0 x=>∃j,u0=pt j/\DQ y.heap.size j xb G0 (L++(bx b3 v::bx b2 Z::bx b1 gs::l)) x/\bW y x)),(some 20,.l (λ_ u0 x=>∃j,u0=pt j/\DQ y.heap.size j xb G0 (L++(bx b3 v::bx b2 Z::bx b1 gs::l)) x/\bW y x))] [] [1,3,5,9,13,14,15,16,20,21,26,27,31,34,36,37,38] [] (by simp) (by simp) ((dO _ _).drew) (λk x x' h u=>h.trans (u.mono h.size))
    True.intro
    ⟨(λ_ D I P=>dm (I W) (ff D j0) (kx P)),(λ_ D I P=>by
     have Q:Below _ _ _:=D;exact mA (I W) (I W) f4 (kx P)),(λ_ D I P=>dm (I W) (ff D j8) (kx P)),(λ_ D I P=>by
     have Q:Below U.heap.size _ _:=D;exact dm (v:=C) (I W) (ff Q f3) (kx P)),(λ_ _ I P=>BM (I W) (I W) (by omega) (kx P)),(λ_ D I P=>by
     have Q:Below U.heap.size _ _:=D;exact zA ((I W).trans T.aa) (I W) (I W) b8 a0.aa.2.1 a0.aa.2.2 a0.aa.1 (λr hr=>P _ _ (dO _ _) nn1 (by rw[T.aa];exact hr))),(@λk s x hk a4 a5 hl K a6 D I P=>by
     have Q:Below _ _ x:=D;have hp:=hl 122 _ W;have hr:=(PartOf.bD hp (dh a9.aa Q) b8).bJ;rw[show(⟨_⟩:BA)=N from d8.aa.symm]at hr;exact Fs W hr (kx P)),(λ_ D I P=>dD (n:=Z) (I W) (ff D t0) (ff D t1) (ff D t2) (ff D t3) (kx P)),(λ_ D I P=>by
     have Q:Below _ _ _:=D;exact dD (n:=sf) (I W) (ff Q c4) (ff Q c5) (ff Q c6) (ff Q c7) (kx P)),(λ_ D I P=>dD (n:=v) (I W) (ff D g6) (ff D g1) (ff D f2) (ff D g5) (kx P)),(λ_ D I P=>by
     have Q:Below _ _ _:=D;exact dm (I W) (ff Q e7) (kx P)),(λ_ _ I P=>JD dp 1 (by omega) (by omega) (I W) (kx P)),(λ_ D I P=>by
     have Q:Below _ _ _:=D;exact dm (I W) (ff Q f1) (kx P)),(λ_ _ I P=>st_eqK (I W) d5 (kx P)),(λ_ D I P=>by
     have Q:Below _ _ _:=D;exact xr (I W) (I W) (I W) (I W) (I W) (I W) (I W) (I W) (I W) (kx P)),(@λk s x hk a4 a5 hl K a6 D I P=>by
     have Q:Below _ _ x:=D;refine Di (I W) (P _ _ (ai (dO _ x) _) nn1 ⟨x.heap.size,W,?_,?_⟩)
     .rw[m.aa];exact d9 x Q
     exact S.trans ((Q.mono S.size).trans ((ai (dO _ x) _).mono (By S.size Q.size)))),(@λk s x hk a4 a5 hl K a6 D I P=>nY _ 20 W (P _ x (dO _ _) nn1 (hl _ _ W))),AF⟩
    (λ_ _ _ _ _ _ _ _ _ h=>absurd h (Nat.not_lt_zero _)) (λi d T' he p v x x' D u hT=>by
     have hm:=Xe he;simp only[IF,XV,reduceCtorEq,Zb,Za,XI,Xk,En.l.injEq]at hm;rcases hm with⟨-,rfl⟩|⟨-,rfl⟩|⟨-,rfl⟩
     .exact hT
     .obtain⟨j,e,h1,F⟩:=hT;exact⟨j,e,h1.below u,F.trans (u.mono F.size)⟩
     let⟨j,e,h1,F⟩:=hT;exact⟨j,e,h1.below u,F.trans (u.mono F.size)⟩) ?_
  intro gg z hz hT;let⟨j,e,h1,F⟩:=hT 38 _ _ W;simp only[n8,sx9];rw[e];exact hgo _ _ (Jt J f9 d3 f c HF b7 a8 HB F h1 c8 g0 ⟨_,W,W⟩)
 refine jB (λx x'=>bW x x') (λx=>dO _ x) (λ_ x=>bW U x) (λ_ _ _ _=>True) [(0,(pt H)),(1,(iI (J:Int))),(5,(pt b2)),(6,(pt b3)),(12,(iI (q1:Int))),(13,(iI (q2:Int))),(16,(iI (gv:Int))),(18,(pt xb)),(19,(iI (pi:Int)))] [(some 108,.v (pt xb)),(some 109,.v (sL g9 N9 d1)),(some 110,.v (iI (pi:Int))),(some 111,.v (pq g9 (pi*9))),(some 112,.v (pq g9 (pi*9+8))),(some 113,.v (.string cd)),(some 114,.v (pt H)),(some 115,.v (pt H)),(some 116,.v (pq H 22)),(some 117,.v C),(some 118,.v (iI (q1:Int))),(some 119,.v (iI (q1:Int))),(some 120,.v (iI (q2:Int))),(some 121,.v (iI ((q1+q2:Nat):Int))),(some 122,.l (λ_ v _=>PartOf C v q1 q2)),(some 123,.v (.string N)),(some 124,.v (wv Z)),(some 125,.v (pt H)),(some 126,.v (pt H)),(some 127,.v (pq H 4)),(some 128,.v (wv sf)),(some 129,.v (wv v)),(some 130,.v (iI (gv:Int))),(some 131,.v (pt H)),(some 132,.v (pt H)),(some 133,.v (pq H 17)),(some 134,.v (iI (dp:Int))),(some 135,.v (iI ((dp+1:Nat):Int))),(some 136,.v (pt H)),(some 137,.v (pt H)),(some 138,.v (pq H 20)),(some 139,.v (.bool true)),(some 140,.v (.bool true)),(some 141,.v undef),(some 142,.v undef),(some 143,.v (.bool true)),(some 144,.v (.agg #[pt xb,.string cd,.string N,.string ⟨#[]⟩,lu Z 0,lu Z 1,lu Z 2,lu Z 3,lu sf 0,lu sf 1,lu sf 2,lu sf 3,lu v 0,lu v 1,lu v 2,lu v 3,iI (gv:Int),iI ((dp+1:Nat):Int),iI 0,iI 0,.bool true,.slice none 0 0,.slice none 0 0,.string ⟨#[]⟩])),(some 145,.l (λ_ u0 x=>∃j,u0=pt j/\DQ y.heap.size j xb G0 (L++(bx b3 v::bx b2 Z::bx b1 gs::l)) x/\bW y x)),(some 20,.l (λ_ u0 x=>∃j,u0=pt j/\DQ y.heap.size j xb G0 (L++(bx b3 v::bx b2 Z::bx b1 gs::l)) x/\bW y x))] [] [1,3,5,9,13,14,15,16,20,21,26,27,31,36,37,38] [33,34] (by intro i hi;simp at hi;rcases hi with rfl|rfl<;>exact⟨_,W⟩) (by simp) ((dO _ _).drew) (λk x x' h u=>h.trans (u.mono h.size))
   True.intro
   ⟨(λ_ D I P=>dm (I W) (ff D j0) (kx P)),(λ_ D I P=>by
    have Q:Below _ _ _:=D;exact mA (I W) (I W) f4 (kx P)),(λ_ D I P=>dm (I W) (ff D j8) (kx P)),(λ_ D I P=>by
    have Q:Below _ _ _:=D;exact dm (v:=C) (I W) (ff Q f3) (kx P)),(λ_ _ I P=>BM (I W) (I W) (by omega) (kx P)),(λ_ D I P=>by
    have Q:Below _ _ _:=D;exact zA ((I W).trans T.aa) (I W) (I W) b8 a0.aa.2.1 a0.aa.2.2 a0.aa.1 (λr hr=>P _ _ (dO _ _) nn1 (by rw[T.aa];exact hr))),(@λk s x hk a4 a5 hl K a6 D I P=>by
    have Q:Below _ _ x:=D;have hp:=hl 122 _ W;have hr:=(PartOf.bD hp (dh a9.aa Q) b8).bJ;rw[show(⟨_⟩:BA)=N from d8.aa.symm]at hr;exact Fs W hr (kx P)),(λ_ D I P=>dD (n:=Z) (I W) (ff D t0) (ff D t1) (ff D t2) (ff D t3) (kx P)),(λ_ D I P=>by
    have Q:Below U.heap.size _ _:=D;exact dD (n:=sf) (I W) (ff Q c4) (ff Q c5) (ff Q c6) (ff Q c7) (kx P)),(λ_ D I P=>dD (n:=v) (I W) (ff D g6) (ff D g1) (ff D f2) (ff D g5) (kx P)),(λ_ D I P=>by
    have Q:Below U.heap.size _ _:=D;exact dm (I W) (ff Q e7) (kx P)),(λ_ _ I P=>JD dp 1 (by omega) (by omega) (I W) (kx P)),(λ_ D I P=>by
    have Q:Below U.heap.size _ _:=D;exact dm (I W) (ff Q f1) (kx P)),(λ_ _ I P=>xr (I W) (I W) (I W) (I W) (I W) (I W) (I W) (I W) (I W) (kx P)),(@λk s x hk a4 a5 hl K a6 D I P=>by
    have Q:Below U.heap.size _ x:=D;refine Di (I W) (P _ _ (ai (dO _ x) _) nn1 ⟨x.heap.size,W,?_,?_⟩)
    .rw[m.aa];exact d9 x Q
    exact S.trans ((Q.mono S.size).trans ((ai (dO _ x) _).mono (By S.size Q.size)))),(@λk s x hk a4 a5 hl K a6 D I P=>nY 145 20 W (P _ x (dO _ _) nn1 (hl _ _ W))),AF⟩
   (λ_ _ _ _ _ _ _ _ _ h=>absurd h (Nat.not_lt_zero _)) (λi d T' he p v x x' D u hT=>by
    have hm:=Xe he;simp only[IF,XV,reduceCtorEq,Zb,Za,XI,Xk,En.l.injEq]at hm;rcases hm with⟨-,rfl⟩|⟨-,rfl⟩|⟨-,rfl⟩
    .exact hT
    .obtain⟨j,e,h1,F⟩:=hT;exact⟨j,e,h1.below u,F.trans (u.mono F.size)⟩
    let⟨j,e,h1,F⟩:=hT;exact⟨j,e,h1.below u,F.trans (u.mono F.size)⟩) ?_
 intro gg z hz hT;let⟨j,e,h1,F⟩:=hT 38 _ _ W;simp only[n8,sx9];rw[e];exact hgo _ _ (Jt J f9 d3 f c HF b7 a8 HB F h1 c8 g0 ⟨_,W,W⟩)

def call_2{z:RS}{v:Nat}(J:Nat)(hrp:Hd (∀G,Pot G (run G)))(F:Hd (pW run R.depth))(X:Hd (GoodR R))(C:Hd (tr=du (dA z) λa R=>du (dA R) λn R=>du (dA R) λr R=>du (dA R) λon R=>du (dJ a n R) λq R=>du (dJ r on R) λo R=>Bu run J gs Z v q o R))(D:Hd (Sx O H Y x (dU 100 R) z (bx b3 v::bx b2 Z::bx b1 gs::l) y)){u e u16 u18 u20:VL}{a:Act}(A:Frm [pt H,iI (J:Int),u2,u3,pt b1,pt b2,pt b3,u7,u8,u9,u10,u11,u12,u13,u,e,u16,u17,u18,u19,u20] 234 a):Code.wp prog (WT 7 (f131.body.getD .skip)) (bodyPost prog f131 (Dp O H Y tr (.tuple #[]) l x)) a y:=by
 apply A.op;clear A;iterate 234 intro
 simp only[po,XN,XG];conv=>arg 2;whnf
 go_wp2_with fail
 refine fE C D ?_;clear C D;intro a u u C D;go_wp2_with fail
 refine fE C D ?_;clear C D;intro n u u C D;go_wp2_with fail
 refine fE C D ?_;clear C D;intro r u u C D;go_wp2_with fail
 refine fE C D ?_;clear C D;intro on u u C D;let⟨h,f,V,m,j⟩:=D.aa.cs 2 _ _ W;let⟨u,e,p32,p33,p3f⟩:=D.aa.cs 3 _ _ W;go_wp2_with fail
 refine qm a n C D ?_;clear C D;intro q1 q2 R25 y25 C D t;clear h f V m j u e p32 p33 p3f;let⟨e,u,p02,p03,p0f⟩:=D.aa.cs 0 _ _ W;let⟨vm,ze,p12,p13,p1f⟩:=D.aa.cs 1 _ _ W;go_wp2_with fail
 refine qm r on C D ?_;clear C D;intro o1 o2 I r C D r;clear e u p02 p03 p0f vm ze p12 p13 p1f;replace D:Hd (Sx _ H Y x _ _ _ _):=⟨D.q.tail.tail.tail.tail,D.b,D.s⟩
 unfold Bu at C;have u:=D.aa.c 19 λ_ _=>W;by_cases K:I.ao=0
 .replace C:=cV (C.trans (At K));have d0:((I.ao:Int) !=0)=false:=by rw[K];rfl
  let⟨N,U⟩:=dP I.ac;have u:N<=1000000:=by rw[U.aa];exact D.q.ac
  have u:=D.aa.c 16 λ_ _=>W;let⟨gv,L⟩:=dP (kB gs I);rw[<-L.aa]at C;rw[<-U.aa]at u;unfold kB at L;rw[<-U.aa]at L;go_wp2;go_quiet (fail);replace D:Hd (Sx O H Y x _ _ _ _):=⟨D.q.below (ea (dO _ _) nq),ea D.b nq,D.s⟩
  let⟨h,f,V,m,j⟩:=D.aa.cs 2 _ _ W;go_wp2_with fail
  refine vK (ij gs 200000 (by decide) _) D ?_;clear D;intro u D;clear h f V m j;let⟨ga,g⟩:=dP (ec gs 200000);rw[<-g.aa]at L⊢;have u:ga<=200000:=by rw[g.aa];unfold ec;split<;>omega
  go_upto_if 86 with fail;go_cut[16] (λk i=>k=iI (gv:Int)/\Hd (Sx O H Y x (dU 100 R) I (bx b3 v::bx b2 Z::bx b1 gs::l) i));case first=>
   by_cases S:ga<N-N/64
   .have d:=dT ((ga:Int)<(N:Int)-(N:Int)/64);have T:gv=ga:=L.aa.trans (At S);go_wp2;go_meet;simp_all
   have d:=dF (ga<(N:Int)-(N:Int)/64);have T:(N:Int)-(N:Int)/64=gv:=by rw[L.aa.trans (iF S)];omega
   go_wp2;go_meet;simp_all
  clear D;obtain⟨rfl,D⟩:=hcut;have T:gv<=N:=by rw[L.aa];split<;>omega
  clear L g u;let⟨c3,z3,e⟩:=D.aa.q.cell (o:=3) (λ_ _=>W);obtain⟨Q,P⟩:∃Q:RS,Hd (Q={I with aI:=⟨#[]⟩}):=⟨_,W⟩
  have u:Hd (DQ _ H Y Q _ (wc.setCell _ (.string ⟨_⟩))/\Below _ x (wc.setCell ⟨H,3,none⟩ (.string ⟨#[]⟩))):=⟨by rw[P.aa];exact D.q.set (o:=3) (λ_ _=>W) W W W D.q.ac,D.b.setCell e _⟩
  rw[<-P.aa]at C;have e:I.depth=Q.depth:=by rw[P.aa]
  rw[e]at C;have e:=(u.1.cell (o:=17) (λ_ _=>W)).1;have p:=cV D.s;clear D;have D:Hd (Sx _ H Y x Q Q _ _):=⟨u.1,u.2,Sm.refl _⟩
  go_upto_if 95 with fail;go_cut[] (λi=>Q.depth≠16/\Hd (Sx O H Y x Q Q (bx b3 v::bx b2 Z::bx b1 gs::l) i));case rest=>
   clear D;let⟨E,D⟩:=hcut;replace C:=cV (C.trans (iF E));have u:Hd (Cb R Q q1 q2 o1 o2 gv):=by
    have e:=p.aa.bT (by omega);have e:=U.aa;have e:=(kI _ R).trans p;have hS:I.ac=Q.ac:=by rw[P.aa]
    exact⟨by rw[P.aa];exact e.w,by rw[P.aa];exact e.depth,E,by omega,by omega,by rw[P.aa];exact By (t.bN (r.ov K)).1 r.mo,t.n7,t.p7,by rw[P.aa];exact(r.bN K).1⟩
   rename_i hgo;refine hgo _ _ ?_;exact call_3 J hrp F X u C D ⟨_,W,W⟩
  by_cases E:Q.depth=16
  .replace C:=cV (C.trans (At E));have u:((Q.depth:Int)==16)=true:=by rw[E];rfl
   go_wp2_with fail
   refine lT (dx 0 (by omega) _) D ?_;clear D;intro r D;go_wp2_with fail
   refine gf (iq 0 D.q) C D λy D=>?_;go_wp2;refine bI W W ⟨W,D.1.tail.tail.tail,D.2⟩
  have u:((Q.depth:Int)==16)=false:=Xb.2 (by omega);go_wp2;go_meet;case rel=>exact⟨E,D⟩
 have d0:((I.ao:Int) !=0)=true:=Zp.2 (by omega);replace D:=D.aa.aZ (cV (C.trans (iF K)));go_wp2;refine bI W W ⟨W,D.1.tail.tail.tail,D.2⟩
def FX(J:Nat)(Q:∀G,Pot G (run G))(I:R.depth<16->∀(b gb k:Nat)(G:RS)(L:hZ)(z:WD),DQ b gb k G L z->GoodR G->G.depth=R.depth+1->cP 71 #[pt gb] z (Dp b gb k (run G) (.tuple #[]) L z))(E:GoodR R)(h:DQ O H Y R l x):cP 131 #[pt H,iI (J:Int)] x (Dp O H Y (RR run J R) (.tuple #[]) l x):=by
 replace I:=cV I;replace Q:=cV Q;replace E:=cV E;refine jG (fK (dU 100 R) λR=>du (dA R) λf R=>du (dA R) λZ R=>du (uS J R) λv R=>fK (vV v R) λR=>du (dA R) λa R=>du (dA R) λn R=>du (dA R) λu R=>du (dA R) λon R=>du (dJ a n R) λq R=>du (dJ u on R) λo R=>Bu run J f Z v q o R) W h λu C D=>?_;go_enter func131,ntmps131;go_wp2_with fail
 refine w_pay0 100 (by omega) C D ?_;intro u u C D;go_wp2_with fail
 refine fE C D ?_;intro f u s C D;go_wp2_with fail
 refine fE C D ?_;intro Z N u C D;go_wp2_with fail
 refine lT (dx 0 (by omega) _) D ?_;intro t D;have j:=cV D.q.hb.1;replace D:=cV (D.box 0);obtain⟨v,y,P⟩:∃v K,Hd (uS J N=(v,K)):=⟨_,_,W⟩
 rw[P.aa,dW]at C;go_upto_if 30 with fail;go_cut[] (λp=>Hd (Sx O H Y x (dU 100 R) y (bx t.heap.size v::bx u.heap.size Z::bx s.heap.size f::l) p));case first=>
  clear C;by_cases g:J=241
  .have d:((J:Int)==241)=true:=by rw[g];rfl
   have C:Hd ((v,y)=du (dA N) λa S=>(a,S)):=by have r:=P.aa;unfold uS at r;rw[At g]at r;exact r.symm
   clear g P;go_wp2_with fail
   refine Vn C D j λe T D=>?_;obtain⟨e,e,s2,e,e,e,e,e,sf⟩:=T;unfold lp at D;clear C;go_wp2;go_meet;omega
  have d:((J:Int)==241)=false:=Xb.2 (by omega);have r:=P.aa;unfold uS at r;rw[iF g]at r;obtain⟨rfl,rfl⟩:=Xi r;go_wp2;go_meet;omega
 have D:=hcut;obtain⟨i,r,r,r,r⟩:=D.aa.cs 0 _ _ W;go_wp2_with fail
 refine vK (je v _) D ?_;intro A D;let⟨r,V⟩:=dP (decide (v%M=0));rw[<-V.aa];obtain⟨X,P⟩:∃K,Hd (K=vV v y):=⟨_,W⟩
 replace C:=P.aa▸C;go_upto_if 36 with fail;go_cut[] (λp=>Hd (Sx O H Y x (dU 100 R) X (bx t.heap.size v::bx u.heap.size Z::bx s.heap.size f::l) p));case first=>
  unfold vV at P;cases r
  .have C:Hd (X=fK _ λR=>QO R):=cV (P.trans (iF (of_decide_eq_false V.symm)));go_wp2_with fail
   refine gR 900 C D ?_;intro m u C D;have F:=D.aa.c 20 λ_ _=>W;let⟨u,U⟩:=dP m.aR;rw[<-U.aa]at F;cases u
   .rw[<-(C.trans (iF (by rw[<-U.aa];decide)))]at D;go_wp2;go_meet;omega
   replace C:Hd (X=fK (fA _) λR=>R):=cV (C.trans (At U.symm));go_wp2_with fail
   refine TX (jh D.q D.q.ac) C D (hM _) ?_;intro u A C D;rw[C.aa.symm]at D;go_wp2;go_meet;omega
  rw[<-(P.trans (At (Xd V.symm)))]at D;go_wp2;go_meet;omega
 have D:=hcut;rename_i hgo;refine hgo _ _ ?_;exact call_2 J Q I E C D ⟨_,W,W⟩
def pth:List Bool->Code->Code
 |[],c=>c
 |b::l,.seq x y=>pth l (bif b then y else x)
 |_::l,.block _ c=>pth l c
 |_::l,.loop c=>pth l c
 |_,c=>c
def Vh(Q:Y6)(a:Act)(y:WD):=Code.wp prog (pth [false,false,false,true,false,true,true,true,true] (f71.body.getD .skip)) Q a y
def ef{n:Int}(h:(a:Int)≠n:=by omega):((a:Int)==n)=false:=Xb.2 h
def KA(a b:Act):=b.tmps.size=167/\b.defers=[]/\b.tmps.toList.take 2=a.tmps.toList.take 2/\b.tmps.toList.drop 156=a.tmps.toList.drop 156
def QD(O H Y:Nat)(tr:RS)(l:hZ)(x:WD)(Q:Y6)(a:Act):=∀(b:Act)(y1:WD),KA a b->Hd (DQ O H Y tr l y1/\Below O x y1)->Q .normal b y1
def Frm.dq{O H Y:Nat}{l:hZ}{x:WD}{h:Tn}{a:Act}(A:Frm h n a)(k:po n λm=>Hd (QD O H Y tr l x Q ⟨(h++m).toArray,[]⟩)->Vh Q ⟨(h++m).toArray,[]⟩ y):QD O H Y tr l x Q a->Vh Q a y:=A.op (P:=λa=>Hd (QD O H Y tr l x Q a)->Vh Q a y) k
theorem reck_R(J:Nat)(C:J<=29)(h:DQ O H Y R l x):cP 121 #[pt H,iI (J:Int)] x (Dp O H Y (Nh J R) (.tuple #[]) l x):=by grind[VJ,Vt,TT,Vi]
def Ru(J:Nat)(E:95<=J/\J<=159)(G:R.ae.size<=70000)(G:R.pc<=100000)(h:DQ O H Y R l x):cP 129 #[pt H,iI (J:Int)] x (Dp O H Y (uI J R) (.tuple #[]) l x):=by
 unfold uI;by_cases D:J<128
 .rw[At D];grind[push_R]
 rw[iF D];by_cases C:J<144
 .rw[At C];grind[dup_R]
 rw[iF C];grind[swap_R]
def info_R(J:Nat)(G:J<63)(D:R.data.size<=70000)(E:R.ae.size<=70000)(P:R.aI.size<=70000)(I:R.w.pu.length<=900000000)(L:30<=J)(h:DQ O H Y R l x):cP 122 #[pt H,iI (J:Int)] x (Dp O H Y (lU J R) (.tuple #[]) l x):=by
 by_cases C:J∈([48,49,51,52,53,54,55,56,57,61,62]:Tl)
 .simp at C;rcases C with rfl|rfl|rfl|rfl|rfl|rfl|rfl|rfl|rfl|rfl|rfl
  .exact NN h
  .exact Mc I h
  .exact O0 h
  .exact LY h
  .exact QM D h
  .exact Pq D h
  .exact LW D h
  .exact Mo E h
  .exact MR E h
  .exact Pn P h
  grind[O8]
 rw[Dr ⟨L,G⟩ C];simp at C;grind[NT]
section
variable {a:Act}
def et{a:Nat}{n:Int}(h:(a:Int)=n):((a:Int)==n)=true:=X1.2 h
def Dc(O H Y:Nat)(T:RS)(l:hZ)(y:WD)(f:FuncId)(vs:Ys):=cP f vs y (Dp O H Y T (.tuple #[]) l y)
theorem SL(E:J=80)(A:Frm [pt H,u1,iI (J:Int),iI (p:Int)] 163 a)(C:Hd (tr=eE run J p R))(D:Hd (Sx O H Y x R R l y))(G:QD O H Y tr l x Q a):Vh Q a y:=by
 revert G;refine A.dq ?_;simp only[po,XN,XG];unfold Vh;intros;rename_i G;conv=>arg 2;whnf
 have U:=ef (a:=J) (n:=0);have L:=W8 (show¬(J:Int)<30 by omega);have P:=W8 (show¬(J:Int)<63 by omega);have I:((J:Int)==80)=true:=by grind
 replace E:=cV E;replace C:Hd (tr=fK _ λR=>(dA R).2):=cV (C.trans (by have E:=E.aa;unfold eE;rw[AQ,AQ,AQ,AV];rfl));go_wp2_with fail
 refine TX (vx 2 (by omega) D.q) C D (kI 2 R) λV X C D=>?_;go_wp2_with fail
 refine gf (pB D.q) C D λZ D=>?_;go_wp2;exact G.aa _ _ ⟨W,W,W,W⟩ D
theorem disp_0(E:J=0)(A:Frm [pt H,u1,iI (J:Int),iI (p:Int)] 163 a)(C:Hd (tr=eE run J p R))(D:Hd (Sx O H Y x R R l y))(G:QD O H Y tr l x Q a):Vh Q a y:=by
 revert G;refine A.dq ?_;simp only[po,XN,XG];unfold Vh;intros;rename_i G;conv=>arg 2;whnf
 have U:((J:Int)==0)=true:=by grind
 replace E:=cV E;let⟨L,I,V⟩:=D.aa.q.cell (o:=19) (λ_ _=>W);replace C:=cV (C.trans (by unfold eE;rw[At E.aa]));have P:Hd (DQ _ H Y tr l (y.setCell ⟨H,19,none⟩ (.int _ 1))/\Below _ x (y.setCell ⟨H,19,none⟩ (iI 1))):=⟨by rw[C.aa];exact D.q.set (λ_ _=>W) W W W D.q.ac,D.b.setCell V _⟩
 go_wp2;exact G.aa _ _ ⟨W,W,W,W⟩ P
theorem dispC(h0:J≠0)(h80:J≠80)(hg:GoodR R)(hp:p<=2000)(hrp:∀G,Pot G (run G))(HRUN:pW run R.depth)(h:DQ O H Y R l y):((1<=J/\J<30)/\Dc O H Y (eE run J p R) l y 121 #[pt H,iI (J:Int)])\/((30<=J/\J<63)/\Dc O H Y (eE run J p R) l y 122 #[pt H,iI (J:Int)])\/((J=81)/\Dc O H Y (eE run J p R) l y 125 #[pt H,iI (J:Int)])\/((J=82)/\Dc O H Y (eE run J p R) l y 125 #[pt H,iI (J:Int)])\/((J=83)/\Dc O H Y (eE run J p R) l y 125 #[pt H,iI (J:Int)])\/((J=84)/\Dc O H Y (eE run J p R) l y 126 #[pt H,iI (J:Int)])\/((J=85)/\Dc O H Y (eE run J p R) l y 126 #[pt H,iI (J:Int)])\/((J=92)/\Dc O H Y (eE run J p R) l y 126 #[pt H,iI (J:Int)])\/((J=93)/\Dc O H Y (eE run J p R) l y 126 #[pt H,iI (J:Int)])\/((86<=J/\J<=91)/\Dc O H Y (eE run J p R) l y 127 #[pt H,iI (J:Int),iI (p:Int)])\/((J=94)/\Dc O H Y (eE run J p R) l y 128 #[pt H,.string ⟨#[]⟩,.bool true,.bool false])\/((95<=J/\J<=159)/\Dc O H Y (eE run J p R) l y 129 #[pt H,iI (J:Int)])\/((160<=J/\J<=164)/\Dc O H Y (eE run J p R) l y 130 #[pt H,iI ((J:Int)-160)])\/((J=241)/\Dc O H Y (eE run J p R) l y 131 #[pt H,iI (J:Int)])\/((J=244)/\Dc O H Y (eE run J p R) l y 131 #[pt H,iI (J:Int)])\/((J=250)/\Dc O H Y (eE run J p R) l y 131 #[pt H,iI (J:Int)])\/((J=243)/\Dc O H Y (eE run J p R) l y 132 #[pt H,iI 1])\/((J=253)/\Dc O H Y (eE run J p R) l y 132 #[pt H,iI 2])\/((63<=J/\J<80)/\Dc O H Y (eE run J p R) l y 133 #[pt H])\/((164<J/\J≠241/\J≠244/\J≠250/\J≠243/\J≠253)/\Dc O H Y (eE run J p R) l y 133 #[pt H]):=by
 have h9:R.w.sl.length<=1000000000:=by have:=hg.sl;omega
 have hc:(1<=J/\J<30)\/(30<=J/\J<63)\/(J=81)\/(J=82)\/(J=83)\/(J=84)\/(J=85)\/(J=92)\/(J=93)\/(86<=J/\J<=91)\/(J=94)\/(95<=J/\J<=159)\/(160<=J/\J<=164)\/(J=241)\/(J=244)\/(J=250)\/(J=243)\/(J=253)\/(63<=J/\J<80)\/(164<J/\J≠241/\J≠244/\J≠250/\J≠243/\J≠253):=by omega
 unfold Dc eE;rcases hc with ho|ho|ho|ho|ho|ho|ho|ho|ho|ho|ho|ho|ho|ho|ho|ho|ho|ho|ho|ho;all_goals repeat first|refine .inl ⟨ho,?_⟩|refine .inr ?_|refine⟨ho,?_⟩
 all_goals repeat rw[AQ]
 all_goals try rw[AV]
 ·grind[reck_R]
 ·exact info_R J (by omega) hg.data (By hg.ae (by decide)) hg.aI (by have:=hg.pu;omega) (by omega) h
 ·grind[Uh]
 ·subst ho;exact jD (.inl rfl) h
 ·subst ho;exact jD (.inr rfl) h
 ·subst ho;exact ja false h9 h
 ·subst ho;exact jn false h9 h
 ·subst ho;exact ja true h9 h
 ·subst ho;exact jn true h9 h
 ·exact ways_R J p ho (by omega) (By hg.ae (by decide)) h
 ·exact sP _ (In _) _ _ h
 ·exact Ru J ho (By hg.ae (by decide)) (By hg.pc (by decide)) h
 ·rw[show J-160=((J-160:Nat):Int) by omega];exact log_R (by omega) (By (X7 _ _) hg.lg) h
 ·exact FX J hrp HRUN hg h
 ·exact FX J hrp HRUN hg h
 ·exact FX J hrp HRUN hg h
 ·exact Qo 1 (by decide) h
 ·exact Qo 2 (by decide) h
 ·exact jh h h.ac
 exact jh h h.ac
def disp(b:J≠0->GoodR R)(c:p<=2000)(D:Hd (∀G,Pot G (run G)))(C:Hd (pW run R.depth))(A:Frm [pt H,u1,iI (J:Int),iI (p:Int)] 163 a)(F:Hd (tr=eE run J p R))(f:Hd (Sx O H Y x R R l y))(z:QD O H Y tr l x Q a):Vh Q a y:=by
 by_cases h:J=0
 .grind[disp_0]
 by_cases I:J=80
 .grind[SL]
 have u:=dispC h I (b h) c D.aa C f.q;clear b c D C h I;revert z;refine A.dq ?_;simp only[po,XN,XG];unfold Vh;intros;rename_i z;conv=>arg 2;whnf
 rcases u with⟨c,u⟩|⟨c,u⟩|⟨c,u⟩|⟨c,u⟩|⟨c,u⟩|⟨c,u⟩|⟨c,u⟩|⟨c,u⟩|⟨c,u⟩|⟨c,u⟩|⟨c,u⟩|⟨c,u⟩|⟨c,u⟩|⟨c,u⟩|⟨c,u⟩|⟨c,u⟩|⟨c,u⟩|⟨c,u⟩|⟨c,u⟩|⟨c,u⟩;all_goals
  first|have b:=ef (a:=J) (n:=0)|have b:=et (a:=J) (n:=0) (by omega)
  first|have g:=ef (a:=J) (n:=80)|have g:=et (a:=J) (n:=80) (by omega)
  first|have j:=ef (a:=J) (n:=84)|have j:=et (a:=J) (n:=84) (by omega)
  first|have T:=ef (a:=J) (n:=85)|have T:=et (a:=J) (n:=85) (by omega)
  first|have N:=ef (a:=J) (n:=92)|have N:=et (a:=J) (n:=92) (by omega)
  first|have S:=ef (a:=J) (n:=93)|have S:=et (a:=J) (n:=93) (by omega)
  first|have t:=ef (a:=J) (n:=94)|have t:=et (a:=J) (n:=94) (by omega)
  first|have X:=ef (a:=J) (n:=241)|have X:=et (a:=J) (n:=241) (by omega)
  first|have U:=ef (a:=J) (n:=244)|have U:=et (a:=J) (n:=244) (by omega)
  first|have L:=ef (a:=J) (n:=250)|have L:=et (a:=J) (n:=250) (by omega)
  first|have d:=ef (a:=J) (n:=243)|have d:=et (a:=J) (n:=243) (by omega)
  first|have Z:=ef (a:=J) (n:=253)|have Z:=et (a:=J) (n:=253) (by omega)
  first|have s:=W8 (show¬(J:Int)<30 by omega)|have s:=OsQ (show(J:Int)<30 by omega)
  first|have b:=W8 (show¬(J:Int)<63 by omega)|have b:=OsQ (show(J:Int)<63 by omega)
  first|have K:=W8 (show¬(J:Int)≥81 by omega)|have K:=OsQ (show(J:Int)≥81 by omega)
  first|have k:=W8 (show¬(J:Int)<=83 by omega)|have k:=OsQ (show(J:Int)<=83 by omega)
  first|have m:=W8 (show¬(J:Int)≥86 by omega)|have m:=OsQ (show(J:Int)≥86 by omega)
  first|have o:=W8 (show¬(J:Int)<=91 by omega)|have o:=OsQ (show(J:Int)<=91 by omega)
  first|have i:=W8 (show¬(J:Int)≥95 by omega)|have i:=OsQ (show(J:Int)≥95 by omega)
  first|have V:=W8 (show¬(J:Int)<=159 by omega)|have V:=OsQ (show(J:Int)<=159 by omega)
  first|have E:=W8 (show¬(J:Int)≥160 by omega)|have E:=OsQ (show(J:Int)≥160 by omega)
  first|have P:=W8 (show¬(J:Int)<=164 by omega)|have P:=OsQ (show(J:Int)<=164 by omega)
  first|obtain⟨b,b⟩:=c|clear c
  go_wp2_with fail
  refine gf u F f λb f=>?_;go_wp2;exact z.aa _ _ ⟨W,W,W,W⟩ f
end
def Pz{S:RS}{a:Act}(C:GoodR S)(Z:J≠0->S.pc<S.ae.size)(V:Hd (∀G,Pot G (run G)))(D:Hd (pW run S.depth))(A:Frm [pt H,u1,iI (J:Int)] 164 a)(E:Hd (tr=eE run J S.pc {S with pc:=S.pc+1}))(U:Hd (Sx O H Y x S S l y))(X:QD O H Y tr l x Q a):Code.wp prog (pth [false,false,false,true,false,true,true] (f71.body.getD .skip)) Q a y:=by
 revert X;refine A.op (P:=λa=>Hd (QD _ H Y tr l x Q a)->Code.wp _ _ Q a y) ?_;simp only[po,XN,XG];intros;rename_i X;conv=>arg 2;whnf
 let⟨p,g⟩:=dP S.pc;let⟨f,j,c⟩:=U.aa.q.cell (o:=18) (λ_ _=>W);rw[<-g.aa]at f Z E;have u:p<=2000:=by rw[g.aa];exact C.pc
 obtain⟨I,L⟩:∃I:RS,Hd (I={S with pc:=p+1}):=⟨_,W⟩
 rw[<-L.aa]at E;have d:Hd (J≠0->GoodR I):=λh=>by rw[L.aa];exact⟨C.ae,C.data,C.aI,C.aa,by have T:=C.ae;grind,C.aS,C.bp,C.pu,C.sl,C.lg⟩
 have z:Hd (Sx _ H Y x I I l _):=⟨by rw[L.aa];exact U.q.set (o:=18) (λ_ _=>W) W W W U.q.ac,U.b.setCell c _,Sm.refl _⟩
 replace D:Hd (pW run I.depth):=by rw[L.aa];omega
 replace C:=cV C;refine wp_seq_k λF hgo=>?_;replace hgo:=cV hgo;go_wp2;refine hgo.aa _ _ ?_;refine wp_seq_k λK hgo=>?_;replace hgo:=cV hgo;go_wp2;refine hgo.aa _ _ ?_;exact disp d.aa u V D ⟨_,W,W⟩ E z λb m k h=>X.aa b m k h
def round1{S:RS}{a:Act}(i:S.ao=0)(U:GoodR S)(X:Hd (∀G,Pot G (run G)))(I:Hd (pW run S.depth))(A:Frm [pt H] 166 a)(L:Hd (tr=eE run (FL S) S.pc {S with pc:=S.pc+1}))(C:Hd (Sx O H Y x S S l y))(d:QD O H Y tr l x Q a):Code.wp prog (pth [false,false,false] (f71.body.getD .skip)) Q a y:=by
 revert d;refine A.op (P:=λa=>Hd (QD _ H Y tr l x Q a)->Code.wp _ _ Q a y) ?_;simp only[po,XN,XG];intros;rename_i d;conv=>arg 2;whnf
 have t:=C.aa.c 19 λ_ _=>W;have u:((S.ao:Int)==0)=true:=by grind
 let⟨J,u⟩:=dP (FL S);rw[<-u.aa]at L;have D:=C.aa.c 18 λ_ _=>W;have c1:=C.aa.c 1 λ_ _=>W;let⟨ae,g⟩:=dP S.ae;let⟨p,m⟩:=dP S.pc;have N:=U.ae;have F:=U.pc;rw[<-g.aa]at c1 N;rw[<-m.aa]at D F;have E:J=if p<ae.size then mS ae p else 0:=by
  rw[u.aa,m.aa,g.aa];unfold FL;rw[<-xU];by_cases u:S.pc<S.ae.size
  .grind
  rw[iF u,xU,If,Ym (by rw[ik];omega)];rfl
 have Z:Hd (J≠0->S.pc<S.ae.size):=λh=>by rw[<-m.aa,<-g.aa];grind
 replace U:=cV U;refine wp_seq_k λr K=>?_;replace K:=cV K;go_wp2;refine K.aa _ _ ?_;refine wp_block ?_;refine wp_seq_k λr o=>?_;replace o:=cV o;go_wp2;refine o.aa _ _ ?_;refine wp_seq_k λr j=>?_;replace j:=cV j;refine wp_seq_k λr f=>?_;replace f:=cV f;have V:Hd (Sx _ H Y x S S l _):=⟨C.q.below (dO _ _).drew,C.b.drew,C.s⟩
 by_cases u:p<ae.size
 .rw[At u]at E;have n:=rW _ p u;replace E:=cV E
  go_big_region
  refine f.aa _ _ ?_;refine wp_cond_true W ?_;have D:=V.aa.c 18 λ_ _=>W;have c1:=V.aa.c 1 λ_ _=>W;rw[<-g.aa]at c1;rw[<-m.aa]at D;replace C:Hd (Sx _ H Y x S S l _):=⟨V.q.below (dO _ _).drew,V.b.drew,V.s⟩
  let⟨z,r⟩:=hJ y.drew;rw[<-r]at D c1 C⊢;clear r
  go_big_region
  refine j.aa _ _ ?_;rw[show wrap64 _=J by rw[E.aa];grind[wrap64,rU]];exact Pz U.aa Z.aa X I ⟨_,W,W⟩ L C λb T k h=>d.aa b T k h
 rw[iF u]at E;replace E:=cV E
 go_big_region
 refine f.aa _ _ ?_;refine wp_cond_false W ?_;have C:=V;go_wp2;refine j.aa _ _ ?_;obtain rfl:J=0:=E.aa;exact Pz U.aa Z.aa X I ⟨_,W,W⟩ L C λb T k h=>d.aa b T k h
def KA.op{a b:Act}{P:Act->Prop}(k:KA a b)(h:po 154 λl=>P ⟨(a.tmps.toList.take 2++(l++a.tmps.toList.drop 156)).toArray,[]⟩):P b:=by let⟨⟨L⟩,d⟩:=b;let⟨C,D,G,k4⟩:=k;have C:L.length=167:=C;obtain rfl:d=[]:=D;have E:=yI _ h ((L.drop 2).take 154) (by grind);grind[k4,List.drop_drop,List.take_append_drop]
structure Rr(O H Y d:Nat)(x:WD)(R:RS)(l:hZ)(gk:Nat)(S:RS)(y:WD):Prop where
 e:lH (iR d) gk S=lH (iR d) (R.ac+1) R
 g:S.ao=0->S.ac<gk
 q:DQ O H Y S l y
 b:Below O x y
 ok:S.ao=0->GoodR S
 aS:S.depth=R.depth
def run_S(U:Hd (∀(b gb m:Nat)(G:RS)(L:hZ)(z:WD),DQ b gb m G L z->GoodR G->G.depth=R.depth+1->cP 71 #[pt gb] z (Dp b gb m (iR d G) (.tuple #[]) L z)))(h:DQ O H Y R l x)(j:GoodR R):cP 71 #[pt H] x (Dp O H Y (iR (d+1) R) (.tuple #[]) l x):=by
 have I:Hd (Rr _ H Y d x R l _ R x):=⟨W,λ_=>YS _,h,dO _ _,λ_=>j,W⟩
 let⟨c,E⟩:=dP (EH (lH (iR d) (R.ac+1) R));rw[show iR (d+1) R=c from E.aa.symm];clear h j;go_enter func71,ntmps71;go_wp2
 go_loopg [2,3] (R.ac+1) (λgk c t3 wr=>∃S,Hd (Rr O H Y d x R l gk S wr))
 case atStart=>grind
 clear I;let⟨S,I⟩:=hrel;have n:=(I.q.cell (o:=19) (λ_ _=>W)).1;by_cases P:S.ao=0;case neg=>
  have c:((S.ao:Int)==0)=false:=Xb.2 (by omega);have c:lH (iR d) (R.ac+1) R=S:=by
   rw[<-I.aa.e];cases gk with
   |zero=>rfl
   |succ k=>exact iF P
  rw[c]at E;unfold EH at E;by_cases Z:S.ao=3
  .have F:((S.ao:Int)==3)=true:=by rw[Z];rfl
   replace E:=cV (E.trans (At Z));let⟨c,i,u⟩:=I.aa.q.cell (o:=16) (λ_ _=>W);have X:=I.aa.q.set (o:=16) (v:=.int _ 0) (R':={S with ac:=0}) (λ_ _=>W) W W W (In _);let⟨t,c,_⟩:=X.cell (o:=23) (λ_ _=>W);have f:=X.set (o:=23) (v:=.string ⟨_⟩) (R':={S with ac:=0,aa:=⟨#[]⟩}) (λ_ _=>W) W W W (In _);rw[<-E.aa]at f;have J:=cV (aIn f ((I.b.setCell (p:=⟨H,16,none⟩) u (iI 0)).setCell (p:=⟨H,23,none⟩) u (.string ⟨#[]⟩)));clear X f I;go_wp2;refine bI W W ⟨W,J.1,J.2⟩
  have F:((S.ao:Int)==3)=false:=Xb.2 (by omega);replace E:=cV (E.trans (iF Z));have J:=cV (aIn I.q I.b);rw[<-E.aa]at J;clear I;go_wp2;refine bI W W ⟨W,J.1,J.2⟩
 cases gk with
 |zero=>have:=I.aa.g P;omega
 |succ gk=>
 have C:=I.aa.ok P;let⟨T,V⟩:=dP (eE (iR d) (FL S) S.pc {S with pc:=S.pc+1});have J:Hd (Sx _ H Y x S S l wr):=⟨I.q,I.b,Sm.refl _⟩
 have K:Hd (∀y,Hd (DQ _ H Y T l y/\Below O x y)->Rr _ H Y d x R l gk T y):=λy A=>by
  have c:=stp_at (sU d) S C.pc C.ae;rw[<-V.aa]at c;have u:lH (iR d) (gk+1) S=lH (iR d) gk T:=by rw[V.aa];exact At P
  have D:=c.1;refine⟨u.symm.trans I.e,λe=>by have u:=(c.2 e).1;have u:=I.aa.g P;omega,A.aa.1,A.aa.2,λe=>⟨?_,?_,D.aI C.aI,D.aa C.aa,(c.2 e).2,?_,D.bp C.bp,?_,?_,?_⟩,D.depth.trans I.aS⟩
  .rw[D.ae];exact C.ae
  .rw[D.data];exact C.data
  .rw[D.depth];exact C.aS
  .exact By D.pu C.pu
  .exact By D.sl C.sl
  exact By D.lg C.lg
 have Q:Hd (pW (iR d) S.depth):=by rw[I.aa.aS];exact λ_=>U
 refine round1 P C (cV (sU d)) Q ⟨_,W,W⟩ V J λb N k h=>?_;apply k.op;simp only[po,List.take_succ_cons,Y3,List.drop_succ_cons,List.drop_zero,XN,XG];intros;have s:=cV (K N h);clear K V J Q C h;go_wp2
 go_roundg gk
 exact⟨T,s⟩;omega
theorem Wq:∀(d:Nat){O H Y:Nat}{R:RS}{l:hZ}{x:WD},DQ O H Y R l x->GoodR R->R.depth+d=17->cP 71 #[pt H] x (Dp O H Y (iR d R) (.tuple #[]) l x)
 |0,_,_,_,R,_,_,_,hg,hd=>by have:=hg.aS;omega
 |d+1,O,H,Y,R,l,x,h,hg,hd=>run_S (cV λb I E G L z D C J=>Wq d D C (by omega)) h hg
def OkR(G:RS):=GoodR G/\1<=(iR 16 G).ao/\(iR 16 G).ao<=3
def zl(Q:RW)(k fr Z B:Nat)(data:BA)(g:Nat):RS:=⟨(mB Q k).ae,data,⟨#[]⟩,Z,fr,B,g,1,0,0,false,[],[],⟨#[]⟩,Q⟩
def LE(pu:List Pur)(sl:List Slt)(R:RS):SnD:=if R.ao=1 then⟨0,R.ac,R.aa,R.w.lg,0,R.w.pu,R.w.sl.filter λs=> !s.br⟩else⟨R.ao-1,R.ac,R.aa,[],0,pu,sl⟩
def tj(pu:List Pur)(sl:List Slt)(fr Z B:Nat)(data:BA)(g:Int):SnD:=
 if data.size<=500/\0<=g/\g<=100000 then
  if (fP fr Z B ⟨pu,sl,[]⟩).1=true then LE pu sl (iR 16 (zl (bc Z (fP fr Z B ⟨pu,sl,[]⟩).2).2 (bc Z (fP fr Z B ⟨pu,sl,[]⟩).2).1 fr Z B data g.toNat))
  else⟨0,0,⟨#[]⟩,[],5,pu,sl⟩
 else⟨0,0,⟨#[]⟩,[],1,pu,sl⟩
def kZ(fr Z B:Nat)(data:BA)(g:Int):Tn:=wl fr++(wl Z++(wl B++[.string data,.int .i64 g]))
abbrev sx1(x:WD)(fr Z B:Nat)(data:BA)(g:Int):WD:=(x.alloc (.cells (kZ fr Z B data g).toArray 43)).alloc zd
def EF(fr Z:Nat)(g:Int)(h:Sep O (iK hb pu sl pv lv::rs) x)(hg:data.size<=500/\0<=g/\g<=100000->(fP fr Z B ⟨pu,sl,[]⟩).1=true->OkR (zl (bc Z (fP fr Z B ⟨pu,sl,[]⟩).2).2 (bc Z (fP fr Z B ⟨pu,sl,[]⟩).2).1 fr Z B data g.toNat))(d8:pu.length<=800000000)(d5:sl.length<=800000000):cP 41 #[pt hb,nz fr Z B data g] x (EK O hb rs (tj pu sl fr Z B data g) x):=by
 let⟨S,c⟩:=dP (tj pu sl fr Z B data g);rw[<-c.aa];by_cases j:data.size<=500/\0<=g/\g<=100000;case neg=>
  have HE:Hd (∀y,bW x y->EK O hb rs S x (.returned (.tuple #[iy 0 0 ⟨#[]⟩ dL,iI 1])) y):=λy hy=>by rw[c.aa];unfold tj;rw[iF j];exact⟨pv,lv,dL,[],W,h.below hy,hy.mono h.s,W,Xy _ _ _ _,λi l t q=>by cases q⟩
  clear h c hg;have u:decide ((500:Int)<(data.size:Int))=true\/(decide ((500:Int)<(data.size:Int))=false/\decide (g<0)=true)\/(decide ((500:Int)<(data.size:Int))=false/\decide (g<0)=false/\decide (100000<g)=true):=by
   by_cases r:data.size<=500
   .by_cases h2:0<=g
    .exact A4 (A4 ⟨W8 (by omega),W8 (by omega),OsQ (by omega)⟩)
    exact A4 (LZ ⟨W8 (by omega),OsQ (by omega)⟩)
   exact LZ (OsQ (by omega))
  clear j d8 d5;unfold nz;have HR:Hd (ResAt (sx1 x fr Z B data g) (x.heap.size+1) 0 0 ⟨#[]⟩ dL):=by show ResAt _ _ _ _ _ _;unfold ResAt;simp[go_sem]
  rcases u with u|⟨u,d2⟩|⟨u,d2,d3⟩;all_goals
   go_enter func41,ntmps41;go_wp2;let⟨⟨q0,q1,q2,r⟩,_⟩:=HR.aa;change bodyPost _ _ _ _ _ (sx1 x fr Z B data g);have HB:bW x (sx1 x fr Z B data g):=ai (ai (dO _ x) _) _;generalize sx1 x fr Z B data g=y at*;exact sp (v:=.tuple #[iy 0 0 ⟨#[]⟩ dL,iI 1]) (by simp[results,results41,go_sem,iy,dL,q0,q1,q2,r]) W (HE.aa y HB)
 obtain⟨m,rfl⟩:∃m:Nat,g=(m:Int):=⟨g.toNat,by omega⟩
 have u:=dF ((500:Int)<(data.size:Int));have d2:=dF ((m:Int)<0);have d3:=dF ((100000:Int)<(m:Int));have u:m<=100000:=by omega
 obtain⟨P,HP⟩:∃P:RW,Hd (P=⟨pu,sl,[]⟩):=⟨_,W⟩
 have I:Hd (S=if (fP fr Z B P).1=true then LE pu sl (iR 16 (zl (bc Z (fP fr Z B P).2).2 (bc Z (fP fr Z B P).2).1 fr Z B data m))else⟨0,0,⟨#[]⟩,[],5,pu,sl⟩):=by show S=_;rw[c.aa,HP.aa];unfold tj;rw[At j];rfl
 have L:Hd ((fP fr Z B P).1=true->OkR (zl (bc Z (fP fr Z B P).2).2 (bc Z (fP fr Z B P).2).1 fr Z B data m)):=by rw[HP.aa];exact hg j
 clear c hg j
 -- the world is copied
 let⟨y1,c⟩:=hJ (sx1 x fr Z B data m);have aA:bW x y1:=by rw[c];exact ai (ai (dO _ x) _) _
 have i0:Hd (DP 0 P ⟨pv,lv,dL,[]⟩ y1):=by have hI:=(h.below aA).hd;rw[HP.aa];exact⟨hI.pu,hI.sl,Xy _ _ _ _,W,λi l t q=>by cases q⟩
 have i3:=cV (yN i0.aa (by rw[HP.aa];exact By d8 (by omega)) (by rw[HP.aa];exact By d5 (by omega)) (by rw[HP.aa];exact In _));have e8:=(h.below aA).hd.row;obtain⟨r0,r1,r2⟩:cL y1 hb 0 pv/\cL y1 hb 1 lv/\cL y1 hb 2 dL:=⟨e8.cell W,e8.cell W,e8.cell W⟩
 have HR:Hd (ResAt y1 (x.heap.size+1) 0 0 ⟨#[]⟩ dL):=by show ResAt _ _ _ _ _ _;rw[c];unfold ResAt;simp[go_sem]
 have HRW:Hd (rowL y1 (x.heap.size+1) 38 [iB 0,iI 0,.string ⟨#[]⟩,dL]/\x.heap.size<=x.heap.size+1):=by refine⟨?_,ZN _⟩;rw[c];have h9:=rowL.al (x.alloc (.cells (kZ fr Z B data m).toArray 43)) [iB 0,iI 0,.string ⟨#[]⟩,dL] 38;rw[show(x.alloc (.cells (kZ fr Z B data m).toArray 43)).heap.size=x.heap.size+1 by simp]at h9;exact h9
 have b8:Hd (rowL y1 x.heap.size 43 (kZ fr Z B data m)):=by rw[c];exact(rowL.al x (kZ fr Z B data m) _).below (ai (dO _ _) _)
 unfold nz;go_enter func41,ntmps41;go_upto_region 3 with fail
 change Code.wp _ _ _ _ (sx1 x fr Z B data m);rw[<-c];have a8:=cV h;have b0:=cV aA;have j0:=cV d8;have hsl2:=cV d5;clear c e8 h d8 d5 aA;have i8:Hd (∀(A:DV)(F:WD),PW y1.heap.size P A F->bW y1 F->(∃a1 n1 c1 a2 n2 c2 a3 n3 c3,A.pv=.slice a1 n1 c1/\A.lv=.slice a2 n2 c2/\A.gv=.slice a3 n3 c3)/\WQ y1.heap.size F.heap.size P [] (F.alloc (.cells #[A.pv,A.lv,A.gv] 146))):=λA F hp c=>by have i5:bW F (F.alloc (.cells #[A.pv,A.lv,A.gv] 146)):=ai (dO _ F) _;have hw:=hp F.heap.size _ (rowL.al F [A.pv,A.lv,A.gv] _) i5 c.size;let⟨a1,c1,e1⟩:=dt hw.pu;let⟨a2,c2,e2⟩:=dt hw.sl;let⟨a3,c3,e3⟩:=dt hw.lg;exact⟨⟨_,_,_,_,_,_,_,_,_,e1,e2,e3⟩,A,hw,λp hp=>(by cases hp),qac,By c.size i5.size⟩
 go_upto_region 4 with(first|(go_at_call 68;refine i3.aa.mono ?_;rintro e F⟨⟨v1,v2,v3,tv⟩,rfl, -,i6,c⟩;obtain⟨⟨a1,n1,c1,a2,n2,c2,a3,n3,c3,rfl,rfl,rfl⟩,HW⟩:=i8.aa _ _ i6 c)|fail);let⟨y3,e7⟩:=hJ (F.alloc (.cells #[.slice a1 n1 c1,.slice a2 n2 c2,.slice a3 n3 c3] 146));have g0:Hd (bW y1 y3):=by rw[e7];exact ai c _
 have g1:Hd (WQ y1.heap.size F.heap.size P [] y3):=by rw[e7];exact HW
 rw[<-e7];let⟨Y,i1⟩:=hJ F.heap.size;rw[<-i1]at g1⊢;clear e7 i1 i6 c HW i8 i3 i0 r0 r1 r2;have i4:Hd (P.pu.length<=900000000):=by rw[HP.aa];exact By j0.aa (by omega)
 have g3:=cV (ML fr Z B g1.aa i4.aa);let⟨ok,HOK⟩:=dP ((fP fr Z B P).1);let⟨c,g9⟩:=dP ((fP fr Z B P).2);rw[<-HOK.aa,<-g9.aa]at g3 I L;have D:=b8.aa.below g0.aa;have m0:=D.cell (i:=0) W;have m1:=D.cell (i:=1) W;have m2:=D.cell (i:=2) W;have m3:=D.cell (i:=3) W;have m4:=D.cell (i:=4) W;have m5:=D.cell (i:=5) W;have m6:=D.cell (i:=6) W;have m7:=D.cell (i:=7) W;have m8:=D.cell (i:=8) W;have m9:=D.cell (i:=9) W;have g8:=D.cell (i:=10) W;have f5:=D.cell (i:=11) W;go_upto_region 5 with(first|(go_at_call 69;refine g3.aa.mono ?_;rintro e y4⟨rfl,a9,j7⟩)|fail);clear m0 m1 m2 m3 m4 m5 m6 m7 m8 m9 g8 f5 D g3 g1;have b1:=cV (g0.aa.trans j7);replace a9:=cV a9;have h3:=cV (HR.aa.below b1.aa);have i2:=HR;clear g0 j7 HR;cases j:ok with
 |false=>
  subst j;let⟨⟨q0,q1,q2,r⟩,f0,f1,f2,f3⟩:=h3.aa;unfold dL at r;have HE:Hd (∀y,bW x y->EK O hb rs S x (.returned (.tuple #[iy 0 0 ⟨#[]⟩ dL,iI 5])) y):=λy hy=>by rw[I.aa,iF (by decide)];exact⟨pv,lv,dL,[],W,a8.aa.below hy,hy.mono a8.aa.s,W,Xy _ _ _ _,λi l t q=>by cases q⟩
  have g5:Hd (bW x (gB y4 (x.heap.size+1) 0 0 ⟨#[]⟩ dL)):=kr (kr (kr (kr (b0.aa.trans (b1.aa.mono b0.aa.size)) (by simp)) (by simp)) (by simp)) (by simp);clear a9 I L;go_wp2;let⟨⟨q0,q1,q2,r⟩,_⟩:=h3.aa.put (st:=0) (gs:=0) (aa:=⟨#[]⟩) (lv:=dL);change bodyPost _ _ _ _ _ (gB y4 (x.heap.size+1) 0 0 ⟨#[]⟩ dL);generalize gB y4 (x.heap.size+1) 0 0 ⟨#[]⟩ dL=y at*;exact sp (v:=.tuple #[iy 0 0 ⟨#[]⟩ dL,iI 5]) (by simp[results,results41,go_sem,iy,dL,q0,q1,q2,r]) W (HE.aa y g5.aa)
 |true=>
  subst j;replace L:=cV (L.aa W);replace I:Hd (S=LE pu sl (iR 16 (zl (bc Z c).2 (bc Z c).1 fr Z B data m))):=I.aa.trans (At W);have e9:c.pu.length<=1000000000:=by rw[g9.aa];have:=(wW fr Z B P).2.1;have:=i4.aa;omega
  have f6:=cV (qE Z a9.aa e9);let⟨Q,HQ⟩:=dP ((bc Z c).2);let⟨k,HK⟩:=dP ((bc Z c).1);have g6:k<Q.pu.length:=by rw[HQ.aa,HK.aa];exact(iG Z c).1
  rw[<-HQ.aa,<-HK.aa]at f6 I L;clear HQ HK g9 e9;have D:=b8.aa.below b1.aa;have m4:=D.cell (i:=4) W;have m5:=D.cell (i:=5) W;have m6:=D.cell (i:=6) W;have m7:=D.cell (i:=7) W;go_upto_region 8 with(first|(go_at_call 70;refine f6.aa.mono ?_;rintro e c⟨rfl,j1,j2⟩)|fail);clear m4 m5 m6 m7 D f6 a9;have g7:=cV (b1.aa.trans j2);clear j2 b1;have D:=b8.aa.below g7.aa;have m0:=D.cell (i:=0) W;have m1:=D.cell (i:=1) W;have m2:=D.cell (i:=2) W;have m3:=D.cell (i:=3) W;have m4:=D.cell (i:=4) W;have m5:=D.cell (i:=5) W;have m6:=D.cell (i:=6) W;have m7:=D.cell (i:=7) W;have m8:=D.cell (i:=8) W;have m9:=D.cell (i:=9) W;have g8:=D.cell (i:=10) W;have f5:=D.cell (i:=11) W;have m12:=D.cell (i:=12) W;have m13:=D.cell (i:=13) W;obtain⟨G,HG⟩:∃G:RS,Hd (G=zl Q k fr Z B data m):=⟨_,W⟩
  let⟨cd,f9⟩:=dP ((mB Q k).ae);have i9:Hd (DQ y1.heap.size c.heap.size Y G [] (c.alloc (.cells #[pt Y,.string cd,.string data,.string ⟨#[]⟩,lu Z 0,lu Z 1,lu Z 2,lu Z 3,lu fr 0,lu fr 1,lu fr 2,lu fr 3,lu B 0,lu B 1,lu B 2,lu B 3,iI (m:Int),iI 1,iI 0,iI 0,.bool false,dL,dL,.string ⟨#[]⟩] 159))):=by rw[f9.aa,HG.aa];exact j1.frame (zl Q k fr Z B data m) W W W (By u (by decide))
  obtain⟨V,hdw, -, -, -⟩:=j1;let⟨ap,cp,e1⟩:=dt hdw.pu;have w0:=rowL.cell (i:=0) hdw.row W;have d7:=hdw.pu;rw[e1]at w0 d7;let⟨NP,d6⟩:=dP Q.pu.length;rw[<-d6.aa]at w0 g6;obtain⟨gp,rfl,hcc⟩:∃gp,ap=some ⟨gp,0,none⟩/\cL c gp (k*9+8) (.string cd):=by
   rcases d7.2 with⟨e2,e3⟩|⟨g',E,cur,e2,_⟩
   .have:=d6.aa;omega
   injection e2 with e2 _ e4;subst e2 e4;have h6:k<Q.pu.length:=by rw[<-d6.aa];exact g6
   refine⟨g',W,Gi (f:=qX) (λa=>W) d7 h6 (by omega) ?_⟩;rw[f9.aa,sd h6];rfl
  have hk9:(0:Int)<=(k:Int):=by omega
  have hk8:(k:Int)<(NP:Int):=by omega
  clear hdw d7 e1 D b8
  go_region_held3 (λJ=>cL J Y 0 (sL gp NP cp)/\cL J gp (k*9+8) (.string cd)/\cL J x.heap.size 0 (lu fr 0)/\cL J x.heap.size 1 (lu fr 1)/\cL J x.heap.size 2 (lu fr 2)/\cL J x.heap.size 3 (lu fr 3)/\cL J x.heap.size 4 (lu Z 0)/\cL J x.heap.size 5 (lu Z 1)/\cL J x.heap.size 6 (lu Z 2)/\cL J x.heap.size 7 (lu Z 3)/\cL J x.heap.size 8 (lu B 0)/\cL J x.heap.size 9 (lu B 1)/\cL J x.heap.size 10 (lu B 2)/\cL J x.heap.size 11 (lu B 3)/\cL J x.heap.size 12 (.string data)/\cL J x.heap.size 13 (iI (m:Int))) (go_keep) (fail)
  clear m0 m1 m2 m3 m4 m5 m6 m7 m8 m9 g8 f5 m12 m13 w0 hcc hk9 hk8 g6 d6 f9;go_upto_region 9 with fail
  let⟨y6,c0⟩:=hJ ((c.alloc (.cells #[pt Y,.string cd,.string data,.string ⟨#[]⟩,lu Z 0,lu Z 1,lu Z 2,lu Z 3,lu fr 0,lu fr 1,lu fr 2,lu fr 3,lu B 0,lu B 1,lu B 2,lu B 3,iI (m:Int),iI 1,iI 0,iI 0,.bool false,dL,dL,.string ⟨#[]⟩] 159)).drew);have f8:Hd (DQ y1.heap.size c.heap.size Y G [] y6):=by rw[c0];exact i9.aa.below (dO _ _).drew
  have h5:Hd (bW y1 y6):=by rw[c0];exact(ai g7.aa _).drew
  let⟨H,bg⟩:=hJ c.heap.size;change Code.wp _ _ _ _ ((c.alloc (.cells #[pt Y,.string cd,.string data,.string ⟨#[]⟩,lu Z 0,lu Z 1,lu Z 2,lu Z 3,lu fr 0,lu fr 1,lu fr 2,lu fr 3,lu B 0,lu B 1,lu B 2,lu B 3,iI (m:Int),iI 1,iI 0,iI 0,.bool false,dL,dL,.string ⟨#[]⟩] 159)).drew);rw[<-c0,<-bg];rw[<-bg]at f8;rw[<-HG.aa]at I L;have f4:=cV (Wq 16 f8.aa L.aa.1 (by rw[HG.aa];rfl));let⟨R,c⟩:=dP (iR 16 G);have hv:=L.aa.2;rw[<-c.aa]at f4 I hv;have j3:Hd (R.w.sl.length<=1000000000):=by have h9:=(sU 16 G).sl;rw[<-c.aa]at h9;have h8:=L.aa.1.sl;show R.w.sl.length<=_;omega
  clear c0 bg i9 g7 f8 HG c;go_upto_region 10 with(first|(go_at_call 71;refine f4.aa.mono ?_;rintro e y7⟨rfl,c,j6⟩)|fail);have g4:=cV (h5.aa.trans j6);replace c:=cV c;clear j6 h5 f4;have h4:=(c.aa.cell (o:=16) λ_ _=>W).1;have j5:=(c.aa.cell (o:=23) λ_ _=>W).1;let⟨gs,e0⟩:=dP R.ac;let⟨K,d4⟩:=dP R.aa;rw[<-e0.aa]at h4;rw[<-d4.aa]at j5
  go_region_held3 (λJ=>cL J H 16 (iI (gs:Int))/\cL J H 23 (.string K)) (go_keep) (fail)
  go_upto_region 11 with fail
  let⟨d,b7⟩:=hJ ((y7.alloc (.cells #[iB 0,iI (gs:Int),.string K,.slice none 0 0] 38)).drew);let⟨U,c8⟩:=hJ y7.heap.size;have f7:Hd (DQ y1.heap.size H Y R [] d):=by rw[b7];exact c.aa.below (ai (dO _ _) _).drew
  have d9:Hd (bW y1 d):=by rw[b7];exact(ai g4.aa _).drew
  have z:Hd (rowL d U 38 [iB 0,iI (gs:Int),.string K,.slice none 0 0]):=by rw[b7,c8];exact(rowL.al y7 [iB 0,iI (gs:Int),.string K,.slice none 0 0] _).below (dO _ _).drew
  have c9:Hd (y1.heap.size<=U):=by rw[c8];exact g4.aa.size
  rw[<-b7,<-c8];clear b7 c8 c g4 h4 j5;have j9:Hd (ResAt d (x.heap.size+1) 0 0 ⟨#[]⟩ dL):=i2.aa.below d9.aa;have c19:=(f7.aa.cell (o:=19) λ_ _=>W).1;have c:=z.aa.cell (i:=0) W;have c:=z.aa.cell (i:=1) W;have c:=z.aa.cell (i:=2) W;have t3:=z.aa.cell (i:=3) W;have c:=World.rowIs.frozen z.aa;by_cases c:R.ao=1;case neg=>
   have HE:Hd (∀y,bW x y->EK O hb rs S x (.returned (.tuple #[iy (R.ao-1) gs K dL,iI 0])) y):=λy hy=>by rw[I.aa];unfold LE;rw[iF c,e0.aa,d4.aa];exact⟨pv,lv,dL,[],W,a8.aa.below hy,hy.mono a8.aa.s,W,Xy _ _ _ _,λi l t q=>by cases q⟩
   have i7:=b0.aa.size;obtain⟨st,j8,hst⟩:∃st,Hd (st+1=R.ao)/\(st=1\/st=2):=⟨R.ao-1,by show _-1+1=_;omega,by omega⟩
   have g5:Hd (bW x (gB (d.setCell ⟨U,0,none⟩ (iB (st:Int))) (x.heap.size+1) st gs K dL)):=kr (kr (kr (kr (kr (b0.aa.trans (d9.aa.mono i7)) (By i7 c9.aa)) (by simp)) (by simp)) (by simp)) (by simp);have b9:U≠x.heap.size+1:=by have h9:=c9.aa;have h8:=mZ (x:=y1) i2.aa.1.1;omega
   have HRX:Hd (ResAt (gB (d.setCell ⟨U,0,none⟩ (iB (st:Int))) (x.heap.size+1) st gs K dL) (x.heap.size+1) st gs K dL):=(j9.aa.kb ((Kb.refl [U] d).setCell (p:=⟨U,0,none⟩) (LZ Xz) _) (by simpa using b9.symm)).put;let⟨⟨q0,q1,q2,r⟩,f0,f1,f2,f3⟩:=j9.aa;unfold dL at r;rw[<-j8.aa]at c19 HE;have d0:(((st+1:Nat):Int)==1)=false:=Xb.2 (by omega);clear I f7 e0 d4 c hv j8;rcases hst with rfl|rfl;all_goals
    go_wp2;let⟨⟨q0,q1,q2,r⟩,_⟩:=HRX.aa;first
     |(change bodyPost _ _ _ _ _ (gB (d.setCell ⟨U,0,none⟩ (iB ((1:Nat):Int))) (x.heap.size+1) 1 gs K dL);generalize gB (d.setCell ⟨U,0,none⟩ (iB ((1:Nat):Int))) (x.heap.size+1) 1 gs K dL=y at*)
     |(change bodyPost _ _ _ _ _ (gB (d.setCell ⟨U,0,none⟩ (iB ((2:Nat):Int))) (x.heap.size+1) 2 gs K dL);generalize gB (d.setCell ⟨U,0,none⟩ (iB ((2:Nat):Int))) (x.heap.size+1) 2 gs K dL=y at*)
    refine sp (v:=.tuple #[iy _ gs K dL,iI 0]) (by simp[results,results41,go_sem,iy,dL,q0,q1,q2,r]) W (HE.aa y g5.aa)
  have d0:((R.ao:Int)==1)=true:=by rw[c];rfl
  obtain⟨X,C,V,r, -, -⟩:=f7.aa;have hdw:=r.wa;let⟨a4,p4,e4⟩:=dt hdw.lg;obtain⟨a5,r,r⟩:=dt hdw.sl;obtain⟨r,r,r⟩:=dt hdw.pu;have w2:=rowL.cell (i:=2) hdw.row W;have wf:=World.rowIs.frozen hdw.row;rw[e4]at w2;let⟨n4,r⟩:=dP R.w.lg.length;rw[<-r.aa]at w2;have j4:Y≠U:=λe=>absurd ((Ty.aB hdw.row).aF (e▸Ty.aB z.aa)) (by decide);go_upto_region 15 with fail
  go_cut[] (λwx=>wx=(d.setCell ⟨U,3,none⟩ (.slice a4 n4 p4)).setCell ⟨Y,2,none⟩ (.slice none 0 0));case first=>go_wp2;go_meet;case rel=>rfl
  rename_i hgo;refine hgo _ _ ?_;have e4':V.gv=.slice a4 n4 p4:=by rw[e4,r.aa]
  have r:Kb [U,Y] d wc:=by rw[hcut];exact((Kb.refl [U,Y] d).setCell (p:=⟨U,3,none⟩) AI _).setCell (p:=⟨Y,2,none⟩) AI _
  have hty:∀k∈[U,Y],∀T,Ty d k T->T=38\/T=146:=λk u T hT=>by
   simp only[IF,Xk,XI]at u;rcases u with rfl|rfl
   .exact LZ (hT.aF (Ty.aB z.aa))
   exact A4 (hT.aF (Ty.aB hdw.row))
  have N:∀{b e s n:Nat}{v:VL}{xs:Tn},e≠38/\e≠146->d.ownsRow b e s v n xs->wc.ownsRow b e s v n xs:=λb9 c=>r.aD c λk hb u=>(hty k u _ (Ty.az c hb)).elim b9.1 b9.2;have HI:Hd (SdI y1.heap.size Y U gs K V R.w dL [] y1 wc):=by
   refine⟨?_,?_,N (by decide) hdw.pu,N (by decide) hdw.sl,⟨hdw.tl,fO (N (by decide) hdw.lg) (In _),λi l t q ht=>N (by decide) (hdw.tp i l t q ht)⟩,Xy _ _ _ _,λk r=>(by cases r),d9.aa.trans (r.bel (λk u=>?_) d9.aa.size),hdw.hb,c9.aa,DO _⟩
   .rw[hcut];have h9:rowL (d.setCell ⟨U,3,none⟩ (.slice a4 n4 p4)) Y 146 [V.pv,V.lv,V.gv]:=hdw.row.bH j4 _;exact(rowL.set (o:=2) h9 dL:)
   .rw[hcut,e4'];exact(rowL.bH (rowL.set (o:=3) z.aa (.slice a4 n4 p4)) j4.symm _:)
   simp only[IF,Xk,XI]at u;rcases u with rfl|rfl
   .exact c9.aa
   exact hdw.hb
  have q:Hd (S=⟨0,gs,K,R.w.lg,0,R.w.pu,R.w.sl.filter λs=> !s.br⟩):=by show S=_;rw[I.aa];unfold LE;rw[At c,e0.aa,d4.aa]
  exact KO q HI a8 b0 W HRW (j3.aa) ⟨_,W,W⟩
def WJ(T:TS):=∀e∈T.ay,e.aM.length<=4
def Nb(wk:Wk)(aS:Nat):=∀G T v fr Z,RunF G->aS<G.depth->G.ac<=100000->GoodT T->T.ch.length+T.ay.length+2+G.ac<=1000000->WJ T->WJ (wk G T v fr Z).2
def VM{X:Nat}(Q:Nb wk X)(Y:X<=F.depth)(U:F.ac<=100000)(Y:GoodT T)(d:T.ch.length+T.ay.length+F.ac<=1000000)(E:WJ T)(h:mh wk F T=some (F',T')):WJ T':=by
 rcases SW h with rfl|⟨_,⟨d,c,H,I,rfl⟩|⟨L,rfl,H⟩⟩|⟨C,Z,v,data,G,H,I,O,J,V,rfl⟩
 .exact E
 .intro e D;rw[(tq T _ _ _ _).2]at D;exact E e D
 .intro e D;rcases Xr.1 D with D|D
  .exact E e D
  grind
 have R:=qg G C;exact Q _ T v _ Z (uw O J Y) (by show X<G.depth+1;rw[H.depth];omega) (by show eA G C<=_;omega) Y (by show T.ch.length+T.ay.length+2+eA G C<=_;omega) E
theorem Ia{wk:Wk}{A O:Nat}(hA:2<=A)(D:ET wk A O)(H:Nb wk O):∀(n:Nat)(F:Fz)(T:TS),RunF F->O<=F.depth->F.ac<=100000->GoodT T->T.ch.length+T.ay.length+F.ac<=1000000->WJ T->WJ (fw wk n F T).2
 |0,F,T,_,_,_,_,_,hS=>hS
 |n+1,F,T,hr,hd,hg,hT,hb,hS=>by
  rw[fw];by_cases J:F.aG=true
  .grind
  rw[iF J];let⟨L,s2⟩:=uY hA D hr hd hg hT hb;cases O:mh wk F T with
  |none=>exact hS
  |some y=>
   let⟨F',T'⟩:=y;have h:=s2 F' T' O;have E:=VM H hd hg hT hb hS O;dsimp only;have G:=h.cf;have C:=h.fx;have I:=h.ac;by_cases e:F'.aG=true
   .cases n with
    |zero=>exact E
    |succ n=>grind[fw]
   exact Ia hA D H n F' T' ⟨by rw[C.ae];exact hr.cs,by rw[C.data];exact hr.ds,h.rs,by rw[C.depth];exact hr.dp,h.nx (show F'.aG=false by grind),h.pc,h.os,h.st⟩ (by rw[C.depth];exact hd) (by omega) (hT.ext h.ext h.aO) (by omega) E
theorem Pa:∀d,d<=16->Nb (dc d) (16-d)
 |0,_=>λG T v fr Z O Q=>by have:=O.dp;omega
 |d+1,h16=>λG T v fr Z O Q D Q U I=>by
  let⟨H,E,L,J⟩:=sN Q.aO v fr Z;have h:=Ia (by omega) (BI d (by omega)) (Pa d (by omega)) (G.ac+2) G _ O (by omega) D (Q.ext H E) (by grind) (λe C=>by rw[J]at C;exact I e C);show WJ (lD T (fw (dc d) (G.ac+2) G (fU T v fr Z)).2 (sT (fw (dc d) (G.ac+2) G (fU T v fr Z)).1));unfold lD;split
  .exact h
  intro e C;exact h e (YY C)
def Ve(E:GoodT (T0 A))(G:data.size<=500)(D:g<=100000):WJ (jZ (T0 A) fr Z B data g).2:=Pa 16 (DO _) (rY (A Z).ae fr Z B data g) (T0 A) B fr Z ⟨E.cs Z,(by show data.size<=65536;omega),In _,(by show 1<=16;omega),In _,In _,In _,In _⟩ (by show 16-16<1;omega) D E (by show 0+0+2+g<=_;omega) (λe C=>by cases C)
def zN(h:a%M=b%M)(P:RW):(ks a P).mo=(ks b P).mo/\(ks a P).ae=(ks b P).ae:=by unfold ks;rw[funext λp=>xP h];cases P.pu.find? λp=>gN p.aj b<;>exact⟨W,W⟩
def CZ(J:RelW (T0 A) P)(E:Cd P):GoodT (T0 A):=by
 refine⟨λm C e=>?_,λa=>?_,λc D=>by cases D⟩
 .have H:(A m).ai=(A C).ai:=(J.ai m).trans ((zN e P).1.trans (J.ai C).symm);have G:(A m).ae=(A C).ae:=(J.ae m).trans ((zN e P).2.trans (J.ae C).symm);have I:(A m).ar=(A C).ar:=funext λk=>(J.aK m k).trans ((show fu _ m k P=fu _ C k P by grind[fu,tw]).trans (J.aK C k).symm);show A m=A C;generalize A m=p at*;generalize A C=q at*;cases p;simp_all
 rw[J.ae a];unfold ks;cases J:P.pu.find? λp=>gN p.aj a with
 |none=>exact In _
 |some p=>exact E.1 p (Zt J)
structure SnL where
 st:Nat
 ac:Nat
 aa:BA
 lg:List LogE
 er:Int
 aw:Nat->Acc
def kH(A:Nat->Acc)(fr Z B:Nat)(data:BA)(g:Int):SnL:=
 if data.size<=500/\0<=g/\g<=100000 then
  if decide (gP (A fr).ai B<0)=true then⟨0,0,⟨#[]⟩,[],5,A⟩
  else⟨(jZ (T0 A) fr Z B data g.toNat).1.st,(jZ (T0 A) fr Z B data g.toNat).1.ac,(jZ (T0 A) fr Z B data g.toNat).1.aa,(jZ (T0 A) fr Z B data g.toNat).2.ay,0,(jZ (T0 A) fr Z B data g.toNat).2.aw⟩
 else⟨0,0,⟨#[]⟩,[],1,A⟩
structure Alike(R:SnL)(pu:List Pur)(sl:List Slt)(S:SnD):Prop where
 st:R.st=S.st
 ac:R.ac=S.ac
 aa:R.aa=S.aa
 lg:R.lg=S.lg
 er:R.er=S.er
 ll:R.lg.length<=100000
 tp:∀e∈R.lg,e.aM.length<=4
 rel:RelW (T0 R.aw) ⟨S.pu,S.sl,[]⟩
 cd:Cd ⟨S.pu,S.sl,[]⟩
 lpu:S.pu.length<=pu.length+2003
 lsl:S.sl.length<=sl.length+1000
 lct:gF ⟨S.pu,S.sl,[]⟩<=gF ⟨pu,sl,[]⟩+501
def QY(a b:Nat):decide (gP a b<0)=iX a b:=by grind[xm,gP,OsQ,W8]
def Le(l:List LogE):gF ⟨pu,sl.filter λs=> !s.br,[]⟩=gF ⟨pu,sl,l⟩:=by unfold gF;grind[List.countP_filter]
def NU(fr Z B:Nat)(data:BA)(g:Int)(l:RelW (T0 A) ⟨pu,sl,[]⟩)(R:Cd ⟨pu,sl,[]⟩)(n:pu.length<=800000000)(i:sl.length<=800000000):(data.size<=500/\0<=g/\g<=100000->(fP fr Z B ⟨pu,sl,[]⟩).1=true->OkR (zl (bc Z (fP fr Z B ⟨pu,sl,[]⟩).2).2 (bc Z (fP fr Z B ⟨pu,sl,[]⟩).2).1 fr Z B data g.toNat))/\Alike (kH A fr Z B data g) pu sl (tj pu sl fr Z B data g):=by
 have q:=CZ l R;have N:∀e:Int,Alike ⟨0,0,_,[],e,A⟩ pu sl ⟨0,0,⟨#[]⟩,[],e,pu,sl⟩:=λe=>⟨W,W,W,W,W,In _,λe V=>(by cases V),l,R,X7 _ _,X7 _ _,X7 _ _⟩
 by_cases E:data.size<=500/\0<=g/\g<=100000;case neg=>grind[absurd,kH,tj]
 let⟨u,k,r⟩:=E;obtain⟨m,rfl⟩:∃m:Nat,g=m:=⟨g.toNat,by omega⟩
 have o:m<=100000:=by omega
 let⟨X,J⟩:=l.move q.aO fr Z B;let⟨L,c,_,p⟩:=wW fr Z B ⟨pu,sl,[]⟩;have O:decide (gP (A fr).ai B<0)= !(fP fr Z B ⟨pu,sl,[]⟩).1:=by
  rw[QY,X];unfold iX;by_cases h:(A fr).ai%M<B%M
  .rw[OsQ h,W8 (by show¬B%M<=(A fr).ai%M;omega)];rfl
  rw[W8 h,OsQ (by show B%M<=(A fr).ai%M;omega)];rfl
 unfold kH tj;have E:data.size<=500/\0<=(m:Int)/\(m:Int)<=100000:=⟨u,k,r⟩
 rw[At E,At E,O];generalize fP fr Z B ⟨pu,sl,[]⟩=y at*;let⟨ok,C⟩:=y;cases ok with
 |false=>grind
 |true=>
  rw[iF (Bool.noConfusion),At W];dsimp only at L c p J⊢;rw[show(m:Int).toNat=m from W];have I:(mB (bc Z C).2 (bc Z C).1).ae=(A Z).ae:=by rw[mi,<-(J W).ae Z];exact(sN q.aO _ fr Z).1.ae Z
  have r:zl (bc Z C).2 (bc Z C).1 fr Z B data m=eO (rY (A Z).ae fr Z B data m) (bc Z C).2:=by unfold zl;rw[I];rfl
  have v:=O2 q l ((J W).bX Z) u o;have c:=(iG Z C).2;have D:=kK Z C;have Y:=lh Z C;have U:=(mr Z C).bp (L.bp R);rw[r];generalize(bc Z C).2=Q at*;have j:GoodR (eO (rY (A Z).ae fr Z B _ m) Q):=⟨q.cs Z,(by show data.size<=_;omega),In _,In _,In _,(by show 1<=16;omega),U,(by show 50*Q.pu.length+m<=_;have:(⟨pu,sl,[]⟩:RW).pu.length=pu.length:=rfl;omega),(by show 100*Q.sl.length+m<=_;rw[D.1,L.sl];show 100*sl.length+m<=_;omega),(by show Q.lg.length+m<=_;rw[D.2,L.lg];show 0+m<=_;omega)⟩
  have r:=sU 16 (eO (rY (A Z).ae fr Z B data m) Q);have c:50*(iR 16 _).w.pu.length+(iR 16 _).ac<=50*Q.pu.length+m:=r.pu;have p2:100*(iR 16 _).w.sl.length+(iR 16 _).ac<=100*Q.sl.length+m:=r.sl;have K:(iR 16 _).w.lg.length+(iR 16 _).ac<=Q.lg.length+m:=r.lg;have p4:200*gF _+(iR 16 _).ac<=200*gF Q+m:=r.ct;have H:=Qi (d:=15) (G:=eO (rY (A Z).ae fr Z B data m) Q);have f:=Ve (fr:=fr) (Z:=Z) (B:=B) q u o;rw[D.2,L.lg,show(⟨pu,sl,[]⟩:RW).lg.length=0 from W]at K;rw[D.1,L.sl,show(⟨pu,sl,[]⟩:RW).sl.length=sl.length from W]at p2;have c:gF C<=gF _+1:=By p (Nat.add_le_add_left (by split<;>omega) _);rw[Y]at p4;unfold OkR;generalize iR 16 (eO (rY (A Z).ae fr Z B data m) Q)=S at*;generalize jZ (T0 A) fr Z B data m=z at*;let⟨⟨st,gs,aa⟩,T'⟩:=z;unfold LE;rcases v with⟨v,c,q,u,x⟩|⟨v,c,⟨q,u,x⟩|⟨q,u,x,e6⟩⟩
  .refine⟨λ_ _=>⟨j,by omega,by omega⟩,?_⟩;rw[AQ];let⟨t,f2⟩:=H c;obtain rfl:T'=T0 A:=x;exact⟨(by show st=S.ao-1;rw[c];exact v),(by show gs=S.ac;rw[t];exact q),(by show aa=S.aa;rw[f2];exact u),W,W,In _,λe V=>(by cases V),l,R,X7 _ _,X7 _ _,X7 _ _⟩
  .refine⟨λ_ _=>⟨j,by omega,by omega⟩,?_⟩;rw[AQ];obtain rfl:T'=T0 A:=x;exact⟨(by show st=S.ao-1;rw[u];exact q),v,c,W,W,In _,λe V=>(by cases V),l,R,X7 _ _,X7 _ _,X7 _ _⟩
  refine⟨λ_ _=>⟨j,by omega,by omega⟩,?_⟩;rw[At u];refine⟨q,v,c,e6.lg,W,?_,f,e6.clear,(r.bp U).clear,?_,?_,?_⟩
  .show T'.ay.length<=_;rw[e6.lg];omega
  .show S.w.pu.length<=_;omega
  .show(S.w.sl.filter λs=> !s.br).length<=_;have:=List.length_filter_le (λs:Slt=> !s.br) S.w.sl;omega
  show gF ⟨S.w.pu,S.w.sl.filter λs=> !s.br,[]⟩<=_;rw[Le S.w.lg];show gF S.w<=_;omega
end
section
variable {q:List Rs}{L:List LogE}
def MP(O:Nat)(x:WD)(q:List Rs):Rs:=⟨λk=>O<=k/\k<x.heap.size/\∀r∈q,¬r.F k,λy=>x.heap.size<=y.heap.size/\∀k,O<=k->k<x.heap.size->(∀r∈q,¬r.F k)->y.heap[k]?=x.heap[k]?,λh hk=>Xg hk.2.1 h.1,λh hs he=>⟨By h.1 hs,λk h1 h2 h3=>(he k ⟨h1,h2,h3⟩).trans (h.2 k h1 h2 h3)⟩⟩
def Sep.fix(h:Sep O (q++rs) x):Sep O (q++[MP O x q]) x:=by
 let⟨D,_,_⟩:=XW.1 h.p;refine⟨λr G=>?_,XW.2 ⟨D,XO _ _,λr G s I k E C=>?_⟩,h.s⟩
 .rcases Xr.1 G with G|G
  .exact h.i r (Xw _ G)
  rw[BY.1 G];exact⟨⟨DO _,λ_ _ _ _=>W⟩,λk H=>H.1⟩
 rw[BY.1 I]at C;exact C.2.2 r G E
def Sep.cF(h:Sep O (q++rs) x)(C:Sep O (q'++[MP O x q]) y):Sep O (q'++rs) y:=by
 let⟨P,p2,E⟩:=XW.1 h.p;let⟨p4,_,G⟩:=XW.1 C.p;let⟨I,Q⟩:=(C.i _ (Xn _ (YL _))).1;have N:∀r∈rs,∀k,r.F k->O<=k/\k<x.heap.size/\∀s∈q,¬s.F k:=λr U k V=>⟨(h.i r (Xn _ U)).2 k V,r.lt (h.i r (Xn _ U)).1 V,λs X D=>E s X r U k D V⟩
 refine⟨λr U=>?_,XW.2 ⟨p4,p2,λr U s X k J H=>G r U _ (YL _) k J (N s X k H)⟩,C.s⟩;rcases Xr.1 U with U|U
 .exact C.i r (Xw _ U)
 have D:=h.i r (Xn _ U);refine⟨r.fr D.1 I λk V=>?_,D.2⟩;grind
def Sep.add2(h:Sep O rs y)(D:∀r∈q,r.I y)(H:q.Pairwise λr s=>∀k,r.F k->¬s.F k)(C:∀r∈q,∀k,r.F k->O<=k)(G:∀r∈q,∀s∈rs,∀k,r.F k->¬s.F k):Sep O (q++rs) y:=⟨λr E=>(Xr.1 E).elim (λE=>⟨D r E,C r E⟩) (h.i r),XW.2 ⟨H,h.p,G⟩,h.s⟩
def Rt(L:List LogE)(tv:Tn):LT:=(L.zip tv).map λp=>(p.2,p.1.aM.length,fj p.1.aM)
def yl{t:VL×Nat×Tn}(h:(Rt L tv)[i]?=some t):∃l u,L[i]?=some l/\tv[i]?=some u/\t=(u,l.aM.length,fj l.aM):=by grind[Rt]
def VE(h:tv.length=L.length):(Rt L tv).length=L.length:=by grind[Rt]
def tsL_x(h:tv.length=L.length)(i:Nat)(t:VL×Nat×Tn)(E:(Rt L tv)[i]?=some t):(qM L tv)[i*6+4]?=some t.1:=by obtain⟨l,u,D,C,rfl⟩:=yl E;have G:=(Do.1 D).1;rw[P9 h G 4 (by omega)];rw[iN (by omega)]at C;obtain rfl:=hV C;rfl
abbrev Fw(lv:VL)(tv:Tn)(L:List LogE):List Rs:=fp 112 6 lv L.length (qM L tv)::(Rt L tv).map (rh 0)
def IK(h:Sep O rs y)(c:O<=b)(R:Lo y b lv tv L)(a:∀r∈rs,∀k,r.F k->k<b\/∃U cl,y.heap[k]?=some (.map U cl)):Sep O (Fw lv tv L++rs) y:=by
 let⟨K,H,g,Y⟩:=R;have D:∀r∈(Rt L tv).map (rh 0),∃(u:VL)(l:LogE),y.ownsRow b 24 4 u l.aM.length (fj l.aM)/\r=rh 0 (u,l.aM.length,fj l.aM):=λr v=>by obtain⟨t,X,rfl⟩:=Xq.1 v;let⟨i,P⟩:=XM X;obtain⟨l,u,V,J,rfl⟩:=yl P;exact⟨u,l,g i l u V J,W⟩
 have G:∀r∈Fw lv tv L,∀k,r.F k->b<=k/\∃T,Ty y k T:=λr v k e=>by
  rcases IF.1 v with rfl|v
  .exact⟨(H.lt k e).1,_,Ty.az H e⟩
  obtain⟨u,l,E,rfl⟩:=D r v;exact⟨(E.lt k e).1,_,Ty.az E e⟩
 refine h.add2 (λr v=>?_) ?_ (λr v k e=>By c (G r v k e).1) λr v s w k e C=>?_
 .rcases IF.1 v with rfl|v
  .exact fO H (In _)
  obtain⟨u,l,E,rfl⟩:=D r v;exact fO E (In _)
 .refine XT.2 ⟨λr v k e C=>?_,?_⟩
  .obtain⟨u,l,E,rfl⟩:=D r v;exact absurd ((Ty.az H e).aF (Ty.az E C)) (by decide)
  refine YJ.2 (Y7.2 λi j P p I k e C=>?_);let⟨l,u,V,J,o⟩:=yl (iN P);let⟨c,N,S,m,z⟩:=yl (iN p);rw[o]at e;rw[z]at C;let⟨c,q2⟩:=Do.1 J;let⟨Z,d⟩:=Do.1 m;have:=Y7.1 Y i j c Z I k (by rw[q2];exact e);rw[d]at this;exact this C
 let⟨c,T,g2⟩:=G r v k e;rcases a s w k C with Q|⟨U,cl,Q⟩
 .omega
 obtain⟨c,c,f⟩:=g2;rw[f]at Q;cases Q
def Sep.lgs(h:Sep O (Fw lv tv L++rs) y)(G:tv.length=L.length):Low y 0 lv tv L:=by
 refine⟨G,h.hd,λi l t E D=>?_⟩;have C:(Rt L tv)[i]?=some (t,l.aM.length,fj l.aM):=by grind[Rt]
 exact(h.i _ (Xw _ (IN _ (Xq.2 ⟨_,Xe C,W⟩)))).1
end
def J0{O:Nat}{rs:List Rs}{x:WD}(fr Z B:Nat)(data:BA)(g:Int)(h:Sep O (fN gb ab n A sb::rs) x)(hz:Zr x)(hA:GoodT (T0 A))(hn:n+3400010<800000000000):cP 13 #[pt gb,nz fr Z B data g] x λe y=>∃lv tv E H,e=.returned (.tuple #[iy (kH A fr Z B data g).st (kH A fr Z B data g).ac (kH A fr Z B data g).aa lv,iI (kH A fr Z B data g).er])/\E<=n+3400010/\tv.length=(kH A fr Z B data g).lg.length/\Sep O (Fw lv tv (kH A fr Z B data g).lg++fN gb ab E (kH A fr Z B data g).aw H::rs) y/\Below O x y:=by
 have R:HostAt gb ab n A sb x:=⟨h.hd.row,h.hd.aw,hz⟩
 have U:=h.ge (LZ W);have Q:∀y (d:Sep _ _ y),Sep O (Fw dL [] []++fN gb ab n A sb::rs) y:=λy d=>IK d d.s ⟨W,Xy _ _ _ _,λi l t f=>by simp,List.Pairwise.nil⟩ λr c k Y=>LZ (d.lts r c k Y);unfold kH;by_cases C:data.size<=500/\0<=g/\g<=100000
 .rw[At C];obtain⟨m,rfl⟩:∃m:Nat,g=m:=⟨g.toNat,by omega⟩
  refine(NX fr Z m x R C.1 (by omega) hA hn).mono ?_;rintro e y c;unfold WA at c;rw[show(m:Int).toNat=m from W];by_cases f:decide (gP (A fr).ai B<0)=true
  .rw[At f]at c⊢;obtain⟨rfl,D,Y⟩:=c;have d:Sep _ (fN gb ab n A sb::rs) y:=h.kb ⟨D.row,D.aw⟩ Y (λk Y=>LZ (BY.1 Y)) λk Y=>LZ Y;exact⟨_,[],n,sb,W,X7 _ _,W,Q y d,Y.bel (λk Y=>by grind) h.s⟩
  rw[iF f]at c⊢;obtain⟨lv,b,tv,E,H,rfl,D,P,f,I,⟨S2,Y,X⟩,J⟩:=c;have G:∀k∈gb::S2,(fN gb ab n A sb).F k:=λk Y=>(IF.1 Y).imp id (X k);have d:Sep _ (fN gb ab E _ _::rs) y:=h.kb ⟨D.row,D.aw⟩ Y G λk Y=>Y.elim (λe=>LZ (LZ e)) λV=>(J k V).imp A4 id;refine⟨lv,tv,E,_,W,P,I.1,IK d (By h.s f) I λr c k Y=>?_,Y.bel (λk Y=>h.ge (G k Y)) h.s⟩;rcases IF.1 c with rfl|c
  .rcases Y with rfl|Y
   .exact LZ (Xg h.hd.row.lt f)
   exact A4 (D.aw.isMap Y)
  exact LZ (Xg (h.tl.lts r c k Y) f)
 rw[iF C];refine(Re fr Z g C x).mono ?_;rintro e y⟨rfl,f⟩;exact⟨_,[],n,sb,W,X7 _ _,W,Q y (h.below f),f.mono h.s⟩
section
variable {B:Nat}
def DF{mb fr Z B:Nat}{data:BA}{g:Int}{G:Vr}(h:tG s t (pt mb))(C:rowL x mb 43 (kZ fr Z B data g))(E:K (s.put (some d) (nz fr Z B data g)) x):Oper.wp prog ⟨some d,.load 43 (.tmp t),G,pos,af,gd⟩ s x K Q:=by have mm:=C.cs;simp only[oI,kZ,wl,XN,XG,Nat.reduceAdd]at mm;go_simp;exact E
def Am{E:Vr}(C:K (s.put (some d) (pt x.heap.size)) (x.alloc zd)):Oper.wp prog ⟨some d,.alloc 38,E,pos,af,gd⟩ s x K Q:=by go_simp;exact C
def CallK(st gs:Nat)(aa:BA)(er:Int)(D:VL->X4):Kp:=λp v x=>p≠0/\∃ad m c,v=.tuple #[iy st gs aa (.slice ad m c),.int .i64 er]/\(p=1->D (.slice ad m c) x)
def ResK(st gs:Nat)(aa:BA)(D:VL->X4):Kp:=λp v x=>p≠0/\∃ad m c,v=iy st gs aa (.slice ad m c)/\(p=1->D (.slice ad m c) x)
def RowK(Zq9:Nat->X4)(D2:Nat->VL->X4):Kp:=λp v x=>∃b,v=pt b/\(p<=1->Zq9 b x)/\(p=2->∃lv,D2 b lv x)
def PhSn(P0:X4)(D:VL->X4)(D2:Nat->VL->X4):Nat->X4
 |0,x=>P0 x
 |1,x=>∃lv,D lv x
 |_,x=>∃b lv,D2 b lv x
def Po(d:Nat)(Zq9:Nat->X4)(D2:Nat->VL->X4):Nat->Act->WD->X4
 |0,_,x,x'=>∀b,Zq9 b x->Zq9 b x'
 |_,s,_,x'=>∃b lv,s.tmps.getD d undef=pt b/\D2 b lv x'
section
variable {g:Int}{D:VL->X4}
def E9(E:∀x x',P0 x->bW x x'->P0 x')(C:∀H x x',D H x->bW x x'->D H x')(G:∀b H x x',D2 b H x->bW x x'->D2 b H x')(k:Nat)(x x':WD)(h:PhSn P0 D D2 k x)(I:bW x x'):PhSn P0 D D2 k x':=by
 match k,h with
 |0,h=>exact E x x' h I
 |1,⟨H,h⟩=>exact⟨H,C H x x' h I⟩
 |_+2,⟨b,H,h⟩=>exact⟨b,H,G b H x x' h I⟩
def CallK.bel{x:WD}(L:CallK st gs aa er D p v x)(C:∀J x x',D J x->bW x x'->D J x')(J:bW x x'):CallK st gs aa er D p v x':=by let⟨G,I,m,c,E,H⟩:=L;exact⟨G,I,m,c,E,λh=>C _ x x' (H h) J⟩
def ResK.bel{x:WD}(L:ResK st gs aa D p v x)(C:∀J x x',D J x->bW x x'->D J x')(J:bW x x'):ResK st gs aa D p v x':=by let⟨G,I,m,c,E,H⟩:=L;exact⟨G,I,m,c,E,λh=>C _ x x' (H h) J⟩
def RowK.bel{x:WD}(L:RowK Zq9 D2 p v x)(bZ:∀b x x',Zq9 b x->bW x x'->Zq9 b x')(H:∀b I x x',D2 b I x->bW x x'->D2 b I x')(J:bW x x'):RowK Zq9 D2 p v x':=by let⟨b,E,C,G⟩:=L;exact⟨b,E,λh=>bZ b x x' (C h) J,λh=>(G h).imp λI h=>H b I x x' h J⟩
def rP{x:WD}(hne:¬p=0)(I:p<2)(I:CallK st gs aa er D p v x):CallK st gs aa er D (p+1) v x':=by let⟨G,E,m,c,C,H⟩:=I;exact⟨Nat.succ_ne_zero _,E,m,c,C,λh=>absurd h (by omega)⟩
def vz{x:WD}(E:p<2)(C:CallK st gs aa er D p v x):CallK st gs aa er D (p+1) v x':=rP C.1 E C
def Av{x:WD}(I:p<2)(I:ResK st gs aa D p v x):ResK st gs aa D (p+1) v x':=by let⟨G,E,m,c,C,H⟩:=I;exact⟨Nat.succ_ne_zero _,E,m,c,C,λh=>absurd h (by omega)⟩
def zP{s:Act}{x:WD}(I:p<2)(hrel:Po d Zq9 D2 p s x x')(H:RowK Zq9 D2 p (iY s (some d)) x):RowK Zq9 D2 (p+1) (iY s (some d)) x':=by
 let⟨b,E,C,G⟩:=H;match p,I,hrel with
 |0,_,h=>exact⟨b,E,λ_=>h b (C (In _)),λh=>absurd h (by omega)⟩
 |1,_,⟨b',lv,e1,e2⟩=>exact⟨b',e1,λh=>absurd h (by omega),λ_=>⟨lv,e2⟩⟩
def rO{f V:Nat}(hn:(r=1/\f=13/\V=0/\d=0/\e=0)\/(r=2/\f=41/\V=1/\d=9/\e=2)){a:Act}{Q:Y6}(hs:a.tmps.size=66)(q:tG a 0 (pt pb))(a4:tG a 4 (pt mb))(h0:P0 w.drew)(q:∀x x',P0 x->bW x x'->P0 x')(X:∀u x x',D u x->bW x x'->D u x')(bZ:∀b x x',Zq9 b x->bW x x'->Zq9 b x')(n:∀b u x x',D2 b u x->bW x x'->D2 b u x')(hl:∀x,P0 x->cL x pb V (pt U))(Y:∀x,P0 x->rowL x mb 43 (kZ fr Z B data g))(hc:∀x,P0 x->cP f #[pt U,nz fr Z B data g] x λe z=>∃L m c,e=.returned (.tuple #[iy st gs aa (.slice L m c),iI er])/\D (.slice L m c) z/\∀b,Zq9 b x->Zq9 b z)(z0:∀x,P0 x->Zq9 x.heap.size (x.alloc zd))(z1:∀u x,D u x->Zq9 x.heap.size (x.alloc zd))(zr:∀b x,Zq9 b x->ResAt x b 0 0 ⟨#[]⟩ dL)(T:∀b u x,D u x->Zq9 b x->D2 b u (gB x b st gs aa u))(hQ:∀(u1 u2 u3:VL) b u x,D2 b u x->Q .normal (dQ a [(13+d,pt pb),(14+d,pt pb),(15+d,pq pb V),(16+d,pt U),(17+d,nz fr Z B data g),(18+d,u1),(12+d,u2),(19+d,u3),(20+d,iI er),(7+e,pt b),(8+e,iI er)]) x):(ym f18 r).wp prog Q a w:=by
 have hd:0<=d:=In _;have o:0<=e:=In _;rcases hn with⟨rfl,rfl,rfl,rfl,rfl⟩|⟨rfl,rfl,rfl,rfl,rfl⟩;all_goals
  refine jB _ (λx=>dO _ x) _ (Po (7+gD o) Zq9 D2) [(0,pt pb),(4,pt mb)] [(some (13+gD hd),.v (pt pb)),(some (14+gD hd),.v (pt pb)),(some (15+gD hd),.v _),(some (16+gD hd),.v _),(some (17+gD hd),.v _),(some (18+gD hd),.l (CallK st gs _ er D)),(some (12+gD hd),.l (CallK st gs _ er D)),(some (19+gD hd),.l (ResK st gs _ D)),(some (20+gD hd),.v _),(some (7+gD o),.l (RowK Zq9 D2)),(none,.v _),(some (8+gD o),.v (iI er))] [5,10] [3,4,6,7,8,9] [] (ha:=⟨by kernel_rfl,by rw[hs];rfl,by grind,by kernel_rfl⟩) (by simp) (by simp) h0 (E9 q X n)
   ⟨(λC hv H=>by
    refine em @hv (hc _ C) (λv x' h=>?_) (λl x' h=>by grind) (λx' h=>by grind);obtain⟨L,m,c,h1,q,h3⟩:=h;obtain rfl:=ZH h1;exact H _ x' ⟨_,q⟩ h3 nn1 ⟨Nat.one_ne_zero,L,m,c,W,λ_=>q⟩),(@λs x I E K C hv H=>by
    obtain⟨b,j,O,_⟩:=E (7+gD o) _ W;obtain⟨_,L,m,c,R,y⟩:=E (19+gD hd) _ W;have P:=T b _ x (y W) (O (DO _));exact pN j R (zr b x (O (DO _))) (H _ _ ⟨b,_,P⟩ ⟨b,_,j,P⟩ (λ_=>W) W)),AF⟩
   ⟨(@λk s x q J I E K G C hv H=>by
    obtain rfl:k=0:=by have:=G 0 5;omega
    exact dm (hv W) (hl x C) (kx H)),(@λk s x q J I E K G C hv H=>by
    obtain rfl:k=0:=by have:=G 0 5;omega
    exact DF (hv W) (Y x C) (kx H)),(@λk s x q J I E K G C hv H=>gW W (H _ x (dO _ _) nn1 (E (18+gD hd) _ W))),(@λk s x q J I E K G C hv H=>by
    obtain⟨N,L,m,c,R,y⟩:=E (12+gD hd) _ W;exact IJ R (H _ x (dO _ _) nn1 ⟨N,L,m,c,W,y⟩)),(@λk s x q J I E K G C hv H=>by
    obtain⟨N,L,m,c,R,y⟩:=E (12+gD hd) _ W;exact I0 R (kx H)),(@λk s x q J I E K G C hv H=>by
    have S:=G 1 10;refine Am (H _ _ (ai (dO _ x) _) nn1 ⟨_,W,λ_=>?_,λh=>absurd h (by omega)⟩);match k,S,C with
    |0,_,h=>exact z0 x h
    |1,_,⟨u,h⟩=>exact z1 u x h),AF⟩
   (λi d T9 hq p s x x' A hp C hrel q=>by
    rcases zZ ((Do.1 hq).1)with rfl|rfl|rfl|rfl|rfl|rfl|rfl|rfl|rfl|rfl|rfl|rfl;all_goals first
     |(cases hq;done)
     |(obtain⟨rfl,e9⟩:=Xi (hV hq)
       obtain rfl:=Zk e9;first
        |exact rP (λh=>A (by rw[h];rfl)) hp q
        |exact vz hp q
        |exact Av hp q
        |exact zP hp hrel q))
   (λi d T9 hq p v x x' C hb q=>by
    have Y:=Xe hq;simp only[IF,XV,reduceCtorEq,Zb,Za,XI,Xk,En.l.injEq]at Y;rcases Y with⟨-,rfl⟩|⟨-,rfl⟩|⟨-,rfl⟩|⟨-,rfl⟩
    .exact q.bel X hb
    .exact q.bel X hb
    .exact q.bel X hb
    exact q.bel bZ n hb) ?_
  intro F x C q;obtain⟨b,j,_,O⟩:=q 9 _ _ W;obtain⟨u,O⟩:=O W;have P:=hQ (F 5) (F 6) (F 7) b u x O;rwa[<-j]at P
end
end
section
variable {RS:List Rs}
def NoT(T:Nat)(r:Rs):=∀(x:WD)(k:Nat),r.I x->r.F k->¬Ty x k T
theorem JE{T:Nat}(h:T≠e):NoT T (fp e sz v n xs):=λx k C E D=>h (D.aF (Ty.az C E))
def ED:NoT 38 (fN gb ab n A sb):=λx k C H D=>by
 rcases H with rfl|H
 .exact absurd (D.aF (Ty.aB C.row)) (by decide)
 let⟨G,cl,h⟩:=C.aw.isMap H;obtain⟨H,H,E⟩:=D;grind
def Jf:NoT 38 (iK hb pu sl pv lv):=λx k C E D=>by
 rcases E with rfl|E|E
 .exact absurd (D.aF (Ty.aB C.row)) (by decide)
 .exact absurd (D.aF (Ty.az C.pu E)) (by decide)
 exact absurd (D.aF (Ty.az C.sl E)) (by decide)
def Rz{L:List LogE}:∀r∈Fw lv tv L,NoT 38 r:=λr C=>by
 rcases IF.1 C with rfl|C
 .grind[JE]
 obtain⟨t,_,rfl⟩:=Xq.1 C;exact JE (by decide)
def Zrow(O:Nat)(RS:List Rs)(b:Nat)(x:WD):=rowL x b 38 [.int .u8 0,.int .i64 0,.string ⟨#[]⟩,dL]/\O<=b/\∀r∈RS,¬r.F b
section
variable {q:List Rs}
def Zrow.below(h:Zrow O RS b x)(hb:bW x y):Zrow O RS b y:=⟨h.1.below hb,h.2⟩
def Zrow.new(h:Sep O (q++RS) x):Zrow O RS x.heap.size (x.alloc zd):=⟨rowL.al x [iB 0,iI 0,.string ⟨#[]⟩,dL] _,h.s,λr D C=>absurd (h.lts r (Xn _ D) _ C) (Yg _)⟩
def Zrow.bz(h:Zrow O RS b x):ResAt x b 0 0 ⟨#[]⟩ dL:=⟨⟨h.1.cell W,h.1.cell W,h.1.cell W,h.1.cell W⟩,World.rowIs.frozen h.1 0,World.rowIs.frozen h.1 1,World.rowIs.frozen h.1 2,World.rowIs.frozen h.1 3⟩
def Zrow.call(h:Zrow O RS b x)(J:Sep O (q++RS) x)(I:∀r∈q,NoT 38 r)(D:Sep O (q'++[MP O x q]) y):Zrow O RS b y:=by let⟨E,C⟩:=(D.i _ (Xn _ (YL _))).1;refine⟨World.rowIs.of_block h.1 (C b h.2.1 (World.rowIs.lt h.1) λr G H=>?_),h.2⟩;exact I r G x b (J.i r (Xw _ G)).1 H (Ty.aB h.1)
def Zrow.put(h:Zrow O RS b x)(U:Sep O (q++RS) x)(V:∀r∈q,NoT 38 r)(st gs:Nat)(aa:BA)(lv:VL):Sep O (gj b 38 [iB (st:Int),iI (gs:Int),.string aa,lv]::(q++RS)) (gB x b st gs aa lv)/\Below O x (gB x b st gs aa lv):=by
 have H:Sep _ ([gj b 38 _]++(q++RS)) x:=U.add2 (λr Q=>by rw[BY.1 Q];exact h.1) (XO _ _) (λr Q k P=>by rw[BY.1 Q]at P;rw[P];exact h.2.1) λr Q s C k P D=>by
  rw[BY.1 Q]at P;obtain rfl:k=b:=P;rcases Xr.1 C with C|C
  .exact V s C x k (U.i s (Xw _ C)).1 D (Ty.aB h.1)
  exact h.2.2 s C D
 let⟨J,E⟩:=Sep.set H 0 (iB st);let⟨G,b2⟩:=Sep.set J 1 (iI gs);let⟨L,b3⟩:=Sep.set G 2 (.string aa);let⟨I,b4⟩:=Sep.set L 3 lv;exact⟨I,((E.trans b2).trans b3).trans b4⟩
end
abbrev PB(pb gb ab n hb bb:Nat)(A:Nat->Acc)(sb:Vp)(pu:List Pur)(sl:List Slt)(pv lv:VL)(G:Nat->VL×Tn)(rs:List Rs):List Rs:=gj pb 106 [pt gb,pt hb]::fN gb ab n A sb::iK hb pu sl pv lv::eH bb G::rs
def pm3{α:Type}{C rs:List α}{a b c d e:α}:(a::(C++b::c::d::e::rs)).Perm (e::a::(C++b::c::d::rs)):=by rw[show a::(C++b::c::d::e::rs)=(a::C++[b,c,d])++e::rs by simp,show e::a::(C++b::c::d::rs)=e::((a::C++[b,c,d])++rs) by simp];exact X6
def pm4{α:Type}{C rs:List α}{a b c d e f g:α}:(a::b::c::(C++d::e::f::g::rs)).Perm (g::(C++a::b::c::d::e::f::rs)):=by rw[show a::b::c::(C++d::e::f::g::rs)=([a,b,c]++(C++[d,e,f]))++g::rs by simp];refine X6.trans (List.Perm.cons _ ?_);rw[show[a,b,c]++(C++[d,e,f])++rs=[a,b,c]++(C++([d,e,f]++rs)) by simp];exact List.perm_append_comm_assoc _ _ _
def pm7{α:Type}{rs:List α}{k d r h m p:α}:(k::d::r::h::m::p::rs).Perm (r::m::p::h::d::k::rs):=by have e:([p,m,h,r]).Perm [r,m,p,h]:=(X6 (l₁:=[p,m,h])).trans (List.Perm.cons _ (List.Perm.swap _ _ _));exact((List.reverse_perm [k,d,r,h,m,p]).symm.trans (e.append_right _)).append_right rs
def KP{O:Nat}{G:Nat->VL×Tn}{x:WD}(fr Z B:Nat)(data:BA)(g:Int)(h:Sep O (PB pb gb ab n hb bb A sb pu sl pv lv G rs) x)(hz:Zr x)(h0:0<O)(hc:Cd ⟨pu,sl,[]⟩)(hr:RelW (T0 A) ⟨pu,sl,[]⟩)(hn:n<=400000000000)(d3:pu.length<=400000000)(b9:sl.length<=400000000)(h4:∀k,(G k).2.length%4=0)(hG:∀k,(G k).2.length+400000<=4000000000000):cP 18 #[pt pb,nz fr Z B data g,pt bb] x λe y=>e=.returned (.bool true)/\∃w E Y C P J H I m,Sep O (PB pb gb ab E hb bb Y C P J H I w rs) y/\Below O x y/\E<=n+3400010/\RelW (T0 Y) ⟨P,J,[]⟩/\Cd ⟨P,J,[]⟩/\P.length<=pu.length+2003/\J.length<=sl.length+1000/\gF ⟨P,J,[]⟩<=gF ⟨pu,sl,[]⟩+501/\m<=100000/\EG G w λk=>if k=1 then 4 else if k=0 then 4*m else 0:=by
 obtain⟨b7,hal⟩:=NU fr Z B data g hr hc (By d3 (by omega)) (By b9 (by omega));have c0:=cV (CZ hr hc);have d:Hd (∀(n:Nat)(rs:List Rs)(y:WD),n+3400010<800000000000->Sep O (fN gb ab n A sb::rs) y->Zr y->cP 13 #[pt gb,nz fr Z B data g] y λe z=>∃lv tv E C,e=.returned (.tuple #[iy (kH A fr Z B data g).st (kH A fr Z B data g).ac (kH A fr Z B data g).aa lv,iI (kH A fr Z B data g).er])/\E<=n+3400010/\tv.length=(kH A fr Z B data g).lg.length/\Sep O (Fw lv tv (kH A fr Z B data g).lg++fN gb ab E (kH A fr Z B data g).aw C::rs) z/\Below O y z):=λn rs y hn hs hz=>J0 fr Z B data g hs hz c0 hn;have j:Hd (∀(rs:List Rs)(y:WD),Sep O (iK hb pu sl pv lv::rs) y->cP 41 #[pt hb,nz fr Z B data g] y (EK O hb rs (tj pu sl fr Z B data g) y)):=λrs y hs=>EF fr Z g hs b7 (By d3 (by omega)) (By b9 (by omega));generalize kH A fr Z B data g=R at*;generalize tj pu sl fr Z B data g=S at*;obtain⟨st,gs,aa,L,er,Y⟩:=R;obtain⟨st',gs',out',L',er',P,J⟩:=S;obtain⟨e1,e2,e3,e4,e5,ll,tp,rel,cd,e6,e7,e0⟩:=hal;dsimp only at e1 e2 e3 e4 e5 ll tp rel cd e6 e7 e0 d;subst e1 e2 e3 e4 e5;unfold EK at j;dsimp only at j;have d5:=cV (aIn rel (aIn cd (aIn e6 (aIn e7 e0))));have K:=cV ll;have d1:=cV tp;have HZ:=cV hz;have HG4:=cV h4;have HGG:=cV hG;obtain⟨x1,F⟩:=hJ (x.alloc (.cells (kZ fr Z B data g).toArray 43));have a9:Hd (Below O x x1):=by rw[F];exact ai (dO _ x) _ |>.mono h.s
 have a0:Hd (Sep O (fN gb ab n A sb::gj x.heap.size 43 (kZ fr Z B data g)::gj pb 106 [pt gb,pt hb]::iK hb pu sl pv lv::eH bb G::rs) x1):=by rw[F];exact(h.row (kZ fr Z B data g) 43).bG
 obtain⟨mb,b1⟩:=hJ x.heap.size;rw[<-b1]at a0;clear h hz hc hr h4 hG rel cd e6 e7 e0 ll tp b7 c0;unfold nz;go_enter func18,ntmps18;go_upto_region 1 with fail
 change Code.wp _ _ _ _ (x.alloc (.cells (kZ fr Z B data g).toArray 43));rw[<-F,<-b1];clear F b1;refine rO (LZ ⟨W,W,W,W,W⟩) (mb:=mb) (U:=gb) (fr:=fr) (Z:=Z) (B:=B) (data:=data) (g:=g) (st:=st) (gs:=gs) (aa:=aa) (er:=er)
  (P0:=λy=>Sep _ (fN gb ab n A sb::gj mb 43 (kZ fr Z B data g)::gj pb 106 [pt gb,pt hb]::iK hb pu sl pv lv::eH bb G::rs) y/\Below O x1 y)
  (D:=λlw y=>∃tv E C,E<=n+3400010/\tv.length=L.length/\Sep O (Fw lw tv L++fN gb ab E Y C::gj mb 43 (kZ fr Z B data g)::gj pb 106 [pt gb,pt hb]::iK hb pu sl pv lv::eH bb G::rs) y/\Below O x1 y)
  (Zq9:=Zrow O (gj mb 43 (kZ fr Z B data g)::gj pb 106 [pt gb,pt hb]::iK hb pu sl pv lv::eH bb G::rs))
  (D2:=λb lw y=>∃tv E C,E<=n+3400010/\tv.length=L.length/\Sep O (gj b 38 [iB (st:Int),iI gs,.string aa,lw]::(Fw lw tv L++fN gb ab E Y C::gj mb 43 (kZ fr Z B data g)::gj pb 106 [pt gb,pt hb]::iK hb pu sl pv lv::eH bb G::rs)) y/\Below O x1 y)
  rfl W W ⟨a0.drew,(dO _ _).drew⟩ ?_ ?_ ?_ ?_ ?_ ?_ ?_ ?_ ?_ ?_ ?_ ?_
 .exact λy y' h hb=>⟨h.1.below hb,h.2.trans (hb.mono h.1.s)⟩
 .rintro lw y y' ⟨tv,E,C,q1,q2,Q,N⟩ hb;exact⟨tv,E,_,q1,q2,Q.below hb,N.trans (hb.mono Q.s)⟩
 .exact λb y y' h hb=>h.below hb
 .rintro b lw y y' ⟨tv,E,C,q1,q2,Q,N⟩ hb;exact⟨tv,E,_,q1,q2,Q.below hb,N.trans (hb.mono Q.s)⟩
 .exact λy h=>h.1.tl.tl.c 0 W
 .exact λy h=>h.1.tl.hd
 .intro y h;refine(d n _ y (by omega) (Sep.fix (q:=[fN gb ab n A sb]) h.1) (HZ.bq h0 (a9.trans h.2))).mono ?_;rintro e z⟨lw,tv,E,C,rfl,q1,q2,Q,N⟩;obtain⟨f,cp,rfl⟩:=dt Q.hd;have q5:Sep O ((Fw (.slice f L.length cp) tv L++[fN gb ab E Y C])++[MP O y [fN gb ab n A sb]]) z:=by rwa[XL]
  have q6:=Sep.cF (q:=[fN gb ab n A sb]) h.1 q5;rw[XL]at q6;exact⟨f,_,cp,W,⟨tv,E,_,q1,q2,q6,h.2.trans N⟩,λb hz=>hz.call (q:=[fN gb ab n A sb]) h.1 (λr hr=>by rw[BY.1 hr];exact ED) q5⟩
 .exact λy h=>Zrow.new (q:=[fN gb ab n A sb]) h.1
 .rintro lw y ⟨tv,E,C,q1,q2,Q,N⟩;exact Zrow.new (q:=Fw lw tv L++[fN gb ab E Y _]) (by rw[XL];exact Q)
 .exact λb y h=>h.bz
 .rintro b lw y ⟨tv,E,C,q1,q2,Q,N⟩ hz;obtain⟨k1,k2⟩:=hz.put (q:=Fw lw tv L++[fN gb ab E Y _]) (by rw[XL];exact Q) (λr hr=>by
   rcases Xr.1 hr with hr|hr
   .exact Rz r hr
   rw[BY.1 hr];exact ED) st gs aa lw
  rw[XL]at k1;exact⟨tv,E,_,q1,q2,k1,N.trans k2⟩
 rintro u1 u2 u3 b lw y⟨tv,E,C,hn',b0,a6,c9⟩;have b8:=cV (a6.bh (pm3));have c8:=cV (a9.trans c9);obtain⟨f,cp,rfl⟩:∃f cp,lw=.slice f L.length cp:=dt a6.tl.hd;clear a6 c9 a0 a9 d;simp only[n8,sx9];go_upto_region 2 with fail
 refine rO (A4 ⟨W,W,W,W,W⟩) (mb:=mb) (U:=hb) (fr:=fr) (Z:=Z) (B:=B) (data:=data) (g:=g) (st:=st) (gs:=gs) (aa:=aa) (er:=er)
  (P0:=λz=>Sep O (iK hb pu sl pv lv::gj b 38 [iB (st:Int),iI (gs:Int),.string aa,.slice f L.length cp]::(Fw (.slice f L.length cp) tv L++fN gb ab E Y C::gj mb 43 (kZ fr Z B data g)::gj pb 106 [pt gb,pt hb]::eH bb G::rs)) z/\Below _ x z)
  (D:=λgv z=>∃H I V,Sep O (iK hb P J H I::gj b 38 [iB st,iI (gs:Int),.string aa,.slice f L.length cp]::(Fw (.slice f L.length cp) tv L++fN gb ab E Y C::gj mb 43 (kZ fr Z B data g)::gj pb 106 [pt gb,pt hb]::eH bb G::rs)) z/\Low z 0 gv V L/\Below O x z)
  (Zq9:=Zrow O (gj b 38 [iB st,iI (gs:Int),.string aa,.slice f L.length cp]::(Fw (.slice f L.length cp) tv L++fN gb ab E Y C::gj mb 43 (kZ fr Z B data g)::gj pb 106 [pt gb,pt hb]::eH bb G::rs)))
  (D2:=λc gv z=>∃H I V,Sep O (gj c 38 [iB st,iI gs,.string aa,gv]::iK hb P J H I::gj b 38 [iB st,iI gs,.string aa,.slice f L.length cp]::(Fw (.slice f L.length cp) tv L++fN gb ab E Y C::gj mb 43 (kZ fr Z B data g)::gj pb 106 [pt gb,pt hb]::eH bb G::rs)) z/\Low z 0 gv V L/\Below O x z)
  rfl W W ⟨b8.drew,c8.drew⟩ ?_ ?_ ?_ ?_ ?_ ?_ ?_ ?_ ?_ ?_ ?_ ?_
 .exact λy y' h hb=>⟨h.1.below hb,h.2.trans (hb.mono h.1.s)⟩
 .rintro lw y y' ⟨H,I,V,q1,q2,Q⟩ hb;exact⟨_,_,_,q1.below hb,q2.kbt (Kb.h (S:=[]) hb) (by simp),Q.trans (hb.mono q1.s)⟩
 .exact λb y y' h hb=>h.below hb
 .rintro b lw y y' ⟨H,I,V,q1,q2,Q⟩ hb;exact⟨_,_,_,q1.below hb,q2.kbt (Kb.h (S:=[]) hb) (by simp),Q.trans (hb.mono q1.s)⟩
 .intro y h;exact(h.1.tl.tl.ap.tl.tl).c 1 W
 .intro y h;exact(h.1.tl.tl.ap.tl).hd
 .intro y h;refine(j _ y (Sep.fix (q:=[iK hb pu sl pv lv]) h.1)).mono ?_;rintro e z⟨H,I,gv,V,rfl,q1,q2,Q⟩;obtain⟨a2,c2,rfl⟩:=dt Q.2.1;have q5:Sep _ ([iK hb _ _ _ _]++[MP O y [iK hb pu sl pv lv]]) z:=q1;exact⟨a2,_,c2,W,⟨_,_,_,Sep.cF (q:=[iK hb pu sl pv lv]) h.1 q5,Q,h.2.trans q2⟩,λb hz=>hz.call (q:=[iK hb pu sl pv lv]) h.1 (λr hr=>by rw[BY.1 hr];exact Jf) q5⟩
 .exact λy h=>Zrow.new (q:=[iK hb pu sl pv lv]) h.1
 .rintro lw y ⟨H,I,V,q1,q2,Q⟩;exact Zrow.new (q:=[iK hb _ _ _ _]) q1
 .exact λb y h=>h.bz
 .rintro c gv y ⟨H,I,V,q1,q2,Q⟩ hz;obtain⟨k1,k2⟩:=hz.put (q:=[iK hb _ _ _ _]) q1 (λr hr=>by rw[BY.1 hr];exact Jf) st gs aa gv;refine⟨_,_,_,k1,q2.kbt (S:=[c]) (jE (Kb.refl _ y) AI) (λk hk T hT=>?_),Q.trans k2⟩;rw[BY.1 hk]at hT;rw[hT.aF (Ty.aB hz.1)];decide
 rintro v1 v2 v3 c gv z⟨H,I,V,o,p,d0⟩;obtain⟨ad2,cp2,rfl⟩:∃f cp,gv=.slice f L.length cp:=dt p.2.1;have a7:=cV o;have d4:=cV d0;have d7:=o.tl.tl.c 3 W;have k23:=o.c 3 W;have W3:=cV (SO L z (o.tl.tl.tl.lgs b0) p (by have:=K.aa;omega) (λa ha=>by have:=d1.aa a ha;omega));clear o p d0 b8 c8 j;simp only[n8,sx9];go_upto_region 4 with(first|(go_at_call 42;refine W3.aa.mono ?_;rintro e z4⟨rfl,b6⟩)|fail);have a8:=a7.aa.below b6;have d6:=cV (d4.trans (b6.mono a7.s));replace d7:=a8.tl.tl.c 3 W;have W4:=cV (eh (LZ ⟨W,W,W,W,W⟩) (a8.bh (pm4)) (VE b0) (tsL_x b0) (λt ht=>by obtain⟨i,hi⟩:=XM ht;obtain⟨l,u,e1,_,rfl⟩:=yl hi;have:=d1.aa l (Xe e1);show l.aM.length<=_;omega) HG4 (λk=>by have:=HGG.aa k;have:=K.aa;omega) (by have:=K.aa;omega));clear k23 b6 a8 a7 d4 W3;go_upto_region 5 with(first|(go_at_call 43;refine W4.aa.mono ?_;rintro e z5⟨rfl,w,X,d9,d8⟩)|fail);have i0:=X.tl.tl.tl.c 0 W;have i1:=X.tl.tl.tl.c 1 W;have i2:=X.tl.tl.tl.c 2 W;have j0:=X.tl.c 0 W;have j1:=X.tl.c 1 W;have j2:=X.tl.c 2 W;have HE:Hd (∃w E Y C P J H I m,Sep O (PB pb gb ab E hb bb Y C P J H I w rs) z5/\Below O x z5/\E<=n+3400010/\RelW (T0 Y) ⟨P,J,[]⟩/\Cd ⟨P,J,[]⟩/\P.length<=pu.length+2003/\J.length<=sl.length+1000/\gF ⟨P,J,[]⟩<=gF ⟨pu,sl,[]⟩+501/\m<=100000/\EG G w λk=>if k=1 then 4 else if k=0 then 4*m else 0):=by obtain⟨a1,a2,a3,a4,a5⟩:=d5.aa;refine⟨w,E,Y,C,_,_,H,I,L.length,?_,d6.trans d9,hn',a1,a2,a3,a4,a5,K,d8⟩;exact(X.sw.tl.bh (pm7)).tl.tl
 clear X d9 d8 W4 d6 d7;go_wp2;go_ret;exact⟨W,HE⟩
abbrev bY(x:WD)(b o n:Nat):WD:=(((x.setCell ⟨b,o,none⟩ (.int .u64 (cX n 0))).setCell ⟨b,o+1,none⟩ (.int .u64 (cX n 1))).setCell ⟨b,o+2,none⟩ (.int .u64 (cX n 2))).setCell ⟨b,o+3,none⟩ (.int .u64 (cX n 3))
def Sep.bY{T:Nat}(h:Sep O (gj b T cs::rs) x)(o n:Nat):Sep O (gj b T ((((cs.set o (lu n 0)).set (o+1) (lu n 1)).set (o+2) (lu n 2)).set (o+3) (lu n 3))::rs) (bY x b o n)/\Below O x (bY x b o n):=by let⟨G,C⟩:=h.set o (lu n 0);let⟨D,b2⟩:=G.set (o+1) (lu n 1);let⟨H,b3⟩:=D.set (o+2) (lu n 2);let⟨E,b4⟩:=H.set (o+3) (lu n 3);exact⟨E,((C.trans b2).trans b3).trans b4⟩
abbrev noG:Nat->VL×Tn:=λ_=>(dL,[])
def PI(h:rowL x bb 52 [dL,dL,dL,dL]):(eH bb noG).I x:=⟨h,λk D=>Xy _ _ _ _,λk D i v C=>(by cases C),Xy _ _ _ _,λi v k C=>(by cases C)⟩
def Sep.book(h:Sep O rs x):Sep O (eH x.heap.size noG::rs) (x.alloc (.cells #[dL,dL,dL,dL] 52)):=
 h.new (r:=eH x.heap.size noG) (PI (rowL.al x [dL,dL,dL,dL] _)) (ai (dO _ x) _) λk E=>by
  rcases E with rfl|⟨c,D,E|⟨v,C,_⟩⟩|E
  .omega
  .cases E
  .cases C
  cases E
def MD(ae aY:BA):List AcE:=[⟨1,1000,⟨#[]⟩,[]⟩,⟨2,50,ae,[(0,4)]⟩,⟨3,0,aY,[]⟩]
def rH{I:BA}(H:ae.size<=1000)(D:I.size<=1000):jt (MD ae I)=true:=by
 refine(Xo _ _).mpr ⟨W,kS λj C=>?_⟩;have C:j<3:=C;have G:(decide (0<=gP 1 2))=false:=by rfl
 have E:(decide (0<=gP 2 3))=false:=by rfl
 have J:kA [(0,4)]=true:=by rfl
 obtain rfl|rfl|rfl:j=0\/j=1\/j=2:=by omega
 .rfl
 .show((1==0|| !decide (0<=gP 1 2))&&(decide (ae.size<=1000)&&kA [(0,4)]))=true;grind
 show((2==0|| !decide (0<=gP 2 3))&&(decide (I.size<=1000)&&kA []))=true;rw[E,OsQ D];rfl
abbrev slR(r5 r6:Nat):Tn:=wl r5++wl r6
abbrev acR(r1 r2 r3 r4 r7 z sg:Nat)(ae aY:BA):Tn:=jL r1 r2 ⟨#[]⟩ dL++(jL r3 r4 ae (.slice (some ⟨sg,0,none⟩) 1 1)++jL r7 z aY dL)
def TE{E G:Nat}{I:BA}(ha:rowL y E 34 (acR 1 1000 2 50 3 0 G ae I))(J:rowL y G 54 (slR 0 4)):AcIn y (sL E 3 3) (MD ae I):=by
 refine⟨_,_,W,A4 ⟨E,0,W,World.rowIs.lt ha,λi a D=>?_⟩⟩;have I:i<3:=(Do.1 D).1;obtain rfl|rfl|rfl:i=0\/i=1\/i=2:=by omega
 .obtain rfl:=hV D;refine⟨dL,λj C=>?_,⟨_,0,W,LZ W⟩⟩;have C:j=0\/j=1\/j=2\/j=3\/j=4\/j=5\/j=6\/j=7\/j=8\/j=9:=by omega
  rcases C with rfl|rfl|rfl|rfl|rfl|rfl|rfl|rfl|rfl|rfl<;>exact ha.cell W
 .obtain rfl:=hV D;refine⟨.slice _ 1 1,λj C=>?_,⟨_,1,W,A4 ⟨G,0,W,World.rowIs.lt J,λk p I j C=>?_⟩⟩⟩
  .have C:j=0\/j=1\/j=2\/j=3\/j=4\/j=5\/j=6\/j=7\/j=8\/j=9:=by omega
   rcases C with rfl|rfl|rfl|rfl|rfl|rfl|rfl|rfl|rfl|rfl<;>exact ha.cell W
  have H:k<1:=(Do.1 I).1;obtain rfl:k=0:=by omega
  obtain rfl:=hV I;have C:j=0\/j=1\/j=2\/j=3\/j=4\/j=5\/j=6\/j=7:=by omega
  rcases C with rfl|rfl|rfl|rfl|rfl|rfl|rfl|rfl<;>exact J.cell W
 obtain rfl:=hV D;refine⟨dL,λj C=>?_,⟨_,0,W,LZ W⟩⟩;have C:j=0\/j=1\/j=2\/j=3\/j=4\/j=5\/j=6\/j=7\/j=8\/j=9:=by omega
 rcases C with rfl|rfl|rfl|rfl|rfl|rfl|rfl|rfl|rfl|rfl<;>exact ha.cell W
def hg4(k m n:Nat)(h:n=(if k=3 then 4 else if k=2 then 28 else 0)+(if k=1 then 4 else if k=0 then 4*m else 0)):n%4=0:=by grind
def hg6(k:Nat):(0+(if k=3 then 4 else if k=2 then 28 else 0))%4=0/\(if k=3 then 4 else if k=2 then 28 else 0)<=28:=by grind
def hg5(k m:Nat):(if k=3 then 4 else if k=2 then 28 else 0)+(if k=1 then 4 else if k=0 then 4*m else 0)<=32+4*m:=by grind
def OZ(ae u data:BA)(fr Z B:Nat)(g:Int)(w:WD)(hz:Zr w):cP 4 #[.string ae,.string u,nz fr Z B data g] w λe w'=>e=.returned (.bool true)/\Below w.heap.size w w':=by
 let⟨O,C⟩:=hJ w.heap.size;have h0:0<O:=by rw[C];exact hz.2
 let⟨x1,Y⟩:=hJ (w.alloc (.cells (kZ fr Z B data g).toArray 43));have d:Hd (Sep O [gj O 43 (kZ fr Z B data g)] x1):=by
  have q:Sep O [] w:=⟨λr l=>(by cases l),List.Pairwise.nil,(by omega)⟩
  have l:=q.row (kZ fr Z B data g) 43;rwa[<-C,<-Y]at l
 have b7:Hd (Below O w x1):=by rw[Y,C];exact ai (dO _ w) _
 have HZ:=cV hz;clear hz;rw[<-C];unfold nz;go_enter func4,ntmps4;go_upto_if 15 with fail;change Code.wp _ _ _ _ (w.alloc (.cells (kZ fr Z B data g).toArray 43));rw[<-Y,<-C];clear Y C;go_cut[0] from 13 to 17 (λq l=>∃c:BA,c.size<=1000/\q=.string c/\l=x1);case first=>
  by_cases l:1000<ae.size
  .go_wp2;go_meet;grind[ZR]
  go_wp2;go_meet;grind
 case rest=>
 obtain⟨v,T,rfl,rfl⟩:=hcut;go_upto_if 20 with fail;go_cut[1] from 18 to 22 (λq wy=>∃c:BA,c.size<=1000/\q=.string c/\wy=wc);case first=>
  by_cases l:1000<u.size
  .go_wp2;go_meet;grind[ZR]
  go_wp2;go_meet;grind
 case rest=>
 obtain⟨h,i,rfl,rfl⟩:=hcut;go_wp2_with fail
 refine(dx 1 (by decide) _).mono ?_;rintro e q⟨l,H1,rfl,u⟩;have E:=cV (d.below u);have L:=cV (b7.trans (u.mono d.s));have k0:=E.aa.c 0 W;have k1:=E.aa.c 1 W;have k2:=E.aa.c 2 W;have k3:=E.aa.c 3 W;have kf:=E.aa.fz;clear u d b7;unfold wv;go_wp2_with fail
 let⟨I,D⟩:=E.aa.bY 0 l;have P:=cV (L.trans D);rw[show(bY q _ 0 l)=(((q.setCell _ _).setCell ⟨_,1,_⟩ _).setCell ⟨_,2,_⟩ _).setCell ⟨_,3,_⟩ _ from W]at I P;clear k0 k1 k2 k3 kf D E L;generalize(((q.setCell ⟨O,0,none⟩ (lu l 0)).setCell ⟨O,1,none⟩ (lu l 1)).setCell ⟨O,2,none⟩ (lu l 2)).setCell ⟨O,3,none⟩ (lu l 3)=y2 at*;replace I:Hd (Sep _ [gj _ 43 (kZ l Z _ _ g)] y2):=I;refine(dx 2 (by decide) _).mono ?_;rintro e y3⟨q,H2,rfl,D⟩;have H:=cV (I.below D);have b8:=cV (P.trans (D.mono I.s));have k0:=H.aa.c 4 W;have k1:=H.aa.c 5 W;have k2:=H.aa.c 6 W;have k3:=H.aa.c 7 W;have kf:=H.aa.fz;clear D I P;unfold wv;go_wp2_with fail
 let⟨J,c8⟩:=H.aa.bY 4 q;have K:=cV (b8.trans c8);have f:(bY y3 O 4 q).heap.size=y3.heap.size:=by simp
 rw[show(bY y3 _ 4 q)=(((y3.setCell _ _).setCell ⟨_,5,_⟩ _).setCell ⟨_,6,_⟩ _).setCell ⟨_,7,_⟩ _ from W]at J K f;clear k0 k1 k2 k3 kf c8 H b8;generalize(((y3.setCell ⟨O,4,none⟩ (lu q 0)).setCell ⟨O,5,none⟩ (lu q 1)).setCell ⟨O,6,none⟩ (lu q 2)).setCell ⟨O,7,none⟩ (lu q 3)=y4 at*;replace J:Hd (Sep _ [gj _ 43 (kZ l q _ _ g)] y4):=J;have Q:=cV J.book;have a6:=cV (K.trans ((ai (dO _ y4) (.cells #[dL,dL,dL,dL] 52)).mono J.s));rw[f]at Q;let⟨bb,l⟩:=hJ y3.heap.size;rw[<-l]at Q⊢;clear l f J K;generalize y4.alloc (.cells #[dL,dL,dL,dL] 52)=l at*;refine(dx 1 (by decide) _).mono ?_;rintro e l⟨q1,Q1,rfl,q⟩;have S:=cV (Q.below q);have l:=cV (a6.trans (q.mono Q.s));clear q Q a6;unfold wv;go_wp2_with fail
 refine(dx 1000 (by decide) _).mono ?_;rintro e z2⟨q2,Q2,rfl,q⟩;have j:=cV (S.below q);have b0:=cV (l.trans (q.mono S.s));clear q S l;unfold wv;go_wp2_with fail
 refine(dx 2 (by decide) _).mono ?_;rintro e z3⟨q3,Q3,rfl,q⟩;have t:=cV (j.below q);have l:=cV (b0.trans (q.mono j.s));clear q j b0;unfold wv;go_wp2_with fail
 refine(dx 50 (by decide) _).mono ?_;rintro e z4⟨q4,Q4,rfl,q⟩;have N:=cV (t.below q);have a4:=cV (l.trans (q.mono t.s));clear q t l;unfold wv;go_wp2_with fail
 refine(dx 0 (by decide) _).mono ?_;rintro e z5⟨q5,Q5,rfl,q⟩;have z:=cV (N.below q);have b6:=cV (a4.trans (q.mono N.s));clear q N a4;unfold wv;go_wp2_with fail
 refine(dx 4 (by decide) _).mono ?_;rintro e z6⟨q6,Q6,rfl,q⟩;have l:=cV (z.below q);have a5:=cV (b6.trans (q.mono z.s));clear q z b6;unfold wv;go_wp2_with fail
 have X:=cV (l.row (slR q5 q6) 54);have a1:=cV (a5.trans ((ai (dO _ z6) (.cells (slR q5 q6).toArray 54)).mono l.s));let⟨sg,a9⟩:=hJ z6.heap.size;change Calls _ _ _ (z6.alloc (.cells (slR q5 q6).toArray 54)) _;rw[<-a9]at X⊢;clear a9 l a5;generalize z6.alloc (.cells (slR q5 q6).toArray 54)=l at*;refine(dx 3 (by decide) _).mono ?_;rintro e z8⟨l,Q7,rfl,q⟩;have o:=cV (X.below q);have b9:=cV (a1.trans (q.mono X.s));clear q X a1;unfold wv;go_upto_region 9 with fail
 have V:=cV (o.row (acR q1 q2 q3 q4 l 0 sg v h) 34);have R:=cV (b9.trans ((ai (dO _ z8) (.cells (acR q1 q2 q3 q4 l 0 sg v h).toArray 34)).mono o.s));let⟨ag,b1⟩:=hJ z8.heap.size;change Code.wp _ _ _ _ (z8.alloc (.cells (acR q1 q2 q3 q4 l 0 sg v h).toArray 34));rw[<-b1]at V⊢;clear b1 o b9;generalize z8.alloc (.cells (acR q1 q2 q3 q4 l 0 sg v h).toArray 34)=z9 at*;rw[Q1.aa,Q2.aa,Q3.aa,Q4.aa,Q5.aa,Q6.aa,Q7.aa,H1.aa,H2.aa]at V;have HM:=cV (U3 V.bG (HZ.bq h0 R) h0 (λy l _=>TE l.hd l.tl.hd) (rH T i) (λk=>W) (λk=>by simp));have HRW:=cV (Sj (rH T i) (λa l=>by
  have l:a=⟨1,1000,⟨#[]⟩,[]⟩\/a=⟨2,50,v,[(0,4)]⟩\/a=⟨3,0,h,[]⟩:=by grind[MD]
  grind))
 have l:=cV (new_cd (rH T i));clear V;go_upto_region 10 with(first|(go_at_call 17;refine HM.mono ?_;rintro e x1⟨pb,gb,q,q,n,q,q,q,G1,rfl,q,A,u,q⟩)|fail);have U:∀k,(G1 k).2.length=0+(if k=3 then 4 else if k=2 then 28 else 0):=q;have W2:=cV (KP 1 2 B data g A (HZ.bq h0 (R.trans u)) h0 l HRW (by omega) (by show 3<=_;omega) (by show 1<=_;omega) (λk=>by rw[U k];exact(hg6 k).1) (λk=>by have:=(hg6 k).2;have:=U k;omega));have L:=cV (R.trans u);have G:=A.tl.tl.tl.tl.tl.tl;have m0:=G.c 0 W;have m1:=G.c 1 W;have m2:=G.c 2 W;have m3:=G.c 3 W;have m4:=G.c 4 W;have m5:=G.c 5 W;have m6:=G.c 6 W;have m7:=G.c 7 W;have m8:=G.c 8 W;have m9:=G.c 9 W;have m10:=G.c 10 W;have m11:=G.c 11 W;have m12:=G.c 12 W;have m13:=G.c 13 W;have l:=cV U;unfold nz at W2;clear A u q U G HM R;go_upto_region 13 with(first|(go_at_call 18;refine W2.aa.mono ?_;rintro e q⟨rfl,G2,q,q,q,q,q,q,q,m,a3,p,q,u,q,hp2,hl2, -,hm2,a0⟩)|fail);have F:∀k,(G2 k).2.length=(if k=3 then 4 else if k=2 then 28 else 0)+(if k=1 then 4 else if k=0 then 4*m else 0):=λk=>(a0 k).trans (by rw[l.aa k,XF]);have W3:=cV (KH a3 (HZ.bq h0 (L.trans p)) h0 q u (by omega) (by have:(List.map uD (MD v h)).length=3:=rfl;omega) (by have:(List.flatMap ic (MD v h)).length=1:=rfl;omega) (λk=>hg4 k _ _ (F k)) (λk=>by have:=hg5 k m;have:=F k;omega));have P:=cV (L.trans p);clear a3 p a0 F W2 L m0 m1 m2 m3 m4 m5 m6 m7 m8 m9 m10 m11 m12 m13;go_upto_region 14 with(first|(go_at_call 19;refine W3.aa.mono ?_;rintro e l⟨rfl,l,l, -, -, -,D, -⟩)|fail);have l:=cV (P.trans D);clear D P W3;go_wp2;go_ret;exact⟨W,l⟩
section
open Go.ChangeShapes Go.WideShapes Go.ChangeAt Go.RowKit
def aD:ownKnob prog.godebug=none:=by kernel_rfl
def TU:laidOutB prog=true:=by kernel_rfl
def yY:prog.cellsOf 24=4:=by kernel_rfl
def xB:prog.cellsOf 22=1:=by kernel_rfl
def GZ(x0 x1 x2 x3:Nat)(E:x0<18446744073709551616)(D:x1<18446744073709551616)(C:x2<18446744073709551616)(G:x3<18446744073709551616):∃n,wv n=.agg #[iU (x0:Int),iU (x1:Int),iU (x2:Int),iU (x3:Int)]:=by refine⟨x0+18446744073709551616*(x1+18446744073709551616*(x2+18446744073709551616*x3)),?_⟩;unfold wv;rw[(show cX (x0+18446744073709551616*(x1+18446744073709551616*(x2+18446744073709551616*x3))) 0=(x0:Int) by unfold cX;rw[Je];omega),(show cX (x0+18446744073709551616*(x1+18446744073709551616*(x2+18446744073709551616*x3))) 1=(x1:Int) by unfold cX;rw[LP];omega),(show cX (x0+18446744073709551616*(x1+18446744073709551616*(x2+18446744073709551616*x3))) 2=(x2:Int) by unfold cX;rw[Li];omega),(show cX (x0+18446744073709551616*(x1+18446744073709551616*(x2+18446744073709551616*x3))) 3=(x3:Int) by unfold cX;rw[Ij];omega)]
def wP{x:Int}(h:(Lit.int .u64 x).wf=true):∃n:Nat,x=(n:Int)/\n<18446744073709551616:=by have C:=bounds_u64 h;exact⟨x.toNat,by omega,by omega⟩
end
section
open Go.ChangeShapes Go.WideShapes Go.ChangeAt Go.RowKit Go.ChangeMaps
def zeroG:prog.globalNamed "cinder/host.zero"=some 0:=by kernel_rfl
def zeroT:(prog.globals[0]?).map (·.type)=some 24:=by kernel_rfl
def AQQ{q:WD}{C:Nat}{cs:Ys}{p:List MemPlace}(u:DataW.trod (λ_=>()) prog q 0 (λ_=>true) false C 24 cs.toList=some (Rows.laid_cinder_host_zero,p)):cs=#[iU 0,iU 0,iU 0,iU 0]:=by
 let⟨l⟩:=cs;cases C with
 |zero=>simp[DataW.trod]at u
 |succ C=>
  simp only[DataW.trod,underlying24,yY,xB]at u;split at u
  .rename_i hl;obtain⟨q,c1,c2,c3,rfl⟩:∃q c1 c2 c3,l=[q,c1,c2,c3]:=by
    match l,hl with
    |[a,b,c,d],_=>exact⟨a,b,c,d,W⟩
   have e:List.range 4=[0,1,2,3]:=rfl;rw[e]at u;simp only[Y1,List.mapM_cons,List.mapM_nil,Option.bind_eq_bind,Option.bind_eq_some_iff,Option.pure_def,Option.some.injEq]at u;obtain⟨Z,⟨h,L,_,⟨X,P,_,⟨o,J,_,⟨Y,Q,_,rfl,rfl⟩,rfl⟩,rfl⟩,rfl⟩,G⟩:=u;obtain⟨x0,D,rfl,f⟩:=DataW.trod_int underlying22 L;obtain⟨j,H,rfl,R⟩:=DataW.trod_int underlying22 P;obtain⟨g,E,rfl,m⟩:=DataW.trod_int underlying22 J;obtain⟨V,I,rfl,U⟩:=DataW.trod_int underlying22 Q;simp at D H E I;subst D H E I;simp[Rows.laid_cinder_host_zero]at G;obtain⟨⟨rfl,rfl,rfl,rfl⟩,_⟩:=G;rfl
  cases u
def rm{W:WD}{cs:Ys}(C:W.var? prog "cinder/host.zero"=some cs)(D:cs=#[iU 0,iU 0,iU 0,iU 0]):Zr W:=by
 subst D;unfold World.var? at C;rw[zeroG]at C;simp only[Option.bind_some]at C;split at C
 .rename_i cs t z hb;obtain rfl:=hV C;refine⟨⟨?_,?_,?_,?_⟩,(WY.1 hb).1⟩<;>simp[World.cell?,hb]
 cases C
def pF{W:WD}(h:laidMet prog Rows.runsRow.laid W):Zr W:=by obtain⟨ps,C, -, -⟩:=h;have C:DataW.LaidVars prog W [("cinder/host.zero",Rows.laid_cinder_host_zero)] ps:=C;let⟨g,t,cs,E,p,q,H,G,D,I,_,_⟩:=C;obtain rfl:=hV (zeroG.symm.trans H);obtain rfl:=hV (zeroT.symm.trans G);exact rm D (AQQ I)
def p9{C:Type}{enc:Vr×VL->C}{b:WD}{Y:Nat}{V:Nat->Bool}{held:Bool}{D:Nat}{c c1 c2 c3:VL}{x:DataW C×List MemPlace}(h:DataW.trod enc prog b Y V held D 24 [c,c1,c2,c3]=some x):∃n,c=lu n 0/\c1=lu n 1/\c2=lu n 2/\c3=lu n 3:=by let⟨N,S,t,T,m,F,J,G,H,I⟩:=trod_array4 underlying24 xB h;obtain⟨x0,L,rfl,g⟩:=DataW.trod_int underlying22 J;obtain⟨k,Q,rfl,U⟩:=DataW.trod_int underlying22 G;obtain⟨K,P,rfl,y⟩:=DataW.trod_int underlying22 H;obtain⟨A,R,rfl,X⟩:=DataW.trod_int underlying22 I;simp at L Q P R;subst L Q P R;obtain⟨Z,rfl,f⟩:=wP g;obtain⟨o,rfl,j⟩:=wP U;obtain⟨z,rfl,p⟩:=wP y;obtain⟨n3,rfl,d⟩:=wP X;let⟨n,E⟩:=GZ Z o z n3 f j p d;unfold wv at E;injection E with E;have e:=Xl Array.toList E;simp only[List.cons.injEq,and_true]at e;exact⟨n,e.1.symm,e.2.1.symm,e.2.2.1.symm,e.2.2.2.symm⟩
def rg:prog.underlying 43=some (.struct (prog.fieldsOf 43)):=by kernel_rfl
def Bx:prog.cellsOf 43=14:=by kernel_rfl
def p8:prog.cellsOf 9=1:=by kernel_rfl
def pK:prog.cellsOf 3=1:=by kernel_rfl
def o6:prog.underlying 9=some .string:=by kernel_rfl
def o7(i t o:Nat){L:Array Field}(h:(L[i]?).map (λf=>(f.type,f.offset))=some (t,o)){C:Type}{enc:Vr×VL->C}{J:WD}{E:Nat}{D:Nat->Bool}{held:Bool}{G:List (DataW C×List MemPlace)}(P:∀(i:Nat)(f:Field),L[i]?=some f->DataW.trod enc prog J E D held n f.type ((cs.drop f.offset).take (prog.cellsOf f.type))=G[i]?):DataW.trod enc prog J E D held n t ((cs.drop o).take (prog.cellsOf t))=G[i]? :=by let⟨f,I,H⟩:=Y1.1 h;obtain⟨rfl,rfl⟩:=Xi H;exact P i f I
def rZ{G:Type}{enc:Vr×VL->G}{Y:WD}{D:Nat}{C:Nat->Bool}{held:Bool}{H:Nat}{x:DataW G×List MemPlace}(h:DataW.trod enc prog Y D C held H 43 cs=some x):∃(c Z d:Nat)(s:BA)(k:Int),cs=kZ c Z d s k:=by
 let⟨Q,n,X,V,f,E,b⟩:=DataW.trod_struct rg h;have E:Q.length=5:=E.trans (by kernel_rfl);rw[Bx]at f;match cs,f with
 |[c0,c1,c2,c3,c4,c5,c6,c7,c8,c9,c10,c11,c12,c13],_=>
  have I:=o7 0 24 0 (by kernel_rfl) b;have L:=o7 1 24 4 (by kernel_rfl) b;have g2:=o7 2 24 8 (by kernel_rfl) b;have P:=o7 3 9 12 (by kernel_rfl) b;have J:=o7 4 3 13 (by kernel_rfl) b;rw[yY]at I L g2;rw[p8]at P;rw[pK]at J;rw[iN (by omega)]at I L g2 P J;obtain⟨c,rfl,rfl,rfl,rfl⟩:=p9 (show DataW.trod enc prog Y D C held n 24 [c0,c1,c2,c3]=_ from I);obtain⟨Z,rfl,rfl,rfl,rfl⟩:=p9 (show DataW.trod enc prog Y D C held n 24 [c4,c5,c6,c7]=_ from L);obtain⟨d,rfl,rfl,rfl,rfl⟩:=p9 (show DataW.trod enc prog Y D C held n 24 [c8,c9,c10,c11]=_ from g2);let⟨s,R,_⟩:=DataW.trod_string o6 (show DataW.trod enc prog Y D C held n 9 [c12]=_ from P);let⟨k,U,_⟩:=DataW.trod_int underlying3 (show DataW.trod enc prog Y D C held n 3 [c13]=_ from J);obtain rfl:c12=.string s:=by simpa using R
  obtain rfl:c13=iI k:=by simpa using U
  exact⟨c,Z,d,s,k,W⟩
def rL{C:Type}{enc:Vr×VL->C}{G:WD}{d:DataW C}{p:List MemPlace}(E:Value.okWide prog G .any O 43 v)(h:DataW.Trod enc prog G 0 (λ_=>true) true 43 v d p):∃(H Z I:Nat)(s:BA)(k:Int),v=nz H Z I s k:=by obtain⟨cs,rfl,J⟩:=okWide_struct rg E;let⟨D,J⟩:=h;let⟨H,Z,I,s,k,e⟩:=rZ (show DataW.trod enc prog G 0 (λ_=>true) true D 43 cs.toList=some (d,p) from J);refine⟨H,Z,I,s,k,?_⟩;let⟨l⟩:=cs;obtain rfl:l=_:=e;rfl
def ownD:ownKnob prog.godebug=none:=by kernel_rfl
def uc(os:Os):laidMet prog Rows.runsRow.laid ((World.doorLaid prog 400 os).forCall (λ_ _=>0) ⟨#[],args,[]⟩).memory:=laidMet_of_run' 8 (by kernel_rfl) (by kernel_rfl)
abbrev arg0:Ys:=#[.string ⟨#[]⟩,.string ⟨#[]⟩,.agg #[.int .u64 0,.int .u64 0,.int .u64 0,.int .u64 0,.int .u64 0,.int .u64 0,.int .u64 0,.int .u64 0,.int .u64 0,.int .u64 0,.int .u64 0,.int .u64 0,.string ⟨#[]⟩,.int .i64 0]]
def runs(os:Os){D:Type}(enc:Vr×VL->D):∃C,DataW.whole enc prog ((World.doorLaid prog 400 os).forCall (λ_ _=>0) ⟨#[],arg0,[]⟩).memory f4.params.toList Rows.runsSpec.vars false arg0.toList 8=some ([.lit (.string []),.lit (.string []),.agg [.agg [.lit (.int .u64 0),.lit (.int .u64 0),.lit (.int .u64 0),.lit (.int .u64 0)],.agg [.lit (.int .u64 0),.lit (.int .u64 0),.lit (.int .u64 0),.lit (.int .u64 0)],.agg [.lit (.int .u64 0),.lit (.int .u64 0),.lit (.int .u64 0),.lit (.int .u64 0)],.lit (.string []),.lit (.int .i64 0)]],[],C):=⟨[],by kernel_rfl⟩
def pf(Hq9:Type)(enc:Vr×VL->Hq9)(W:WD)(O:Nat)(args:Ys)(ds gs:List (DataW Hq9))(before:List MemPlace)(hval:∀(j:Nat) t v,f4.params[j]?=some t->args[j]?=some v->Value.okWide prog W .any O t v)(hW:DataW.Whole enc prog f4.params.toList Rows.runsSpec.vars false W args.toList ds gs before)(hz:Zr W):cP 4 args W λe W'=>∃v,e=.returned v/\Rows.runsSpec.post enc prog f4 false true false false W args v W':=by
 have hW':=hW;obtain⟨p,q,hA0,hV,rfl,hfz,hnd⟩:=hW;have hA:DataW.TrodAll enc prog W 0 (λ_=>true) true f4.params.toList args.toList ds p:=hA0;rw[params4]at hA hval;obtain⟨v0,vs0,d0,ds0,p0,q0,hargs,rfl,rfl,h0,r0⟩:=trodAll_cons hA;obtain⟨v1,vs1,d1,ds1,p1,q1,rfl,rfl,rfl,h1,r1⟩:=trodAll_cons r0;obtain⟨v2,vs2,d2,ds2,p2,q2,rfl,rfl,rfl,h2,r2⟩:=trodAll_cons r1;obtain⟨rfl,rfl,rfl⟩:=trodAll_nil r2;obtain rfl:args=#[v0,v1,v2]:=by cases args;simp_all
 obtain⟨rfl,rfl⟩:=trodVars_none hV;have lt2:∀x∈p2,x.block<W.heap.size:=by obtain⟨m,hm⟩:=h2;exact DataW.trod_lt m _ _ _ hm
 obtain⟨fr,Z,vl,s,k,hm⟩:=rL (hval 2 43 v2 rfl rfl) h2;obtain⟨s0,rfl,rfl,rfl,hs0⟩:=open_string o6 (hval 0 9 v0 rfl rfl) h0;obtain⟨s1,rfl,rfl,rfl,hs1⟩:=open_string o6 (hval 1 9 v1 rfl rfl) h1;clear hA0;have hr:=OZ s0 s1 s fr Z vl k W hz;rw[<-hm]at hr;refine hr.mono λe W'⟨he,bel⟩=>?_;subst he;exact⟨_,rfl,_,_,_,[],_,[],hW',trodAll_mk1 (shut_bool underlying4 _),(trodAll_cons_mk (shut_string o6 hs0) (trodAll_cons_mk (shut_string o6 hs1) (trodAll_cons_mk (Below.trod TU (by kernel_rfl) (Xd (by kernel_rfl)) h2 bel lt2) trodAll_mk0))),rfl,bel.frame _,λh=>by cases h⟩
def pH(os:Os)(started:os.Started)(Hq9:Type)(enc:Vr×VL->Hq9)(F:Stop.Interp):ReturnsInHanded {} checked os 4 .any ((OpenSpec.ofChange Rows.runsSpec).preRow enc prog f4 Rows.runsRow.domain false Rows.runsRow.laid) (((OpenSpec.ofChange Rows.runsSpec).at F).post enc prog f4 false true false false):=by
 obtain⟨places,hx⟩:=runs os enc;refine returnsInHanded_of_row (C:=checked) (s:=OpenSpec.ofChange Rows.runsSpec) ownD started (by kernel_rfl) func4
  (witness_row_at (enc:=enc) (C:=checked) false (World.doorLaid prog 400 os) arg0 rfl (by kernel_rfl) (by kernel_rfl) (by kernel_rfl)
   (OpenSpec.preRow_of_cond 8 hx (by kernel_rfl) (λk hk=>by cases hk) (by kernel_rfl) (uc os))) ?_
 intro W O args ds gs before hval hW _ _ _ hL _ _;exact pf Hq9 enc W O args ds gs before hval hW (pF hL)
def plainU(f:FuncId)(fn:Func)(G:pinned.checked.prog.funcNamed "cinder/cinderlaw.Runs"=some f)(C:pinned.checked.prog.funcs[f]?=some fn):false=pinned.checked.prog.looks []/\∀(j:Nat) t,fn.params[j]?=some t->pinned.checked.prog.wantsStandIn t=false:=by
 obtain rfl:f=4:=hV ((show prog.funcNamed "cinder/cinderlaw.Runs"=some 4 by kernel_rfl).symm.trans G) |>.symm;obtain rfl:fn=f4:=(hV (func4.symm.trans C)).symm;refine⟨by kernel_rfl,λj t D=>?_⟩;rw[params4]at D;have E:t=9\/t=9\/t=43:=by simpa using Array.mem_of_getElem? D
 rcases E with rfl|rfl|rfl
 .exact(show prog.wantsStandIn 9=false by kernel_rfl)
 .exact(show prog.wantsStandIn 9=false by kernel_rfl)
 exact(show prog.wantsStandIn 43=false by kernel_rfl)
end
end
end cin
end Go.Proofs.YtohoajjdoihekaaGreatDoor
