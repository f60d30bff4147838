import Derived.Test.YtohoajjdoihekaaGreatDoorHr
import Derived.Defers
import Derived.Recover
import Derived.Deep.LoopGhost
import Derived.Deep.MidRow
set_option linter.unusedVariables false
set_option linter.unusedSimpArgs false
set_option linter.defProp false
namespace Go.Proofs.YtohoajjdoihekaaGreatDoor
namespace cin
open Go.RowKit Go.Maps Go.Proofs.Tryz Tryz
set_option maxRecDepth 100000
set_option maxHeartbeats 8000000
variable {m i q e n O H p1 a b p k t d o u E c U kd N t1 t2 r m' g Nq9 J j st ac gs mb ab Z fr size cp b' pb n' aj:Nat}{Q:Y6}{S Cq9 S':Tl}{X C v v0 v1 v2 v3 sv' mv' lv:VL}{Fk:Nat->Fz}{w x x' w' w1 w2 y:WD}{I:Vm}{F F1 G F2 F':Fz}{vs args:Ys}{s:Act}{pos:String}{af:U9}{gd:U6}{K:K6}{src ae aa data:BA}{ad:Gj}{T T1 T2 T':TS}{V V1:TV}{f:Vp}{Post:Ending->X4}{aw:List Bool}{xs:Tn}
theorem AllOb.mk{α:Type}{I:Vm}{es:List<|Yt×α}{B:Nat->Nat->Oper->Yt->α->Prop}:∀{l:Tl}{p:Nat},(∀q i,l[q]?=some i->∀o d E,I[i]?=some o->es[i]?=some (d,E)->B (p+q) i o d E)->AllOb I es B p l
 |[],_,_=>trivial
 |i::l,p,h=>⟨wm<|h 0 i W,AllOb.mk λq j J o d E G L=>by have:=h (q+1) j J o d E G L;grind⟩
abbrev Bxl:=List<|Nat×Nat×Nat
section
variable (O H:Nat) (Fk:Nat->Fz) (w:WD)
def BX(m n:Nat):Kp:=λp v x=>∃b,v=pt b/\w.heap.size<=b/\(∃S X C,Fr O H (Fk p) S X C x/\b∉S)/\(∃f,x.rowIs b 24 4 f)/\(m<p->eI x b n)
def bxE:Nat->Bxl->Es
 |_,[]=>[]
 |m,b::r=>(some b.1,.l<|BX O H Fk w m b.2.2)::bxE (m+1) r
theorem zbP:∀(bx:Bxl)(m q:Nat),(bxE O H Fk w m bx)[q]?=bx[q]?.map λb=>(some b.1,.l<|BX O H Fk w (m+q) b.2.2)
 |[],_,_=>rfl
 |b::r,m,0=>rfl
 |b::r,m,q+1=>by show(bxE O H Fk w (m+1) r)[q]?=_;rw[zbP r (m+1) q,ZB,Nat.add_comm 1];rfl
theorem QP:∀(bx:Bxl)(m:Nat),(bxE O H Fk w m bx).length=bx.length
 |[],_=>rfl
 |b::r,m=>Xl (·+1)<|QP r<|m+1
def dg(m:Nat)(V:Es)(bx:Bxl):Es:=V++(bxE O H Fk w m bx++bx.map λ_=>(none,.v undef))
structure POk(I:Vm)(a:Act)(D:Td)(V:Es)(bx:Bxl)(Cq9:Tl)(cs:List (FuncId×Ys)):Prop where
 dst:I.toList.map (·.dst)=(dg O H Fk w Cq9.length V bx).map Prod.fst
 au:Gr I a D (dg O H Fk w Cq9.length V bx) (Cq9++List.range' (V.length+bx.length) bx.length) [] [] (List.range' V.length bx.length)
 lt:(Cq9.all λc=>decide (c<V.length))=true
 aS:((List.range' V.length bx.length).all λj=>(List.range' (V.length+bx.length) bx.length).all λi=>lL I i j)=true
 en:(λs x=>Cq9.map λi=>I[i]?.map λo=>(execOp (pG (pg I D (dg O H Fk w Cq9.length V bx) o) s) o).run prog x)=λ_ x=>cs.map λc=>some (.ok (.enter c.1 c.2) x)
 bo:(bx.zipIdx.map λp=>(I[V.length+p.2]?.map (·.op),I[V.length+bx.length+p.2]?.map λo=>(o.op,pg I D (dg O H Fk w Cq9.length V bx) o p.1.2.1,zz I (dg O H Fk w Cq9.length V bx) o p.1.1)))=bx.zipIdx.map λp=>(some (.alloc 24),some (.store 24 (.tmp p.1.1) (.tmp p.1.2.1),some (wv p.1.2.2),some (BX O H Fk w (Cq9.length+p.2) p.1.2.2)))
def RelB(m:Nat)(bx:Bxl)(p:Nat)(s:Act)(x x':WD):=x.heap.size<=x'.heap.size/\((p<m/\∀S X C,Fr O H (Fk p) S X C x->∃S' sv' mv',Fr O H (Fk<|p+1) S' sv' mv' x'/\Kb S x x'/\∀j∈S',j∈S\/x.heap.size<=j)\/∃b n,Kb [b] x x'/\(∀S X C,Fr O H (Fk p) S X C x->b∉S->Fr O H (Fk<|p+1) S X C x')/\(∃S X C,Fr O H (Fk p) S X C x/\b∉S)/\eI x' b n/\∀q sl e n',bx[q]?=some (sl,e,n')->(s.tmps.getD sl undef=pt b↔m+q=p)/\(m+q=p->n'=n))
end
section
variable {a:Act}{D:Td}{V:Es}{bx:Bxl}{cs:List (FuncId×Ys)}
def ju(E:(V.all λp=>p.2.bF)=true){d:Yt}{T:Kp}(h:(dg O H Fk w m V bx)[i]?=some (d,.l T)):∃q L e n,i=V.length+q/\bx[q]?=some (L,e,n)/\d=some L/\T=BX O H Fk w (m+q) n:=by
 unfold dg at h;rw[List.getElem?_append]at h;split at h
 .exact(mE E h).elim
 rw[List.getElem?_append,QP,zbP]at h;split at h
 .obtain⟨⟨L,e,n⟩,J,G⟩:=Y1.1 h;cases G;exact⟨i-V.length,L,e,n,wq,J,W,W⟩
 rw[Xu]at h;let⟨b,J,G⟩:=Y1.1 h;cases G
def zbj{sl:Nat}(h:bx[q]?=some (sl,e,n)):(dg O H Fk w m V bx)[V.length+q]?=some (some sl,.l<|BX O H Fk w (m+q) n):=by have E:=(Do.1 h).1;unfold dg;rw[Xx wq,Xv (by rw[QP];omega),zbP,ZL,h];rfl
def zaV{id:Nat}(Fk:Nat->Fz)(rs:Nat->Option (Nat×Fz))(h:Fr O H (Fk 0) S X C w)(a1:(V.all λp=>p.2.bF)=true)(hF:∀j,Fk (j+Cq9.length)=Fk Cq9.length)
  (hc:∀p f args i,cs[p]?=some (f,args)->Cq9[p]?=some i->Fk (p+1)=A1 (rs p)/\(∃d,V[i]?=some (some d,.v<|wv<|dV<|rs p))/\(∀x S' X C,Fr O H (Fk p) S' X C x->Calls prog f args x (gC (rs p) wv O H S' x))/\(rs p=none->∀u pv s x,s.defers=a.defers->Kb S w x->Q (.panic [{v:=.iface u pv,recovered:=false}]) s x))
  (hok:∀(g:Vp) x S' sv' mv',Fr O H (Fk Cq9.length) S' sv' mv' x->Kb S w x->(∀j∈S',j∈S\/w.heap.size<=j)->(∀q sl e n,bx[q]?=some (sl,e,n)->∃b,g (V.length+q)=pt b/\b∉S'/\w.heap.size<=b/\eI x b n)->Q .normal (dQ a<|se g (dg O H Fk w Cq9.length V bx) 0) x)(ho:POk O H Fk w I a D V bx Cq9 cs:=by exact⟨rfl,⟨N0,R5,R5,N0⟩,rfl,N0,N0,N0⟩):
  (Code.region id I true).wp prog Q a w:=by
 have a3:∀q sl e n,bx[q]?=some (sl,e,n)->I[V.length+q]?.map (·.op)=some (.alloc 24)/\I[V.length+bx.length+q]?.map (λo=>(o.op,pg I D (dg O H Fk w Cq9.length V bx) o e,zz I (dg O H Fk w Cq9.length V bx) o sl))=some (.store 24 (.tmp sl)<|.tmp e,some<|wv n,some<|BX O H Fk w (Cq9.length+q) n):=λq sl e n hq=>by
  have:=Xl (λl=>l[q]?) ho.bo;simp only[Xu,List.getElem?_zipIdx,hq,Yi,Option.some.injEq,XV,XF]at this;exact this
 have Bp:∀q q',q<bx.length->q'<bx.length->lL I (V.length+bx.length+q) (V.length+q')=true:=λq q' G Z=>
  Xp.1 (Xp.1 ho.aS _<|List.mem_range'.2 ⟨q',Z,wq⟩) _ (List.mem_range'.2 ⟨q,G,wq⟩)
 have a4:∀{i:Nat}{o:Oper}{d:Yt}{E:En},I[i]?=some o->(dg O H Fk w Cq9.length V bx)[i]?=some (d,E)->o.dst=d:=λ{i o d E} G Z=>by
  have:=Xl (λl:List (Yt)=>l[i]?) ho.dst;simp only[Xu,Zs,G,Z,Yi,Option.some.injEq]at this;exact this
 have a8:∀q,(Cq9++List.range' (V.length+bx.length) bx.length)[Cq9.length+q]?=(List.range' (V.length+bx.length) bx.length)[q]? :=λq=>by
  rw[Xx wq,ZL]
 have hcr:∀q,q<bx.length->(Cq9++List.range' (V.length+bx.length) bx.length)[Cq9.length+q]?=some (V.length+bx.length+q):=λq hq=>by
  rw[a8,List.getElem?_range' hq];simp
 refine nM (List.range' V.length bx.length) (λx x'=>Below x.heap.size x x') (λx=>dO _ x) (PhF O H Fk S w) (RelB O H Fk Cq9.length bx) D _ _ [] [] K2 K2 (λi hi=>?_) (λ_=>⟨λx x' h=>h.size,λp s x x' h=>h.1⟩) (PhF.bn h) PhF.bel ?_ AF ?_ ?_ ?_ ?_ ho.au
 .obtain⟨q,hq,rfl⟩:=List.mem_range'.1 hi;rw[Nat.one_mul];let⟨⟨sl,e,n⟩,hb⟩:=Do.2 ⟨hq,rfl⟩|>λh=>(⟨bx[q],h⟩:∃b,bx[q]?=some b)
  obtain⟨o,G, -⟩:=Y1.1 (a3 q sl e n hb).1;refine⟨λU=>?_,K2,(WY.1 G).1⟩;rcases Xr.1 U with Z|Z
  .have:=Xd<|Xp.1 ho.lt _ Z;omega
  .obtain⟨r,h3,h4⟩:=List.mem_range'.1 Z;omega
 .refine AllOb.mk λp i hi o d E P W s x L a5 hv hl hne K hK=>?_
  rw[XF]at*;by_cases hp:p<Cq9.length
  .rw[Xv hp]at hi;have G:=Xl (λl=>l[p]?)<|congrFun (congrFun ho.en s) x;simp only[Xu,hi,P,Yi]at G;let⟨⟨f,args⟩,Z,h3⟩:=Y1.1 G.symm;let⟨g1,⟨d',g2⟩,g3,g4⟩:=hc p f args i Z hi
   have h4:(dg O H Fk w Cq9.length V bx)[i]?=some (some d',.v<|wv<|dV<|rs p):=by
    unfold dg;rw[Xv (Do.1 g2).1,g2]
   rw[h4]at W;cases W;have h5:=a4 P h4;refine zax (c:=wv<|dV<|rs p) L hv (λS' X C hf=>g3 x S' X C hf) (hV h3).symm g1 (λa F' e=>by rw[e];rfl) (λe u pv x' hk=>g4 e u pv s x' a5 hk) λS1 y Y S2 A t x' R k2 k3 k4 k5=>?_
   rw[h5];refine hK _ x' k5 ⟨k3.size,LZ ⟨hp,λS X C k6=>?_⟩⟩ (λe=>by cases e) rfl;obtain⟨rfl,rfl,rfl⟩:=R.uni k6;exact⟨_,_,_,k2,k3,k4⟩
  .obtain⟨q,rfl⟩:∃q,p=Cq9.length+q:=⟨p-Cq9.length,wq⟩;rw[a8]at hi;have hq:q<bx.length:=by simpa using (Do.1 hi).1
   rw[List.getElem?_range' hq]at hi;simp only[Nat.one_mul,Option.some.injEq]at hi;subst hi;obtain⟨⟨sl,e,n⟩,hb⟩:∃b,bx[q]?=some b:=⟨_,iN hq⟩;have G:=(a3 q sl e n hb).2;simp only[P,Yi,Option.some.injEq,XV]at G;let⟨G,Z,h3⟩:=G;have u1:=hv _ _ Z;obtain⟨b,z,u3,⟨S1,y,Y,F,u5⟩,⟨f,u6⟩, -⟩:=hl _ _ h3
   have h4:(dg O H Fk w Cq9.length V bx)[V.length+bx.length+q]?=some (none,.v undef):=by
    unfold dg;rw[Xx wq,Xx (by rw[QP];omega),QP,Xu,(wq:V.length+bx.length+q-V.length-bx.length=q),hb];rfl
   rw[h4]at W;cases W;let⟨S2,A,t,c1,c2,c3⟩:=L;obtain⟨rfl,rfl,rfl⟩:=F.uni c1;have hd:=a4 P h4;let⟨dst,J,ty,pos,af,gd⟩:=o;dsimp only at G hd;subst G hd;refine ey z u1 u6 λx' r1 r2=>?_
   have R:Kb [b] x x':=r2▸we x b n
   have k2:Fk (Cq9.length+q+1)=Fk (Cq9.length+q):=by
    have:=hF q;have:=hF<|q+1
    grind
   have k3:∀S X C,Fr O H (Fk<|Cq9.length+q) S X C x->b∉S->Fr O H (Fk<|Cq9.length+q+1) S X C x':=λS X C k hn=>by
    rw[k2];refine k.kb R (λj hj U=>?_) (λU=>?_)<|λg N f' hr U=>?_
    .rw[BY]at U;exact hn<|U▸hj
    .have:=h.hs;rw[BY]at U;omega
    .rw[BY]at U;exact jT hr u6 tb1 U
   refine hK _ x' ⟨_,_,_,k3 _ _ _ c1 u5,c2.trans R<|λj hj=>?_,c3⟩ ⟨R.size,A4 ⟨b,n,R,k3,⟨_,_,_,c1,u5⟩,r1,λq' sl' e' n' a0=>?_⟩⟩ (λ_=>rfl) rfl
   .rw[BY]at hj;exact A4<|hj▸u3
   .by_cases hqq:q'=q
    .subst hqq;rw[hb]at a0;cases a0;exact⟨⟨λ_=>rfl,λ_=>z⟩,λ_=>rfl⟩
    .have a6:=(Do.1 a0).1;have:=hne (V.length+q') (List.mem_range'.2 ⟨q',a6,wq⟩) (V.length+q) (List.mem_range'.2 ⟨q,hq,wq⟩) wq (Bp q q' hq a6) (Bp q q hq hq) _ _ _ _ (zbj a0)<|zbj hb;rw[z]at this;exact⟨⟨λh=>absurd h this,λh=>wq⟩,λh=>wq⟩
 .refine AllOb.mk λq i hi o d E P W k s x hk hlo a5 hl K hhi L hv hK=>?_
  have hq:q<bx.length:=by simpa using (Do.1 hi).1
  rw[List.getElem?_range' hq]at hi;simp only[Nat.one_mul,Option.some.injEq]at hi;subst hi;obtain⟨⟨sl,e,n⟩,hb⟩:∃b,bx[q]?=some b:=⟨_,iN hq⟩;have G:=(a3 q sl e n hb).1;rw[P]at G;rw[zbj hb]at W;cases W;have hd:=a4 P<|zbj hb;let⟨dst,J,ty,pos,af,gd⟩:=o;cases hV G;dsimp only at hd;subst hd;let⟨S1,y,Y,R,k2,k3⟩:=L;have a7:Below x.heap.size x (x.alloc zw):=ai (dO _ x) _;refine kh<|hK _ _ a7 nn1 ⟨_,rfl,DO _,K2⟩ ⟨_,rfl,k2.size,⟨S1,y,Y,R.below a7,λU=>Yg _<|R.aU _ U⟩,⟨_,de (λ_=>0) rfl rfl rfl rfl rfl⟩,λhlt=>?_⟩;have:=hhi _ _ (hcr q hq) (by unfold qU;rw[Bp q q hq hq];rfl);omega
 .intro i d T W p s x x' _ hp L hr ht;obtain⟨q,sl,e,n,rfl,hb,rfl,rfl⟩:=ju a1 W;let⟨b,z,u3,⟨S1,y,Y,F,u5⟩,⟨f,u6⟩,u7⟩:=ht;rcases hr.2 with⟨G,Z⟩|⟨b',n',R,k2,⟨S2,A,t,k3,k4⟩,k5,k6⟩
  .obtain⟨S2,A,t,R,k2,k3⟩:=Z _ _ _ F;exact⟨b,z,u3,⟨_,_,_,R,λU=>(k3 b U).elim u5 λh=>absurd u6.lt wq⟩,⟨f,k2.row u6 u5⟩,λh=>wq⟩
  .obtain⟨rfl,rfl,rfl⟩:=F.uni k3
   have hx:b=b'↔Cq9.length+q=p:=by
    have:=(k6 q sl e n hb).1;change s.tmps.getD sl undef=_ at z;rw[z]at this;simpa using this
   by_cases a2:b=b'
   .have:=(k6 q sl e n hb).2<|hx.1 a2;subst a2 this;exact⟨b,z,u3,⟨_,_,_,k2 _ _ _ F k4,u5⟩,⟨_,k5⟩,λ_=>k5⟩
   .have hn:b∉[b']:=by simpa using a2
    exact⟨b,z,u3,⟨_,_,_,k2 _ _ _ F k4,u5⟩,⟨f,R.row u6 hn⟩,λh=>R.row (u7 wq) hn⟩
 .intro i d T W p v x x' L hb ht;obtain⟨q,sl,e,n,rfl,hbq,rfl,rfl⟩:=ju a1 W;let⟨b,z,u3,⟨S1,y,Y,F,u5⟩,⟨f,u6⟩,u7⟩:=ht;exact⟨b,z,u3,⟨_,_,_,F.below hb,u5⟩,⟨f,cY u6 hb⟩,λh=>cY (u7 h) hb⟩
 .intro g x L hT _;let⟨S2,A,t,c1,c2,c3⟩:=L;have hl:(Cq9++List.range' (V.length+bx.length) bx.length).length=bx.length+Cq9.length:=by simp[Nat.add_comm]
  rw[hl]at hT c1;rw[hF]at c1;refine hok g x S2 A t c1 c2 c3 λq sl e n hb=>?_
  obtain⟨b,z,u3,⟨S1,y,Y,F,u5⟩, -,u7⟩:=hT _ _ _<|zbj hb;rw[hF]at F;obtain⟨rfl,rfl,rfl⟩:=F.uni c1;have hq:=(Do.1 hb).1;exact⟨b,z,u5,u3,u7 wq⟩
end
section
variable {p2:Nat}
section
variable {id:Nat}
def pF2(F:Fz):Nat->Fz
 |0=>F
 |1=>A1<|db F
 |_=>A1<|db<|A1<|db F
def pF3(F:Fz):Nat->Fz
 |0=>F
 |1=>A1<|db F
 |2=>A1<|db<|A1<|db F
 |_=>A1<|db<|A1<|db<|A1<|db F
def Cz{V o m U z Y d L y:Nat}{a:Act}(h:Fr O H F S X C w)(D:∀u c s x,(db F=none\/db (A1<|db F)=none)->s.defers=a.defers->Kb S w x->Q (.panic [{v:=.iface u c,recovered:=false}]) s x)(R:∀(x:WD)(J:Tl)(sv' mv':VL)(G:Nat)(E:Nat),Fr O H (A1<|db<|A1<|db F) J sv' mv' x->Kb S w x->(∀j∈J,j∈S\/w.heap.size<=j)->G∉J->w.heap.size<=G->eI x G (dV<|db F)->E∉J->w.heap.size<=E->eI x E (dV<|db<|A1<|db F)->Q .normal (dQ a [(V,pt H),(o,pt H),(m,pq H 19),(U,wv<|dV<|db F),(z,pt H),(Y,pt H),(d,pq H 19),(L,wv<|dV<|db<|A1<|db F),(y,pt G),(p1,pt E)]) x)(b:POk O H (pF2 F) w I a [(0,pt H)] [(some V,.v<|pt H),(some o,.v<|pt H),(some m,.v<|pq H 19),(some U,.v<|wv<|dV<|db F),(some z,.v<|pt H),(some Y,.v<|pt H),(some d,.v<|pq H 19),(some L,.v<|wv<|dV<|db<|A1<|db F)] [(y,U,dV<|db F),(p1,L,dV<|db<|A1<|db F)] [3,7] [(257,#[pq H 19]),(257,#[pq H 19])]:=by exact⟨W,⟨N0,R5,R5,N0⟩,W,N0,N0,N0⟩):(Code.region id I true).wp prog Q a w:=by
 refine zaV (pF2 F) (λp=>db<|pF2 F p) h W (λ_=>W) (λp f args i P Z=>?_) (λg x J sv' mv' A k K k4=>?_) b
 .rcases p with _|_|p
  .cases P;cases Z;exact⟨W,⟨_,W⟩,λx _ _ _=>kO x,λe u c s x=>D u c s x<|LZ e⟩
  .cases P;cases Z;exact⟨W,⟨_,W⟩,λx _ _ _=>kO x,λe u c s x=>D u c s x<|A4 e⟩
  cases P
 let⟨G,c1,c2,c3,c4⟩:=k4 0 _ _ _ W;let⟨E,N,d2,T,n⟩:=k4 1 _ _ _ W;have:=R x J _ _ G E A k K c2 c3 c4 d2 T n;rw[<-c1,<-N]at this;exact this
def OU{Y z o V T Z m R y d P D A:Nat}{a:Act}(h:Fr O H F S X C w)(L:∀u c s x,(db F=none\/db (A1<|db F)=none\/db (A1<|db<|A1<|db F)=none)->s.defers=a.defers->Kb S w x->Q (.panic [{v:=.iface u c,recovered:=false}]) s x)(U:∀(x:WD)(E:Tl)(sv' mv':VL)(J:Nat)(G:Nat)(b2:Nat),Fr O H (A1<|db<|A1<|db<|A1<|db F) E sv' mv' x->Kb S w x->(∀j∈E,j∈S\/w.heap.size<=j)->J∉E->w.heap.size<=J->eI x J (dV<|db F)->G∉E->w.heap.size<=G->eI x G (dV<|db<|A1<|db F)->b2∉E->w.heap.size<=b2->eI x b2 (dV<|db<|A1<|db<|A1<|db F)->Q .normal (dQ a [(Y,pt H),(z,pt H),(o,pq H 19),(V,wv<|dV<|db F),(T,pt H),(Z,pt H),(m,pq H 19),(R,wv<|dV<|db<|A1<|db F),(y,pt H),(d,pt H),(P,pq H 19),(D,wv<|dV<|db<|A1<|db<|A1<|db F),(A,pt J),(p1,pt G),(p2,pt b2)]) x)(q:POk O H (pF3 F) w I a [(0,pt H)] [(some Y,.v<|pt H),(some z,.v<|pt H),(some o,.v<|pq H 19),(some V,.v<|wv<|dV<|db F),(some T,.v<|pt H),(some Z,.v<|pt H),(some m,.v<|pq H 19),(some R,.v<|wv<|dV<|db<|A1<|db F),(some y,.v<|pt H),(some d,.v<|pt H),(some P,.v<|pq H 19),(some D,.v<|wv<|dV<|db<|A1<|db<|A1<|db F)] [(A,V,dV<|db F),(p1,R,dV<|db<|A1<|db F),(p2,D,dV<|db<|A1<|db<|A1<|db F)] [3,7,11] [(257,#[pq H 19]),(257,#[pq H 19]),(257,#[pq H 19])]:=by exact⟨W,⟨N0,R5,R5,N0⟩,W,N0,N0,N0⟩):(Code.region id I true).wp prog Q a w:=by
 refine zaV (pF3 F) (λp=>db<|pF3 F p) h W (λ_=>W) (λp f args i l b=>?_) (λg x E sv' mv' K r k k4=>?_) q
 .have hp:db (pF3 F p)=none->p<3->db F=none\/db (A1<|db F)=none\/db (A1<|db<|A1<|db F)=none:=by rcases p with _|_|_|p<;>simp[pF3]<;>grind
  rcases p with _|_|_|p<;>cases l<;>cases b<;>exact⟨W,⟨_,W⟩,λx _ _ _=>kO x,λe u c s x=>L u c s x<|hp e K3⟩
 let⟨J,c1,c2,c3,c4⟩:=k4 0 _ _ _ W;let⟨G,t,d2,N,b⟩:=k4 1 _ _ _ W;let⟨b2,n,c,l,q⟩:=k4 2 _ _ _ W;have:=U x E _ _ J G b2 K r k c2 c3 c4 d2 N b c l q;rw[<-c1,<-t,<-n]at this;exact this
end
def dM(m:Vf)(a b:Nat):Vf:=(m.drop a).take b
def vg{m:Vf}(h:a+b<=m.length):(dM m a b).length=b:=by grind[dM]
def Ag{m:Vf}(h:a+b<=m.length)(hi:i<b):(dM m a b)[i]?=m[a+i]? :=by grind[dM]
def Gk:prog.underlying 5=some (.int .u8):=N0
def BS:prog.underlying 9=some .string:=N0
def PartOf.bD{m:Vf}(h:PartOf C v a b)(J:Bys w O C m)(Y:a+b<=m.length):Rds w v (dM m a b):=by obtain⟨R,c,rfl,I,Z⟩:=h;have D:=vg Y;refine⟨R,c,by rw[D],by rw[D];exact I,λG=>?_⟩;have V:b≠0:=λe=>G (YM.1<|by rw[D,e]);obtain⟨g,len,E,rfl,rfl,_⟩:=Z V;let⟨g2,P,Q,_⟩:=fv J;injection Q with _ U _;subst U;refine⟨g,a,W,(J.lt g W).2,λi V=>?_⟩;rw[D]at V;rw[XX J (a+i) wq,Xu];have L:=Ag Y V;rw[iN (by rw[D];exact V)]at L;rw[<-L];rfl
def Rds.bJ{l:Vf}(h:Rds w v l):(convert 26 9 v).run prog w=.ok (.string ⟨l.toArray⟩) w:=by
 obtain⟨G,E,rfl,_,I⟩:=h;have J:strOfNums (l.map λb=>b.toNat)=⟨l.toArray⟩:=by
  unfold strOfNums;rw[Zd];congr 2;conv=>rhs;rw[<-List.map_id l]
  refine Zh λb _=>?_;simp
 by_cases J:l=[]
 .subst J;cases G with
  |none=>exact run_convert_bytes_nil w 26 5 tb Gk _ _ 9 BS
  |some G=>rw[run_convert_bytes_string w 26 9 5 _ _ _ tb Gk BS,Y5,run_bytesToString w G 0 _ []<|rfl];rfl
 obtain⟨g,o,rfl,_,D⟩:=I J;have h:=run_convert_bytes_arg w 26 5 tb Gk g o l.length E (l.map λb=>b.toNat) K2 (λi J=>by rw[D i J,If,Xu,iN J];rfl) 9 BS;grind
def xC(F:Fz)(X C:VL):(λi=>if i=24 then .bool true else F.cell X C i)=({F with aG:=true}:Fz).cell X C:=by
 funext i;by_cases h:i=24
 .subst h;rfl
 simp only[Fz.cell,iF h]
def El(F:Fz)(o:BA):(λi=>if i=26 then .string o else F.cell X C i)=({F with aa:=o}:Fz).cell X C:=by
 funext i;by_cases h:i=26
 .subst h;rfl
 simp only[Fz.cell,iF h]
def D9(F:Fz)(n:Nat):(λi=>if i=25 then iB (n:Int)else F.cell X C i)=({F with aE:=n}:Fz).cell X C:=by
 funext i;by_cases h:i=25
 .subst h;rfl
 simp only[Fz.cell,iF h]
def sV(J:Nat)(F:Fz):Option (Unit×Fz):=
 if J=0 then some ((),{F with aG:=true})else match db {F with aG:=true}with
  |none=>none
  |some (p,F1)=>match db F1 with
   |none=>none
   |some (n,F2)=>match dC p n F2 with
    |none=>none
    |some ((a,b),F3)=>some ((),if J=253 then{F3 with aa:=⟨(dM F3.mem a b).toArray⟩,aE:=1}else{F3 with aa:=⟨(dM F3.mem a b).toArray⟩})
def Gh(w:WD)(h:Fr O H F S X C w):cP 245 #[pt H,iB 0] w (gC (sV 0 F) dR O H S w):=by
 have D:=h.row.cell (i:=24) K3;have G:=h.row.frozen 24;rw[show F.cell X C 24=.bool _ from W]at D;have E:=cV<|h.bt 24 _ (xC F X C) W W W W h.aN;go_enter func245,ntmps245;go_wp2;first|go_end0|refine sp (ZW W _ _ _) W ?_
 exact⟨W,E⟩
def endG(J:Nat)(F0:Fz):Option (Unit×Fz):=match db F0 with
 |none=>none
 |some (p,F1)=>match db F1 with
  |none=>none
  |some (n,F2)=>match dC p n F2 with
   |none=>none
   |some ((a,b),F3)=>some ((),if J=253 then{F3 with aa:=⟨(dM F3.mem a b).toArray⟩,aE:=1}else{F3 with aa:=⟨(dM F3.mem a b).toArray⟩})
def Lf(J:Nat)(ho:J=243\/J=253)(w:WD)(h:Fr O H F S X C w):
  Calls prog 245 #[pt H,.int .u8 (J:Int)] w (gC (sV J F) dR O H S w):=by
 have hc:=h.row.cell (i:=24) K3;have hz:=h.row.frozen 24;rw[show F.cell X C 24=.bool _ from W]at hc;have d0:((J:Int)==0)=false:=K9
 obtain⟨S1,sv1,mv1,T,A,z⟩:=h.bt 24 _ (xC F X C) W W W W h.aN;have HF1:=cV T;have Y:=cV A;have V:=cV z;have HO:=cV ho;obtain⟨R,P⟩:=dP<|sV J F;rw[<-P.aa];replace P:Hd (R=endG J {F with aG:=true}):=by rw[P.aa];unfold sV;rw[AQ];rfl
 generalize({F with aG:=true}:Fz)=F0 at*;clear ho T A z h;go_enter func245,ntmps245;go_wp2;refine Cz HF1.aa ?_ ?_
 .intro u pv s x y hd hk
  obtain rfl:R=none:=by
   rw[P.aa];unfold endG;cases l:db F0 with
   |none=>rfl
   |some r1=>
    rw[l]at y;exact(show _=none by rcases y with e|e;cases e;dsimp only;rw[show db r1.2=none from e])
  exact⟨hd,⟨_,_,W⟩,Y.aa.trans hk V.aa⟩
 .intro x S' sv' mv' b0 b1 D o U hn0 hg0 Q k hg1 I;unfold endG at P;rcases l:db F0 with _|⟨p,g⟩
  .rw[l]at D;exact absurd D<|λh=>rM h
  rw[l]at D Q I P;replace D:Fr _ H (A1<|db g) S' _ _ x:=D;replace I:eI x b1 (dV<|db g):=I;replace Q:eI x b0 p:=Q;simp only[n8,Act.put,show dV (some (p,g))=p from W,show A1 (some (p,g))=g from W];rcases q:db g with _|⟨n,K⟩
  .rw[q]at D;exact absurd D<|λh=>rM h
  dsimp only at P;rw[q]at D I P;replace D:Fr _ H K S' _ _ x:=D;replace I:eI x b1 n:=I;simp only[show dV (some (n,K))=n from W];have HPA:=cV<|nC p n x D;have HM:=cV D.aT;obtain⟨c0,c1,c2,c3⟩:=cW Q;obtain⟨e0,e1,e2,e3⟩:=cW I;have d:=cV<|Y.aa.trans o V.aa;have Z:Hd (∀j∈S',j∈S\/w.heap.size<=j):=λj hj=>(U j hj).elim (V.aa j)<|λh=>A4<|By Y.aa.size h
  replace P:Hd (R=match dC p n K with|none=>none|some ((a,b),G)=>some ((),if J=253 then{G with aa:=⟨(dM G.mem a b).toArray⟩,aE:=1}else{G with aa:=⟨(dM G.mem a b).toArray⟩})):=P;clear l q D o U Q I hn0 k hg0 hg1;go_wp2_with fail
  refine HPA.aa.mono ?_;rcases r:dC p n K with _|⟨⟨a,b⟩,G⟩
  .rintro e N ⟨⟨u,pv,rfl⟩,hk⟩;obtain rfl:R=none:=by rw[P.aa,r]
   exact⟨W,⟨_,_,W⟩,d.aa.trans hk Z.aa⟩
  rintro e N⟨v,S2,sv2,mv2,rfl,E,hk2,t,f⟩;rw[r]at P;have HLE:=cV<|iC r HM.aa;have hcv:=(f.bD E.me HLE.aa).bJ;have ho2:=E.row.cell (i:=26) K3;rw[show G.cell _ _ 26=.string _ from W]at ho2;have hz2:=E.row.frozen 26;have hk:=d.aa.trans hk2 Z.aa;have hs:∀j∈S2,j∈S\/w.heap.size<=j:=λj hj=>(t j hj).elim (Z.aa j)<|λh=>A4<|By d.aa.size h
  rcases HO.aa with rfl|rfl
  .obtain rfl:R=some ((),{G with aa:=⟨(dM G.mem a b).toArray⟩}):=by rw[P.aa];rfl
   have HT:=cV<|To.pre hk hs<|E.bt 26 (.string ⟨(dM G.mem a b).toArray⟩) (El G _) W W W W E.aN;generalize dM G.mem a b=L at*;obtain⟨adv,cv,rfl,_⟩:=f;go_wp2
   first|go_end0|refine sp (ZW W _ _ _) W ?_
   exact⟨W,HT.aa⟩
  .obtain rfl:R=some ((),{G with aa:=⟨(dM G.mem a b).toArray⟩,aE:=1}):=by rw[P.aa];rfl
   have c:=E.row.cell (i:=25) K3;rw[show G.cell _ _ 25=.int _ _ from W]at c;have hz3:=E.row.frozen 25;have h5:=(E.row.set 26<|.string ⟨(dM G.mem a b).toArray⟩).set 25<|.int .u8 1
   have m:To O H {G with aa:=⟨(dM G.mem a b).toArray⟩,aE:=1} S2 N ((N.setCell ⟨H,26,none⟩<|.string ⟨(dM G.mem a b).toArray⟩).setCell ⟨H,25,none⟩<|.int .u8 1):=by
    refine E.aD W W W W E.aN ?_<|((Kb.refl _ N).setCell AI _).setCell AI _;rw[<-D9 {G with aa:=⟨(dM _ a b).toArray⟩} 1,<-El G];exact h5
   have HT:=cV<|To.pre hk hs m;clear h5 m;generalize dM G.mem a b=L at*;obtain⟨adv,cv,rfl,_⟩:=f;go_wp2
   first|go_end0|refine sp (ZW W _ _ _) W ?_
   exact⟨W,HT.aa⟩
def upN(p n:Nat):Nat:=if p%M<=n then p%M else 0
def LQ(p n:Nat):Bool:=decide (p%M<=n)
def LX:pz 284:=λ_ _=>N0
def wX:pz 275:=λ_ _=>N0
def QB(hn:n<9223372036854775808):cP 284 #[wv p,iI (n:Int)] w (rT (.tuple #[iI ((upN p n:Nat):Int),.bool<|LQ p n]) w):=by
 unfold upN LQ;by_cases h:p%M<=n
 .rw[At h,OsQ h];exact(nu p n hn h w).mono λe I⟨m,E,D,G⟩=>⟨by rw[D,E.aa],G⟩
 rw[iF h,W8 h];grind[oh]
def Pr(k:Nat)(r:Option<|(Nat×Nat)×Fz):Kn:=λc _ v _=>k<=c.1/\(∃ad cp,v=.slice ad (match r with
 |some (x,_)=>x.2
 |none=>0) cp)/\(c.1=k->match r with
 |some (x,_)=>PartOf c.2 v x.1 x.2
 |none=>False)
def mn{r:Option<|(Nat×Nat)×Fz}:jU (Pr k r):=lq λc E S I v x G h D _ _=>by
 rcases D with rfl|D
 .exact h
 exact⟨By h.1<|Nat.le_of_lt D,h.2.1,λe=>absurd h.1 wq⟩
def IJ{u:VL}{E:Vr}(he:tG s t<|.tuple #[u,v])(D:K (Wb s d u) x):Oper.wp prog ⟨some d,.extract (.tmp t) 0,E,pos,af,gd⟩ s x K Q:=by go_simp;exact D
def I0{u:VL}{E:Vr}(he:tG s t<|.tuple #[u,v])(D:K (Wb s d v) x):Oper.wp prog ⟨some d,.extract (.tmp t) 1,E,pos,af,gd⟩ s x K Q:=by go_simp;exact D
abbrev ptr(p:Nat):VL:=pt p
def Q8{f:Nat}{P:Array Operand}{A:Array Vr}{l:Vr}{r:Option<|(Nat×Nat)×Fz}(h:pz f)(U:#[]++P.map s.eval++#[]=vs)(V:cP f vs x<|MO r O H S x)(J:∀u c D,r=none->Kb S x D->Q (.panic [{v:=.iface u c,recovered:=false}]) s D)(Z:∀y v L R I E D,r=some (y,L)->Fr O H L R I E D->Kb S x D->(∀j∈R,j∈S\/x.heap.size<=j)->PartOf E v y.1 y.2->K (Wb s d v) D):Oper.wp prog ⟨some d,.call ⟨.value<|.func f,P,A⟩,l,pos,af,gd⟩ s x K Q:=by
 refine xo h U V λe D G=>?_;unfold MO at G;split at G
 .grind
 obtain⟨⟨u,c,rfl⟩,Y⟩:=G;grind
def Bd(F:Fz):=F.mem.length%32≠0
def pS:Bd badF:=by grind[Bd,badF]
theorem gG(D:Bd F)(h:Fr O H F S X C w):False:=D h.aT
def lO(h:Bd F):Bd (A1<|db F):=by
 unfold db;split
 .exact pS
 exact h
def sR(h:Bd F):Bd (A1<|dB n F):=by
 unfold dB;split
 .exact pS
 exact h
def UO(h:Bd F):Bd (A1<|jH n F):=by
 unfold jH;split
 .exact h
 split
 .exact pS
 rename_i D;show(_++_:Vf).length%32≠0;unfold Bd at h;rw[Xm,Yl,(wY D).1];omega
def Pg(h:Bd F):Bd (A1<|dC p n F):=by
 unfold dC;split
 .exact h
 split
 .have D:=UO (n:=dw<|p%M+n%M) h;split
  .exact pS
  rename_i e;rwa[e]at D
 exact pS
def dX{α β:Type}(r:Option<|α×Fz)(k:Option<|β×Fz):Option (β×Fz):=match r with
 |none=>none
 |some _=>k
theorem dE{α β:Type}{r:Option<|α×Fz}{k:Option<|β×Fz}(h:r=none\/k=none):dX r k=none:=by
 cases r with
 |none=>rfl
 |some y=>exact h.resolve_left K2
theorem ed{α β:Type}{r:Option<|α×Fz}{k:Option<|β×Fz}(h:r≠none):dX r k=k:=by
 cases r with
 |none=>grind
 |some y=>rfl
def eD{α:Type}{r:Option<|α×Fz}(h:r=none):Bd (A1 r):=by rw[h];exact pS
def ou{r:Option<|Unit×Fz}(h:r≠none):r=some ((),A1 r):=by
 cases r with
 |none=>grind
 |some y=>rfl
def qZ(r:Option<|(Nat×Nat)×Fz):Vf:=match r with
 |some ((a,b),F)=>dM F.mem a b
 |none=>[]
theorem tT(h:dC p n F=some ((a,b),F1)):b=n%M:=by grind[dC]
def Mm:(qZ<|dC p n F).length<=n%M:=by grind[dC,qZ,dM]
def Pr.bD{r:Option<|(Nat×Nat)×Fz}{x:WD}(h:Pr k r (k,C) S v x)(j:Fr O H (A1 r) S X C x):Rds x v (qZ r):=by
 let⟨_,_,J⟩:=h;have J:=J W;cases r with
 |none=>grind
 |some y=>
  let⟨⟨a,b⟩,F1⟩:=y;have I:PartOf C v a b:=J;have D:Fr _ H F1 S X C x:=j;by_cases j:b=0
  .subst j;obtain⟨P,c,rfl,V,_⟩:=I;exact⟨P,c,W,V,λG=>absurd R5 G⟩
  refine I.bD D.me ?_;let⟨P,c,_,_,U⟩:=I;let⟨g,len,E,f,_,Z⟩:=U j;let⟨R,L,Y⟩:=dt D.me;grind
def Fr.bP(h:Fr O H F S X C x){m:Vf}(V:m.length=F.mem.length)(U:Kb C.ownBlock.toList x x')(J:Bys x' O C m):Fr O H {F with mem:=m} S X C x':=by
 have D:∀k∈C.ownBlock.toList,k∈S:=λk U=>by rw[h.aH];grind
 refine⟨?_,U.aD h.st<|λk I E=>h.ms k I<|IN _ E,J,h.aH,h.aV,by show m.length<=_;rw[V];exact h.bv,h.aN,By h.hb U.size,sA h.zr U (λP=>h.bu<|D 0 P) h.hs,h.aA,h.bg,by show m.length%32=0;rw[V];exact h.aT,h.jr.kb U<|λg N f V L=>h.bO g N f V<|D g L⟩;have V:=U.row h.row<|λE=>h.fm H K9 W;have e:F.cell X C=({F with mem:=m}).cell X C:=R5
 grind
def yV{α β:Type}(f:α->β)(L:List α)(o:Nat)(l:List α):(splice L o l).map f=splice (L.map f) o (l.map f):=by simp_all[splice]
def vy{α:Type}{L:List α}{l:List α}(h:o+l.length<=n)(hn:n<=L.length):(splice L o l).take n=splice (L.take n) o l:=by unfold splice;rw[List.take_take,Zg wq,List.take_append,List.take_append,XB,Zg wq,XA K9,XA (l:=l) wq,List.drop_take];grind
def oS{α:Type}(L:List α)(o:Nat):splice L o []=L:=by unfold splice;simp
def yU{u:VL}{L:Vf}(N:Fr O H F S X C x)(i:PartOf C v a b)(w:Rds x u L)(l:L.length=b)(ty:Vr):∃x',(Builtin.copy_ #[26,26] ty #[v,u]).run prog x=.ok (goInt b) x'/\Fr O H {F with mem:=splice F.mem a L} S X C x'/\Kb S x x':=by
 obtain⟨m,c,rfl,Y,i⟩:=i;obtain⟨Z,c2,rfl,z,w⟩:=w;by_cases r:b=0
 .subst r;cases(Yo l:L=[]);refine⟨x,run_copy_none x _ _ ty 5 m _ 0 c _ c2 tb Jv K2,?_,Kb.refl _ _⟩;rwa[oS]
 obtain⟨g,len,E,rfl,rfl,D⟩:=i r;obtain⟨g2,V,rfl,h,f⟩:=w (λe=>r (by rw[<-l,e];rfl));rcases N.me with⟨hxl,⟨I,_⟩|⟨g',cap',T,I,h2,h3,h4,h5,h6,h7⟩⟩
 .grind
 injection I with I y A;injection I with I;injection I with I;subst I y A;have J:=run_copy_row (P:=prog) x 26 26 ty 5 g a b c _ L.length c2 _ 5 _ tb Jv h3 (by rw[XH,l];exact(Nat.min_self b).symm) (λj v U=>by
  have R:j<L.length:=by have:=(Do.1 U).1;rwa[XH]at this
  rw[Xu,iN R]at U;rw[(show(⟨g2,V,none⟩:Addr).add j=⟨g2,V+j,none⟩ by simp[Addr.add,qag]),f j R];exact U) (by rw[XH,h6];omega)<|qR L
 rw[XH,l]at J;rw[l];refine⟨_,J,?_,?_⟩
 .refine N.bP (length_splice _ _ _ (by rw[l];exact D)) ((Kb.refl _ x).setRow (LZ<|by simp[Value.ownBlock]) _) ?_;refine⟨by rw[XH];omega,A4 ⟨g,_,_,?_,h2,qab x g _ _ _ _ h3,?_,h5,?_,?_⟩⟩
  .rw[length_splice _ _ _ (by rw[l];exact D)]
  .rw[length_splice _ _ _ (by rw[l];exact D)];exact h4
  .show(_:Tn).length=_;rw[Xm,Xm,XB,X8,XH,l,(by rw[<-h6];rfl:T.toList.length=E*1)];omega
  rw[length_splice _ _ _ (by rw[l];exact D),yV,<-h7];have e:∀(q:List _),q=splice T.toList a (L.map lJ)->q.take (F.mem.length*1)=splice _ a _:=λq hq=>by rw[hq];exact vy (by rw[XH];omega) N3
  refine e _ ?_;unfold splice;rw[XH,l,XL]
 refine(Kb.refl _ x).setRow (LZ ?_) _;rw[N.aH];exact IN _<|Xn _<|by simp[Value.ownBlock]
def Jm{g:U6}{T I L:Vr}{z r:VL}(J:tG s t v)(hz:tG s u z)(P:(Builtin.copy_ #[T,I] L #[v,z]).run prog x=.ok r x')(h:K (Wb s d r) x'):Oper.wp prog ⟨some d,.call ⟨.builtin .copy,#[.tmp t,.tmp u],#[T,I]⟩,L,pos,af,g⟩ s x K Q:=by have E:s.eval (.tmp t)=v:=J;have D:s.eval (.tmp u)=z:=hz;unfold Oper.wp execOp;simp only[resolve,invoke,builtin,ZU,ZV,Y2,List.map_toArray,List.map_cons,List.map_nil,E,D,P];exact h
def AnyV:Kn:=λ_ _ _ _=>True
def mH:jU AnyV:=lq λ_ _ _ _ _ _ _ h _ _ _=>h
def kN(r:Option<|(Nat×Nat)×Fz)(L:Vf):Fz:=match r with
 |some ((a,_),F)=>{F with mem:=splice F.mem a L}
 |none=>badF
def Pr.copy{u:VL}{L:Vf}(h:Pr k (dC p n G) (k,C) S v x)(U:Fr O H (A1<|dC p n G) S X C x)(Z:Rds x u L)(V:L.length=n%M)(V:Vr):∃y x',(Builtin.copy_ #[26,26] V #[v,u]).run prog x=.ok y x'/\Fr O H (kN (dC p n G) L) S X C x'/\Kb S x x':=by
 let⟨_,_,D⟩:=h;have D:=D W;cases Y:dC p n G with
 |none=>grind
 |some y=>let⟨⟨a,b⟩,I⟩:=y;rw[Y]at D U;let⟨x',J,P,E⟩:=yU (F:=I) U (D:PartOf C v a b) Z (by grind[tT]) V;exact⟨_,x',J,P,E⟩
def xA(n:Nat):UInt8:=UInt8.ofNat<|n%256
def LG(n:Nat):IntKind.u8.wrap (cX n 0)=((xA n).toNat:Int):=by simp_all[xA,cX,IntKind.wrap,IntKind.signed,IntKind.bits]
def MK{I:Vr}(he:tG s t<|lu n 0)(D:K (Wb s d<|lJ<|xA n) x):Oper.wp prog ⟨some d,.convert 22 5<|.tmp t,I,pos,af,gd⟩ s x K Q:=by have I:=LG n;unfold lJ at D;go_simp;exact D
def Rl{len D:Nat}{J:Vr}(he:tG s t<|.slice (some ⟨D,a,none⟩) len E)(L:0<len)(I:K (Wb s d<|pq D a) x):Oper.wp prog ⟨some d,.indexAddr 26 (.tmp t)<|.const<|iI 0,J,pos,af,gd⟩ s x K Q:=by go_simp;exact I
def KW{P:Vr}{D:Addr}{b:UInt8}(he:tG s t<|.pointer<|some D)(J:tG s u<|lJ b)(L:x.cell? D=some v0)(hz:x.frozen? D=false)(I:K (s.put none undef)<|x.setCell D<|lJ b):Oper.wp prog ⟨none,.store 5 (.tmp t)<|.tmp u,P,pos,af,gd⟩ s x K Q:=by unfold lJ at I J;go_simp;exact I
def PrA(k:Nat)(r:Option<|(Nat×Nat)×Fz):Kn:=λc _ v _=>k<=c.1/\(c.1=k->match r with
 |some (y,_)=>∃g len E:Nat,c.2=.slice (some ⟨g,0,none⟩) len E/\v=pq g (y.1)/\y.1+1<=len
 |none=>False)
def oQ{r:Option<|(Nat×Nat)×Fz}:jU (PrA k r):=lq λc J S I v x L h D _ _=>by
 rcases D with rfl|D
 .exact h
 exact⟨By h.1<|Nat.le_of_lt D,λe=>absurd h.1 wq⟩
def Pr.first{x:WD}(h:Pr k (dC p n G) (k,C) S v x)(hn:n%M≠0):∃g a len E,v=.slice (some ⟨g,a,none⟩) len E/\0<len/\PrA (k+1) (dC p n G) (k+1,C) S (pq g a) x:=by
 let⟨_,_,D⟩:=h;have D:=D W;cases V:dC p n G with
 |none=>grind
 |some y=>
  let⟨⟨a,b⟩,U⟩:=y;rw[V]at D;obtain⟨R,c,rfl,I,J⟩:=(D:PartOf C v a b)
  have Y:b≠0:=by rw[tT V];exact hn
  obtain⟨g,len,E,L,rfl,P⟩:=J Y;exact⟨g,a,b,c,W,wq,DO _,λ_=>⟨g,_,_,L,W,wq⟩⟩
def Hf{α:Type}{L:List α}{y:α}(h:a<L.length):splice L a [y]=L.set a y:=by unfold splice;rw[List.set_eq_take_append_cons_drop,At h];rfl
def PrA.write{x:WD}{b:UInt8}(h:PrA k (dC p n G) (k,C) S v x)(l:Fr O H (A1<|dC p n G) S X C x):∃(J:Addr)(v0:VL),v=.pointer (some J)/\x.cell? J=some v0/\x.frozen? J=false/\Fr O H (kN (dC p n G) [b]) S X C (x.setCell J<|lJ b)/\Kb S x (x.setCell J<|lJ b):=by
 let⟨_,P⟩:=h;have P:=P W;cases m:dC p n G with
 |none=>grind
 |some y=>let⟨⟨a,c⟩,L⟩:=y;rw[m]at P l;obtain⟨g,len,E,R,rfl,U⟩:=P;have R:C=.slice _ _ _:=R;subst R;have D:Fr _ H L S X _ x:=l;let⟨Z,V,f⟩:=dt D.me;injection f with _ j _;subst j;have U:a+1<=L.mem.length:=U;have Y:=XX D.me a wq;rw[Xu,iN wq]at Y;have I:=(World.ownsRow.stored D.me a<|lJ b).1;refine⟨_,_,W,Y,World.ownsRow.frozenAt D.me a,?_,(Kb.refl _ x).setCell (LZ (by rw[D.aH];exact IN _ (Xn _<|by simp[Value.ownBlock]):g∈S)) _⟩;show Fr O H {L with mem:=splice L.mem a [b]} S X _ _;rw[Hf wq];refine D.bP K2 ((Kb.refl _ x).setCell (LZ<|by simp[Value.ownBlock]) _) ?_;rw[<-List.map_set]at I;unfold Bys;rwa[XE]
def A9{f:Nat}{R:Array Operand}{A:Array Vr}{q:Vr}{r:Option<|(Nat×Nat)×Fz}(b:pz f)(T:#[]++R.map s.eval++#[]=vs)(F:cP f vs x<|MO r O H S x)(X:F2=A1 r)(D:r=none->∀u c C,Kb S x C->Q (.panic [{v:=.iface u c,recovered:=false}]) s C)(m:∀v J L E C,Fr O H F2 J L E C->Kb S x C->(∀j∈J,j∈S\/x.heap.size<=j)->(some d=none->v=undef)->(Ek.l<|Pr p r).kn (p,E) J v C->K (Wb s d v) C):Oper.wp prog ⟨some d,.call ⟨.value<|.func f,R,A⟩,q,pos,af,gd⟩ s x K Q:=Q8 b T F (λu c C b q=>D b u c C q) λy v N S2 I G C b h U z Y=>m _ S2 I G C (by rw[X,b];exact h) U z nn1 (by let⟨Z,V,P,o⟩:=Y;rw[b];exact⟨DO _,⟨_,_,P⟩,λ_=>⟨_,_,P,o⟩⟩)
def BJ{a:Act}(w:WD){A:Nat}{La:Vf}(Z:∀x,Kb S w x->Rds x (sL A 32 32) La)(m:La.length=32%M){b U:Nat}(y:eI w b<|U)(Y:b∉S)(h:Fr O H F S X C w)(T:([15,16,17,18,19,20]:Tl).all (λd=>decide (d<a.tmps.size))=true)(c2:tG a 2<|pt b)(c4:tG a 4<|pt A)(c:tG a 0<|pt H)(P:∀u b s x,(dC (U) (32) (F)=none)->s.defers=a.defers->Kb S w x->Q (.panic [{v:=.iface u b,recovered:=false}]) s x)(N:∀(x:WD)(L:Tl)(sv' mv':VL)(z3:VL)(z5:VL),Fr O H (kN (dC (U) (32)<|F) La) L sv' mv' x->Kb S w x->(∀j∈L,j∈S\/w.heap.size<=j)->(Pr 1<|dC (U) (32)<|F) (2,mv') L z3 x->(AnyV) (2,mv') L z5 x->Q .normal (dQ a [(15,pt H),(16,wv<|U),(17,wv<|32),(18,z3),(19,sL A 32 32),(20,z5)]) x):(ym f266 2).wp prog Q a w:=by
 exact fG (λk=>match k with|0=>F|1=>A1 _|_=>kN _ La) h [(2,.pointer _),(4,.pointer _),(0,.pointer _)] [(some 15,.v _),(some 16,.v _),(some 17,.v _),(some 18,.l _),(some 19,.v _),(some 20,.l _)] [3,5] [1,2] (ha:=⟨N0,T,(eR c2<|eR c4<|eR c W),N0⟩) (aIn (sk<|mn)<|aIn (sk mH) AF)
  ⟨(λs x S1 f R G D E V J c K I=>A9 wX (PE (J 15 _ W) (J 16 _ W)<|J 17 _ W) (nC _ _ x G) W (λp u b z q=>P u b s z p V<|D.trans q E) I),(λs x S1 f R G D E V J c K I=>by obtain⟨b,t,b,n,o⟩:=Pr.copy (c 18 _ W) G (Z x D) m 3;exact Jm W (J 19 _ W) b<|I _ S1 _ _ t n o (λj i=>LZ i) nn1 AF),AF⟩
  ⟨(@λs x k S1 f R D b c K G J I=>eo 2 16 (J W) (D.row y Y)<|kc I),(λ_ _ I=>eK qJ (za W) (fT (32) wq _)<|λe z o=>⟨_,o.1,I _ z o.2 nn1 W⟩),AF⟩
  λg x L sv' mv' G D E b=>N x L _ _ _ _ G D E (b 3 _ _ W)<|b 5 _ _ W
abbrev eb(F:Fz):Fz:=A1<|db<|A1<|db F
abbrev eP(F:Fz):Nat:=dV<|db F
abbrev eV(F:Fz):Nat:=dV<|db<|A1<|db F
def hE(F:Fz):Option (Unit×Fz):=dX (db F)<|dX (db<|A1<|db F)<|dX (dC (eP F) 32<|eb F)<|some ((),kN (dC (eP F) 32<|eb F)<|qc (eV F) 0)
def Ll{g:U6}{E:Vr}(D:K (Wb s d<|pt x.heap.size)<|x.alloc<|.cells (gA 32<|vB λ_=>0).toArray 298):Oper.wp prog ⟨some d,.alloc 298,E,pos,af,g⟩ s x K Q:=by go_simp;exact D
def Hi(w:WD):(w.alloc<|.cells (gA 32<|vB λ_=>0).toArray 298).rowIs w.heap.size 298 32 (vB λ_=>0):=by have h:=World.rowIs_alloc w (gA 32<|vB λ_=>0).toArray 298 (vB λ_=>0) (λi D=>by grind[gA]);grind[gA]
def Da(w:WD)(h:Fr O H F S X C w):cP 266 #[pt H] w (gC (hE F) dR O H S w):=by
 go_enter func266,ntmps266;go_wp2;refine Cz h ?_ ?_
 .intro u pv s x J hd hk;have e:hE F=none:=by
   rcases J with e|e
   .exact dE (LZ e)
   exact dE<|A4<|dE<|LZ e
  rw[e];exact⟨hd,⟨_,_,W⟩,hk⟩
 intro x l b N r v E n z t a f a a o;have e:hE F=dX _ _:=(ed λe=>gG (lO<|eD e) E).trans<|ed λe=>gG (eD e) E;have HE:=cV e;clear e;change Fr O H (eb F) l b N x at E;change eI x r (eP F)at f;change eI x v (eV F)at o;simp only[n8];generalize eb F=b at*;generalize eP F=p at*;generalize eV F=q at*;generalize hE F=R at*;have Z:=cV E;have U:=cV n;have P:=cV z;have T:=cV f;let⟨b,c1,c2,c3⟩:=cW o;go_wp2_with fail
 refine((cV<|vC q).aa _).mono ?_;rintro e V⟨rfl,b⟩;rename_i l l r r;refine r _ _ ?_;refine Z6 W λr r=>Ll<|r _ _ ?_;have I:=Hi V;refine Z6 W λr k4=>Aa 4 14 (λw=>N0) R5 (qR _) W W I<|k4 _ _ ?_;refine wpList_nil ?_;refine l _ _ ?_;have D:Below _ x ((V.alloc<|.cells (gA 32<|vB λ_=>0).toArray 298).setRow _ ((qc q 0).map lJ).toArray):=below_setRow (ai b _) b.size _;have L:((V.alloc<|.cells (gA 32<|vB λ_=>0).toArray 298).setRow V.heap.size ((qc q 0).map lJ).toArray).heap[V.heap.size]?=some (.cells ((qc q 0).map lJ).toArray 298 (0,0)):=by let⟨c,l,_⟩:=I;grind[qab]
 have l:=b.size;generalize V.heap.size=b at*;generalize(V.alloc<|.cells (gA 32<|vB λ_=>0).toArray 298).setRow b ((qc q 0).map lJ).toArray=x2 at*;refine BJ (La:=qc q 0) x2 ?_ R5 (cY T D) t (Z.below D) W W W W ?_ ?_
 .intro y hy;refine⟨_,32,R5,by simp[qc],λ_=>⟨b,0,W,?_,λi l=>?_⟩⟩
  .exact Xg (qaa L) hy.size
  rw[Xc<|hy.block b (qaa L) (λr=>by have:=Z.aa.aU b r;omega),XF];simp only[World.cell?,L];simp[l]
 .intro u pv s y J hd hk;rw[HE.aa.trans<|dE<|LZ J];exact⟨hd,⟨_,_,W⟩,(U.trans ((Kb.h D).trans hk<|λj A=>LZ A) P)⟩
 intro y S2 b b z3 z5 G Y g k b;have m:=(Kb.h D).trans Y<|λj A=>LZ A;have l:Hd (gC R dR O H S w AG y):=by rw[HE.aa.trans (ed λe=>by rw[e]at G;exact gG pS G)];exact⟨W,S2,_,_,G,U.trans m P,λj A=>(g j A).elim (P j)<|λh=>A4<|By U.size<|By D.size h⟩
 clear G Y g k b m;simp only[n8];go_wp2;go_end0;exact l
def Cj{a:Act}(w:WD){c U:Nat}(z:eI w c<|U)(o:c∉S){p m:Nat}(n:eI w p<|m)(f:p∉S)(h:Fr O H F S X C w)(N:([12,13,14,15,16,17,18,19]:Tl).all (λd=>decide (d<a.tmps.size))=true)(c2:tG a 2<|pt c)(c3:tG a 3<|pt p)(r:tG a 0<|pt H)(Z:∀u c s x,(dC (U) (1) (F)=none)->s.defers=a.defers->Kb S w x->Q (.panic [{v:=.iface u c,recovered:=false}]) s x)(t:∀(x:WD)(V:Tl)(sv' mv':VL)(z3:VL)(q:VL),Fr O H (kN (dC (U) (1)<|F) [xA<|m]) V sv' mv' x->Kb S w x->(∀j∈V,j∈S\/w.heap.size<=j)->(Pr 1<|dC (U) (1)<|F) (3,mv') V z3 x->(PrA 2<|dC (U) (1)<|F) (3,mv') V q x->Q .normal (dQ a [(12,pt H),(13,wv<|U),(14,wv<|1),(15,z3),(16,pt p),(17,lu (m) 0),(18,lJ<|xA<|m),(19,q)]) x):(ym f267 1).wp prog Q a w:=by
 exact fG (λk=>match k with|0=>F|1=>A1 _|2=>A1 _|_=>kN _ _) h [(2,.pointer _),(3,.pointer _),(0,.pointer _)] [(some 12,.v _),(some 13,.v _),(some 14,.v _),(some 15,.l _),(some 16,.v _),(some 17,.v _),(some 18,.v _),(some 19,.l _),(none,.v _)] [3,7,8] [1,2,5,6] (ha:=⟨N0,N,(eR c2<|eR c3<|eR r W),N0⟩) (aIn (sk<|mn)<|aIn (sk<|oQ) AF)
  ⟨(λs x S1 P L D E G R J q K I=>A9 wX (PE (J 12 _ W) (J 13 _ W)<|J 14 _ W) (nC _ _ x D) W (λy u c T r=>Z u c s T y R<|E.trans r G) I),(λs x S1 P L D E G R J q K I=>by
   obtain⟨c,a9,c,c,A,c,Y⟩:=Pr.first (q 15 _ W) K3
   exact Rl A c<|I _ S1 _ _ x D (Kb.refl _ _) (λj i=>LZ i) nn1 Y),(λs x S1 P L D E G R J q K I=>by
   obtain⟨r,v9,r,h6,A,c,Y⟩:=PrA.write (b:=xA<|m) (q 19 _ W) D;exact KW r (J 18 _ W) h6 A<|I _ S1 _ _ _ c Y (λj i=>LZ i) (λ_=>W) W),AF⟩
  ⟨(@λs x k S1 P L E c q K D J I=>eo 2 13 (J W) (E.row z o)<|kc I),(λ_ _ I=>eK qJ (za W) (fT (1) wq _)<|λe T Y=>⟨_,Y.1,I _ T Y.2 nn1 W⟩),(@λs x k S1 P L E c q K D J I=>dm (J W) (rc (E.row n f) _)<|kc I),(λ_ J I=>MK (J W)<|kc I),AF⟩
  λg x V sv' mv' D E G c=>t x V _ _ _ _ D E G (c 3 _ _ W)<|c 7 _ _ W
def Cr{a:Act}{b E:Nat}(o:eI w b<|E)(P:b∉S)(R:F.ae.size<9223372036854775808)(h:Fr O H F S X C w)(Z:([7,8,9,10,11,12,13,6,14,15,4,5]:Tl).all (λd=>decide (d<a.tmps.size))=true)(c3:tG a 3<|pt b)(b:tG a 0<|pt H)(T:∀u c s x,False->s.defers=a.defers->Kb S w x->Q (.panic [{v:=.iface u c,recovered:=false}]) s x)(p:∀(x:WD)(V:Tl)(sv' mv':VL),Fr O H (F) V sv' mv' x->Kb S w x->(∀j∈V,j∈S\/w.heap.size<=j)->Q .normal (dQ a [(7,wv<|E),(8,pt H),(9,pt H),(10,pq H 1),(11,.string F.ae),(12,iI (F.ae.size:Int)),(13,.tuple #[iI ((upN (E) (F.ae.size):Nat):Int),.bool<|LQ (E)<|F.ae.size]),(6,.tuple #[iI ((upN (E) (F.ae.size):Nat):Int),.bool<|LQ (E)<|F.ae.size]),(14,iI ((upN (E) (F.ae.size):Nat):Int)),(15,.bool<|LQ (E)<|F.ae.size),(4,iI ((upN (E) (F.ae.size):Nat):Int)),(5,.bool<|LQ (E)<|F.ae.size)]) x):(ym f270 1).wp prog Q a w:=by
 have I:∀k:Nat,100000<((λ_:Nat=>F) k).ac\/Same F ((λ_:Nat=>F) k):=by grind[Same.refl]
 exact fG (λ_:Nat=>F) h [(3,.pointer _),(0,.pointer _)] [(some 7,.v _),(some 8,.v _),(some 9,.v _),(some 10,.v _),(some 11,.v _),(some 12,.v _),(some 13,.v _),(some 6,.v _),(some 14,.v _),(some 15,.v _),(some 4,.v _),(some 5,.v _)] [] [0,4,6] (ha:=⟨N0,Z,(eR c3<|eR b W),N0⟩) AF
  True.intro
  ⟨(@λs x k S1 m Y G A b K D J L=>eo 3 7 (J W) (G.row o P)<|kc L),(@λs x k S1 m Y G A b K D J L=>by
    rcases I k with y|f
    .exact absurd D.aN (Nat.not_le.2 y)
    exact dm (J W) ((rc D.row _).trans<|Xl (λz=>some<|Value.string z) f.ae)<|kc L),(λ_ J L=>eK LX (xa (J W)<|J W) (QB R)<|λe b N=>⟨_,N.1,L _ b N.2 nn1 W⟩),AF⟩
  λg x V sv' mv' D G U b=>p x V _ _ D G U
def lV(p:Nat)(F:Fz):Option (Unit×Fz):=if LQ p F.ae.size&&(SY F.ae).getD (p%M) false then some ((),{F with nx:=p%M})else none
def NV(p:Nat)(s:F.ae.size<=100000)(w:WD)(h:Fr O H F S X C w):cP 270 #[pt H,wv p] w (gC (lV p F) dR O H S w):=by
 have o:Hd (F.ae.size<9223372036854775808):=by show _<_;omega
 have b:=W1.start w p;have m:=cV<|h.below b.be;have z:Hd (w.heap.size∉S):=λc=>by have:=h.aU _ c;omega
 have y:=cV b.ra;have L:=cV b.be;unfold lV;cases b:LQ p F.ae.size with
 |false=>show Calls _ _ _ _ (gC none dR O H S w);have f:=cV b;go_enter func270,ntmps270;go_wp2;refine Cr y z o m W W W (λ_ _ _ _ h=>h.elim) ?_;intro x K d U D G I;have A:=cV<|(Kb.h L).trans G<|λj P=>LZ P;rw[f.aa];simp only[n8];go_wp2;exact⟨W,⟨_,_,W⟩,A⟩
 |true=>
  have f:=cV b;have Y:=Xd b;have V:upN p _=p%M:=At Y;let⟨q,n⟩:=dP<|p%M;rw[<-n.aa]at Y V⊢;have Z:=cV V;cases P:(SY F.ae).getD q false with
  |false=>show Calls _ _ _ _ (gC none dR O H S w);go_enter func270,ntmps270;go_wp2;refine Cr y z o m W W W (λ_ _ _ _ h=>h.elim) ?_;intro x K d U D G I;have A:=cV<|(Kb.h L).trans G<|λj P=>LZ P;let⟨g,E,T,J⟩:=D.jr;have R:=D.row.cell (i:=2) K3;rw[show F.cell _ _ 2=F.jd from W,T]at R;have Q:=J.cell (i:=q) wq;rw[P]at Q;rw[f.aa,Z.aa];simp only[n8];go_wp2;exact⟨W,⟨_,_,W⟩,A⟩
  |true=>show Calls _ _ _ _ (gC (some ((),{F with nx:=q})) dR O H S w);go_enter func270,ntmps270;go_wp2;refine Cr y z o m W W W (λ_ _ _ _ h=>h.elim) ?_;intro x K d U D G I;have t:Hd _:=λk b=>(I k b).imp id<|λh=>By L.size h;let⟨g,E,T,J⟩:=D.jr;have R:=D.row.cell (i:=2) K3;rw[show F.cell _ _ 2=F.jd from W,T]at R;have Q:=J.cell (i:=q) wq;rw[P]at Q;have b:x.cell? _=some (.int _ _):=D.row.cell (i:=23) K3;have N:=D.row.frozen 23;have b:=cV<|To.pre (cV<|(Kb.h L).trans G<|λj P=>LZ P).aa t<|D.bt 23 _ (wJ F q) W W W W D.aN;rw[f.aa,Z.aa];simp only[n8];go_wp2;go_end0;exact⟨W,b⟩
def hH(F:Fz):Option (Unit×Fz):=dX (db F)<|dX (db<|A1<|db F)<|dX (dC (eP F) 1<|eb F)<|some ((),kN (dC (eP F) 1<|eb F) [xA<|eV F])
def ES(w:WD)(h:Fr O H F S X C w):cP 267 #[pt H] w (gC (hH F) dR O H S w):=by
 go_enter func267,ntmps267;go_wp2;refine Cz h ?_ ?_
 .intro u pv s x J hd hk;have e:hH F=none:=by
   rcases J with e|e
   .exact dE (LZ e)
   exact dE<|A4<|dE<|LZ e
  rw[e];exact⟨hd,⟨_,_,W⟩,hk⟩
 intro x b f Y z m E G D d N L V T P;have e:hH F=dX _ _:=(ed λe=>gG (lO<|eD e) E).trans<|ed λe=>gG (eD e) E;have HE:=cV e;change Fr O H (eb F) b f Y x at E;change eI x z (eP F)at L;change eI x m (eV F)at P;simp only[n8];generalize eb F=b at*;generalize eP F=p at*;generalize eV F=q at*;generalize hH F=R at*;simp;go_upto_region 1 with fail
 refine Cj x L d P V E W W W W ?_ ?_
 .intro u pv s y J hd hk;rw[HE.aa.trans<|dE<|LZ J];exact⟨hd,⟨_,_,W⟩,G.trans hk D⟩
 intro y S2 A o z3 k I Q U Z g;have K:Hd (gC R dR O H S w AG y):=by rw[HE.aa.trans (ed λe=>by rw[e]at I;exact gG pS I)];exact⟨W,S2,_,_,I,G.trans Q D,λj n=>(U j n).elim (D j)<|λh=>A4<|By G.size h⟩
 clear I Q U Z g E G D L P HE h;simp only[n8];go_wp2;go_end0;exact K
def kL(F:Fz):Option (Unit×Fz):=dX (db F)<|dX (db<|A1<|db F)<|if eV F%M=0 then some ((),eb F)else lV (eP F)<|eb F
def PL(g:F.ae.size<=100000)(w:WD)(h:Fr O H F S X C w):cP 271 #[pt H] w (gC (kL F) dR O H S w):=by
 go_enter func271,ntmps271;go_wp2;refine Cz h ?_ ?_
 .intro u l s x V hd c;have e:kL F=none:=by
   rcases V with e|e
   .exact dE (LZ e)
   exact dE<|A4<|dE<|LZ e
  rw[e];exact⟨hd,⟨_,_,W⟩,c⟩
 intro x T m Y b K D P E t k I N n Q;have e:kL F=if eV F%M=0 then some _ else lV _ _:=(ed λe=>gG (lO<|eD e) D).trans<|ed λe=>gG (eD e) D;have j:100000<(eb F).ac\/Same F (eb F):=fy<|fy<|A4<|Same.refl F;have HE:=cV e;clear e;change Fr O H (eb F) T m Y x at D;change eI x b (eP F)at I;change eI x K (eV F)at Q;have L:(eb F).ae.size<=100000:=by
  rcases j with z|z
  .exact absurd D.aN wq
  rwa[z.ae]
 simp only[n8];generalize eb F=b at*;generalize eP F=p at*;generalize eV F=q at*;generalize kL F=R at*;obtain⟨b,b,b,z3⟩:_/\_/\_/\_:=⟨D.zr 0 wq,D.zr 1 wq,D.zr 2 wq,D.zr 3 wq⟩
 let⟨b,c1,c2,c3⟩:=cW I;obtain⟨b,b,d2,i⟩:=cW Q;have G:=pJ q;by_cases b:q%M=0
 .have d:Hd (gC R dR O H S w AG x):=by rw[HE.aa,At b];exact⟨W,T,_,_,D,P,E⟩
  rw[mw b]at G;go_wp2;go_end0;exact d
 have o:=cV<|NV p L x D;have f:=cV<|HE.trans<|iF b;rw[kV b]at G;have U:=cV P;have J:=cV E;rw[<-f.aa]at o;go_wp2_with fail
 refine o.mono ?_;intro e y A;cases R with
 |none=>obtain⟨⟨u,l,rfl⟩,c⟩:=A;exact⟨W,⟨_,_,W⟩,U.trans c J⟩
 |some r=>
  obtain⟨rfl,Z⟩:=A;have d:Hd (gC (some r) dR _ H S w (.returned<|.tuple _) y):=⟨W,To.pre U J Z⟩
  let⟨⟨⟩,b⟩:=r;unfold dR;go_wp2;go_end0;exact d
def ez(src:BA)(t f n:Nat)(F:Fz):Option (Unit×Fz):=match dC t n F with
 |none=>none
 |some ((a,b),F1)=>if F1.ac<3*dw b then none else some ((),{F1 with ac:=F1.ac-3*dw b,mem:=splice F1.mem a<|dH src (f%M) b})
def vA(t f n:Nat)(hsr:src.size<=100000)(w:WD)(h:Fr O H F S X C w):cP 285 #[pt H,.string src,wv t,wv f,wv n] w (gC (ez src t f n F) dR O H S w):=by
 have q:=W3.start w t f n;have N:=cV<|nC t n _<|h.below q.be;have T:∀k,w.heap.size<=k->k∉S:=λk l hm=>by have:=h.aU k hm;omega
 have P:=cV q.be;have h32:=h.aT;have g:=cV q.rb;let⟨ta,U,tc,td⟩:=cW q.ra;let⟨na,nb,nc,nd⟩:=cW q.rc;have z:=cV T;clear q h T;unfold ez;cases hr:dC t n F with
 |none=>
  rw[hr]at N;go_enter func285,ntmps285;go_wp2_with fail
  refine N.mono ?_;rintro e w1⟨⟨u,pv,rfl⟩,l⟩;exact⟨W,⟨_,_,W⟩,(Kb.h P).trans l<|λi hi=>LZ hi⟩
 |some r=>
  let⟨⟨a,b⟩,G⟩:=r;have HL:=cV<|iC hr h32;rw[hr]at N;let⟨ta,U,tc,td⟩:=cW (W3.start w t f n).ra;let⟨na,nb,nc,nd⟩:=cW (W3.start w t f n).rc;show Calls _ _ _ _ (gC (if G.ac<3*dw b then none else some ((),{G with ac:=G.ac-3*dw b,mem:=splice G.mem a<|dH src (f%M) b})) dR O H S w);generalize hR:(if G.ac<3*dw b then none else some ((),{G with ac:=G.ac-3*dw b,mem:=splice G.mem a<|dH src (f%M) b}):Option<|Unit×Fz)=R;have HR:=cV hR;go_enter func285,ntmps285;go_wp2_with fail
  refine N.mono ?_;rintro e w1⟨v,S1,sv1,mv1,rfl,Z,V,Q,hpo⟩;have L:=(Kb.h P).trans V<|λi hi=>LZ hi;have Y:=V.row g<|z _ wq;have J:w.heap.size+1∉S1:=λhm=>(Q _ hm).elim (z _ wq) (λh=>by have:=Y.lt;have:=g.aa.lt;omega);have hb16:b<=65536:=by have:=HL.aa;have:=Z.bv;omega
  have HST:Hd (∀w,Calls _ _ _ w λe w'=>e=.returned (.int _<|(dw b))/\w'=w):=λw=>mt b wq w;have hsb:dw b<=3000:=by grind[dw]
  have A:=cV<|Wu (3*dw b) wq w1 Z;rw[show((3*dw b:Nat):Int)=3*(dw b) by omega]at A;obtain⟨adv,cv,rfl,I⟩:=hpo;have HPO:Hd (PartOf _ _ a b):=⟨_,cv,W,I⟩
  have d:=cV L;have E:=cV<|λk l=>(Q k l).imp id<|λh=>By P.size h;have m:=cV Y;have s:=cV J;generalize dw b=sb at*;clear Z V Q I L Y J N ta U tc td na nb nc nd;go_wp2_with fail
  refine(HST _).mono ?_;rintro e w2⟨rfl,rfl⟩;go_wp2_with fail
  refine A.mono ?_;intro e w3 D;by_cases c:G.ac<3*sb
  .rw[At c]at D;obtain⟨⟨u,pv,rfl⟩,l⟩:=D;rw[HR.aa.symm.trans<|At c];exact⟨W,⟨_,_,W⟩,d.trans l E⟩
  rw[iF c]at D;obtain⟨rfl,hf3,p⟩:=D;have HRE:=cV<|HR.symm.trans<|iF c;have x:=cV hf3;have HK3:=cV<|d.trans p E;let⟨fa,fc,fd,fe⟩:=cW<|p.row m s;go_wp2_with fail
  refine((cV<|uW f b hsr wq).aa _).mono ?_;rintro e w4⟨u,rfl,hby,K⟩;let⟨y,o,hf5,hk5⟩:=yU (x.below K) HPO hby.bD (jk _ _ _) 3;have HO:Hd (gC R dR O H S w AG y):=by rw[HRE.aa];exact⟨W,S1,_,_,hf5,HK3.trans ((Kb.h K).trans hk5<|λj hj=>LZ hj) E,E⟩
  rename_i K1 k1;refine k1 _ _ ?_;refine Z6 W λK4 k4=>Jm W W o<|k4 _ _ ?_;refine wpList_nil ?_;go_wp2;go_end0;exact HO
abbrev mU(F:Fz):Fz:=A1<|db<|eb F
abbrev pX(F:Fz):Nat:=dV<|db<|eb F
def Kr(F:Fz)(r:Option<|Unit×Fz):Option (Unit×Fz):=dX (db F)<|dX (db<|A1<|db F)<|dX (db<|eb F) r
def wR{r:Option<|Unit×Fz}(h:db F=none\/db (A1<|db F)=none\/db (A1<|db<|A1<|db F)=none):Kr F r=none:=by grind[Kr,dE]
def Gc{r:Option<|Unit×Fz}(h:Fr O H (mU F) S X C w):Kr F r=r:=(ed λe=>gG (lO<|lO<|eD e) h).trans<|(ed λe=>gG (lO<|eD e) h).trans<|ed λe=>gG (eD e) h
def Lx(F:Fz):100000<(mU F).ac\/Same F (mU F):=fy<|fy<|fy<|A4<|Same.refl F
def gi(src:BA)(F:Fz):Option (Unit×Fz):=Kr F<|ez src (eP F) (eV F) (pX F)<|mU F
def sJ(Y:src.size<=100000)(w:WD)(h:Fr O H F S X C w):cP 263 #[pt H,.string src] w (gC (gi src F) dR O H S w):=by
 go_enter func263,ntmps263;go_wp2;refine OU h ?_ ?_
 .intro u l s x Q hd c;have e:gi src F=none:=wR Q;rw[e];exact⟨hd,⟨_,_,W⟩,c⟩
 intro x b d U o j b2 D Z P n N G m z J K A E;have HE:=cV<|Gc (r:=ez src (eP F) (eV F) (pX F)<|mU F) D;change Hd (gi src F=_)at HE;change Fr O H (mU F) b d U x at D;change eI x o (eP F)at G;change eI x j (eV F)at J;change eI x b2 (pX F)at E;simp only[n8];generalize mU F=b at*;generalize eP F=p at*;generalize eV F=q at*;generalize pX F=r at*;generalize gi src F=R at*;have f:=cV<|vA p q r Y x D;rw[<-HE.aa]at f;let⟨b,c1,c2,c3⟩:=cW G;obtain⟨b,b,d2,t⟩:=cW J;obtain⟨k,b,b,b⟩:=cW E;have L:=cV Z;have I:=cV P;go_wp2_with fail
 refine f.mono ?_;intro e y g;cases R with
 |none=>obtain⟨⟨u,l,rfl⟩,c⟩:=g;exact⟨W,⟨_,_,W⟩,L.trans c I⟩
 |some r=>
  obtain⟨rfl,V⟩:=g;have T:Hd (gC (some r) dR _ H S w (.returned<|.tuple _) y):=⟨W,To.pre L I V⟩
  let⟨⟨⟩,i⟩:=r;unfold dR;go_wp2;go_end0;exact T
def spP(p n b:Nat):Nat:=if jp p n b then p%M else 0
def spN(p n b:Nat):Nat:=if jp p n b then n%M else 0
def LN(p n b:Nat):Bool:=decide (jp p n b)
def MW:pz 286:=λ_ _=>N0
def zs:pz 285:=λ_ _=>N0
def MM(H:b<1000000):cP 286 #[wv p,wv n,iI (b:Int)] w (rT (.tuple #[iI ((spP p n b:Nat):Int),iI ((spN p n b:Nat):Int),.bool<|LN p n b]) w):=by
 unfold spP spN LN;by_cases h:jp p n b
 .rw[At h,At h,OsQ h];exact(Bq p n b H h w).mono λe H⟨q,m,E,C,G,D⟩=>⟨by rw[G,E.aa,C.aa],D⟩
 rw[iF h,iF h,W8 h];grind[yn]
def ev5{H G C E D:Operand}{v4 v5:VL}(L:s.eval H=v1)(I:s.eval G=v2)(P:s.eval C=v3)(J:s.eval E=v4)(O:s.eval D=v5):#[]++(#[H,G,C,E,D]:Array Operand).map s.eval++#[]=#[v1,v2,v3,v4,v5]:=K9
def Stk(l:Tl):Kn:=λc _ v x=>c.1=0->∃b,Wds x b v l
def oM{l:Tl}:jU (Stk l):=λc D S C v x E h G e=>by
 rcases G with⟨rfl,_,G⟩|⟨H,_⟩
 .obtain⟨b,hw⟩:=h e;exact⟨b,dh hw G⟩
 omega
def WAt(n:Nat):Kn:=λc _ v x=>c.1=0->∃g o:Nat,v=pq g o/\g<x.heap.size/\x.cell? ⟨g,o,none⟩=some (lu n 0)/\x.cell? ⟨g,o+1,none⟩=some (lu n 1)/\x.cell? ⟨g,o+2,none⟩=some (lu n 2)/\x.cell? ⟨g,o+3,none⟩=some (lu n 3)
def oD:jU (WAt n):=λc G S E v x H h I e=>by
 rcases I with⟨rfl,_,I⟩|⟨D,_⟩
 .obtain⟨g,o,D,C,c0,c1,c2,c3⟩:=h e;exact⟨g,o,D,Xg C I.size,(I.cell C).trans c0,(I.cell C).trans c1,(I.cell C).trans c2,(I.cell C).trans c3⟩
 omega
def Nv:Kn:=λ_ _ _ _=>False
def ls:jU Nv:=λ_ _ _ _ _ _ _ h _=>h
def zR:pz 273:=λ_ _=>N0
def Jc{D:Vr}(he:tG s t<|iI (n:Int))(hn:n=q+1)(E:q<=1000)(C:K (Wb s d<|iI (q:Int)) x):Oper.wp prog ⟨some d,.binOp .sub 3 (.tmp t) (.const<|iI 1) 3,D,pos,af,gd⟩ s x K Q:=by
 have D:IntKind.i64.wrap q=q:=by grind[IntKind.wrap,IntKind.bits,IntKind.signed]
 go_simp;exact C
def uo{l:Tl}(q:Nat)(h:q<l.length):l.reverse[l.length-1-q]' K9=l.getD q 0:=K9
def He{a:Act}(w:WD){A E:Nat}(N:eI w A<|E)(V:A∉S){b D:Nat}(p:eI w b<|D)(U:b∉S)(Y:F.ret.size<1000000)(h:Fr O H F S X C w)(y:([21,22,23,24,25,26,27,28,20,29,30,31,5,6,7]:Tl).all (λd=>decide (d<a.tmps.size))=true)(c3:tG a 3<|pt A)(c4:tG a 4<|pt b)(c:tG a 0<|pt H)(t:∀u b s x,False->s.defers=a.defers->Kb S w x->Q (.panic [{v:=.iface u b,recovered:=false}]) s x)(b:∀(x:WD)(o:Tl)(sv' mv':VL),Fr O H (F) o sv' mv' x->Kb S w x->(∀j∈o,j∈S\/w.heap.size<=j)->Q .normal (dQ a [(21,wv<|E),(22,wv<|D),(23,pt H),(24,pt H),(25,pq H 21),(26,.string F.ret),(27,iI (F.ret.size:Int)),(28,.tuple #[iI ((spP (E) (D) (F.ret.size):Nat):Int),iI ((spN (E) (D) (F.ret.size):Nat):Int),.bool<|LN (E) (D)<|F.ret.size]),(20,.tuple #[iI ((spP (E) (D) (F.ret.size):Nat):Int),iI ((spN (E) (D) (F.ret.size):Nat):Int),.bool<|LN (E) (D)<|F.ret.size]),(29,iI ((spP (E) (D) (F.ret.size):Nat):Int)),(30,iI ((spN (E) (D) (F.ret.size):Nat):Int)),(31,.bool<|LN (E) (D)<|F.ret.size),(5,iI ((spP (E) (D) (F.ret.size):Nat):Int)),(6,iI ((spN (E) (D) (F.ret.size):Nat):Int)),(7,.bool<|LN (E) (D)<|F.ret.size)]) x):(ym f264 1).wp prog Q a w:=by
 have P:∀k:Nat,100000<((λ_:Nat=>F) k).ac\/Same F ((λ_:Nat=>F) k):=by grind[Same.refl]
 exact fG (λ_:Nat=>F) h [(3,.pointer _),(4,.pointer _),(0,.pointer _)] [(some 21,.v _),(some 22,.v _),(some 23,.v _),(some 24,.v _),(some 25,.v _),(some 26,.v _),(some 27,.v _),(some 28,.v _),(some 20,.v _),(some 29,.v _),(some 30,.v _),(some 31,.v _),(some 5,.v _),(some 6,.v _),(some 7,.v _)] [] [0,1,5,7] (ha:=⟨N0,y,(eR c3<|eR c4<|eR c W),N0⟩) AF
  True.intro
  ⟨(@λs x k S1 Z R I m c K G J L=>eo 3 21 (J W) (I.row N V)<|kc L),(@λs x k S1 Z R I m c K G J L=>eo 4 22 (J W) (I.row p U)<|kc L),(@λs x k S1 Z R I m c K G J L=>by
    rcases P k with n|T
    .exact absurd G.aN (Nat.not_le.2 n)
    exact dm (J W) ((rc G.row _).trans<|Xl (λz=>some<|Value.string z) T.ret)<|kc L),(λ_ J L=>eK MW (PE (J W) (J W)<|J W) (MM Y)<|λe c i=>⟨_,i.1,L _ c i.2 nn1 W⟩),AF⟩
  λg x o sv' mv' G I f c=>b x o _ _ G I f
def yG{a:Act}(w:WD){i nt:Nat}(A:eI w i<|nt)(f:i∉S){b p:Nat}(n:eI w b<|p)(Z:b∉S){c m:Nat}(z:eI w c<|m)(Y:c∉S)(V:(F.ret).size<=100000)(h:Fr O H F S X C w)(N:([40,41,42,43,44,45,46,47,48]:Tl).all (λd=>decide (d<a.tmps.size))=true)(c2:tG a 2<|pt i)(c3:tG a 3<|pt b)(c4:tG a 4<|pt c)(b:tG a 0<|pt H)(U:∀u c s x,(ez (F.ret) (nt) (p) (m) (F)=none)->s.defers=a.defers->Kb S w x->Q (.panic [{v:=.iface u c,recovered:=false}]) s x)(t:∀(x:WD)(o:Tl)(sv' mv':VL),Fr O H (A1<|ez (F.ret) (nt) (p) (m)<|F) o sv' mv' x->Kb S w x->(∀j∈o,j∈S\/w.heap.size<=j)->Q .normal (dQ a [(40,pt H),(41,pt H),(42,pt H),(43,pq H 21),(44,.string F.ret),(45,wv<|nt),(46,wv<|p),(47,wv<|m),(48,Value.tuple #[])]) x):(ym f264 4).wp prog Q a w:=by
 exact fG (λk=>match k with|0=>F|_=>A1 _) h [(2,.pointer _),(3,.pointer _),(4,.pointer _),(0,.pointer _)] [(some 40,.v _),(some 41,.v _),(some 42,.v _),(some 43,.v _),(some 44,.v _),(some 45,.v _),(some 46,.v _),(some 47,.v _),(some 48,.v _)] [8] [4,5,6,7] (ha:=⟨N0,N,(eR c2<|eR c3<|eR c4<|eR b W),N0⟩) AF
  ⟨(λs x S1 P J E D I T G b K L=>pM zs (ev5 (G 40 _ W) (G 44 _ W) (G 45 _ W) (G 46 _ W)<|G 47 _ W) (vA _ _ _ V x E) W (λ_ _ _=>W) (λy u c q l=>U u c s q y T<|D.trans l I) L),AF⟩
  ⟨(@λs x k S1 P J D R b K E G L=>by cases(Yn.1 (R 0 8 W N0):k=0);exact dm (G W) (rc (E).row _)<|kc L),(@λs x k S1 P J D R b K E G L=>eo 2 45 (G W) (D.row A f)<|kc L),(@λs x k S1 P J D R b K E G L=>eo 3 46 (G W) (D.row n Z)<|kc L),(@λs x k S1 P J D R b K E G L=>eo 4 47 (G W) (D.row z Y)<|kc L),AF⟩
  λg x o sv' mv' E D I b=>t x o _ _ E D I
variable {S1:Tl}
def kJ(t f n:Nat)(F:Fz):Option (Unit×Fz):=if n%M≠0/\LN f n F.ret.size=false then none else ez F.ret t f n F
def fW(F:Fz):Option (Unit×Fz):=Kr F<|kJ (eP F) (eV F) (pX F)<|mU F
def Kb.bC{S2:Tl}(I:Kb S w x)(G:∀j∈S1,j∈S\/w.heap.size<=j)(E:∀j∈S2,j∈S1\/x.heap.size<=j):∀j∈S2,j∈S\/w.heap.size<=j:=λj D=>(E j D).elim (G j)<|λh=>A4<|By I.size h
def uP{S2:Tl}(G:b∉S1)(I:b<x.heap.size)(E:∀j∈S2,j∈S1\/x.heap.size<=j):b∉S2:=λD=>(E b D).elim G<|λh=>wq
def yv(c:F.ret.size<=100000)(w:WD)(h:Fr O H F S X C w):cP 264 #[pt H] w (gC (fW F) dR O H S w):=by
 go_enter func264,ntmps264;go_wp2;refine OU h ?_ ?_
 .intro u pv s x z hd hk;have e:fW F=none:=wR z;rw[e];exact⟨hd,⟨_,_,W⟩,hk⟩
 intro x a v l b0 b1 b2 L t m i hg0 K A hg1 Y N hg2 Q;have HE:=cV<|Gc (r:=kJ (eP F) (eV F) (pX F)<|mU F) L;change Hd (fW F=_)at HE;change Fr O H (mU F) a v l x at L;change eI x b0 (eP F)at K;change eI x b1 (eV F)at Y;change eI x b2 (pX F)at Q;have a:(mU F).ret.size<=100000:=by
  rcases Lx F with l|l
  .exact absurd L.aN wq
  rwa[l.ret]
 simp only[n8];generalize mU F=l at*;generalize eP F=p at*;generalize eV F=q at*;generalize pX F=r at*;generalize fW F=R at*;simp;go_upto_region 1 with fail
 refine He x Y A Q N wq L W W W W (λ_ _ _ _ h=>h.elim) ?_;intro x1 S1 c c I P V;have D:=t.trans P m;have E:=t.bC m V;have d:=P.row K i;have j:=P.row Y A;have J:=P.row Q N;have Z:=uP i K.lt V;have f:=uP A Y.lt V;have g:=uP N Q.lt V;obtain⟨z0,z1,z2,z3⟩:_/\_/\_/\_:=⟨I.zr 0 wq,I.zr 1 wq,I.zr 2 wq,I.zr 3 wq⟩
 let⟨d0,d1,d2,d3⟩:=cW J;have U:=pJ r;simp only[dQ,Xa,Xf,Act.put,sx9];by_cases G:r%M≠0/\LN q r l.ret.size=false
 .have HEN:Hd _:=HE.aa.trans<|At G;rw[kV G.1]at U;have c:=G.2;have v:=cV D;go_wp2;refine⟨W,?_⟩;rw[HEN.aa];exact⟨⟨_,_,W⟩,v⟩
 have T:=cV<|HE.trans<|iF G;by_cases o:r%M=0;case' pos=>rw[mw o]at U
 case' neg=>rw[kV o]at U;have c:LN q r l.ret.size=true:=K9
 all_goals
  go_upto_region 4 with fail
  refine yG x1 d Z j f J g a I W W W W W ?_ ?_
  .intro u pv s y z hd hk;rw[T.aa.trans z];exact⟨hd,⟨_,_,W⟩,D.trans hk E⟩
  intro y S2 c c c n k;have l:Hd (gC R dR O H S w AG y):=by rw[T.aa.trans<|ou λe=>gG (eD e) c];exact⟨W,S2,_,_,c,D.trans n E,D.bC E k⟩
  clear c n k D E d j J Z f g I HE T h z0 z1 z2 z3 d0 d1 d2 d3 U;simp only[n8];go_wp2;go_end0;exact l
theorem PhF.cell{G:Nat->Fz}(h:PhF O H G S w k x)(Y:100000<(G k).ac\/Same F (G k))(o:Nat)(J:o<27)(c:Fz->VL)(L:∀D X C,Fz.cell D X C o=c D)(E:∀D,Same F D->c D=c F):x.cell? ⟨H,o,none⟩=some (c F):=by
 obtain⟨P,X,C,I,_⟩:=h;rcases Y with Y|Y
 .exact absurd I.aN wq
 .rw[I.row.cell J,L,E _ Y]
def Il{r:Option<|Nat×Fz}(h:r=some (a,F)):a=dV r:=by rw[h];rfl
theorem PhF.bo{r:Option<|Unit×Fz}(h:∃D X C,Fr O H (A1 r) D X C x/\Kb S w x/\∀j∈D,j∈S\/w.heap.size<=j):gC r dR O H S w AG x:=by let⟨D,X,C,E,G,I⟩:=h;rw[ou λe=>gG (eD e) E];exact⟨W,D,X,C,E,G,I⟩
def SlL(n:Nat):Kp:=λ_ v _=>∃ad c,v=.slice ad n c
def U1{E:Vr}(he:tG s t<|.slice ad n c)(D:K (Wb s d<|iI (n:Int)) x):Oper.wp prog ⟨some d,.call ⟨.builtin .len,#[.tmp t],#[26]⟩,E,pos,af,gd⟩ s x K Q:=by go_simp;exact D
def oU{r:Option<|Unit×Fz}(e:Ending)(x:WD)(h:gC r dR O H S w e x):e=AG\/∃u E,e=.panicked [{v:=.iface u E,recovered:=false}]:=by
 cases r with
 |none=>obtain⟨⟨u,E,rfl⟩,_⟩:=h;simp
 |some y=>let⟨u,D⟩:=y;obtain⟨rfl,_⟩:=h;exact LZ W
def PcK(l:Vf):Kp:=λp v x=>p≠0/\(p=1->Rds x v l)
def pck_s1{l:Vf}(h:PcK l p v x):PcK l (p+1) v x':=⟨wq,λe=>absurd h.1 wq⟩
def pck_s2{l:Vf}(h:PcK l p v x)(D:bW x x'):PcK l p v x':=⟨h.1,λe=>(h.2 e).below D⟩
def PhF.out2{α:Type}{E:Option<|α×Fz}{r:Option<|Unit×Fz}(G:E=none->Bd (A1 r))(h:∃D X C,Fr O H (A1 r) D X C x/\Kb S w x/\∀j∈D,j∈S\/w.heap.size<=j):gC (dX E r) dR O H S w AG x:=by grind[ed,gG,PhF.bo]
abbrev gD{d:Nat}(_:0<=d):Nat:=d
def hX{n:Int}{v:Fz->Nat}(f:(n,d,o,v)=(48,7,3,Fz.ak)\/(n,d,o,v)=(51,32,7,Fz.ax)\/(n,d,o,v)=(52,42,11,Fz.value))(w:WD)(h:Fr O H F S X C w):cP 233 #[pt H,iB n] w (gC (dB (v F) F) dR O H S w):=by
 have E:∀k:Nat,100000<((λk=>match k with|0=>F|_=>A1<|dB (v F) F) k).ac\/Same F ((λk=>match k with|0=>F|_=>A1<|dB (v F) F) k):=λk=>by grind[Same.refl,gV]
 have b:∀G,Same F G->v G=v F:=λG h=>by rcases f with e|e|e<;>cases e<;>first|exact h.ak|exact h.ax|exact h.value
 have g:=In d;have I:=In o;rcases f with e|e|e<;>cases e
 all_goals
  go_enter func233,ntmps233;go_wp2;refine dy (PhF _ H (λk=>match k with|0=>F|_=>A1<|dB _ F) S w) (λ_ _ _=>True) [(0,(.pointer _))] (nV (gD g) [(pt H),(pt H),(pq H 19),(pt H),(pt H),_,_,_]) [7] [6] (PhF.bn h) (PhF.bel)
    ⟨(@λs x L f K D hv P=>by refine gz D @hv (λZ X C f=>ix x f) W (λ_ _ _=>W) (λJ u f x' f=>?_)<|λx' g=>P _ x' g AF nn1 W;rw[show dB _ F=none from J];exact⟨L,⟨_,_,W⟩,f⟩),AF⟩
    ⟨(λ_ D hv P=>dD (hv W) (D.cell (E _) (gD I) (Nat.le_of_ble_eq_true W) _ (λ_ _ _=>W)<|λG h=>Xl (λz=>Value.int _<|cX z 0)<|b G h) (D.cell (E _) (gD I+1) (Nat.le_of_ble_eq_true W) _ (λ_ _ _=>W)<|λG h=>Xl (λz=>Value.int _<|cX z 1)<|b G h) (D.cell (E _) (gD I+2) (Nat.le_of_ble_eq_true W) _ (λ_ _ _=>W)<|λG h=>Xl (λz=>Value.int _<|cX z 2)<|b G h) (D.cell (E _) (gD I+3) (Nat.le_of_ble_eq_true W) _ (λ_ _ _=>W)<|λG h=>Xl (λz=>Value.int _<|cX z 3)<|b G h)<|kx P),AF⟩
    (nl W) (nl W) ?_
  intro Y x D _;have R:=cV<|PhF.bo D;clear D h;simp only[n8,gD,dQ,Xa,Xf,Act.put];simp only[sx9];go_wp2;go_end0;exact R
def eX{n:Int}{v:Fz->BA}(b:(n,d,o,v)=(54,68,15,Fz.data)\/(n,d,o,v)=(56,88,1,Fz.ae)\/(n,d,o,v)=(61,108,21,Fz.ret))(J:(v F).size<=100000)(w:WD)(h:Fr O H F S X C w):cP 233 #[pt H,iB n] w (gC (dB (v F).size F) dR O H S w):=by
 have P:∀k:Nat,100000<((λk=>match k with|0=>F|_=>A1<|dB (v F).size F) k).ac\/Same F ((λk=>match k with|0=>F|_=>A1<|dB (v F).size F) k):=λk=>by grind[Same.refl,gV]
 have q:∀G,Same F G->v G=v F:=λG h=>by rcases b with e|e|e<;>cases e<;>first|exact h.data|exact h.ae|exact h.ret
 have R:=In (v F).size;have m:gD R<=100000:=J;have j:=In d;have Y:=In o;rcases b with e|e|e<;>cases e
 all_goals
  go_enter func233,ntmps233;go_wp2;refine dy (PhF _ H (λk=>match k with|0=>F|_=>A1<|dB _ F) S w) (λ_ _ _=>True) [(0,(.pointer _))] (nV (gD j) [(pt H),(pt H),(pq H 19),(pt H),(pt H),_,_,(iI<|gD R),_,_]) [9] [6,8] (PhF.bn h) (PhF.bel)
    ⟨(@λs x L m K D hv E=>by refine gz D @hv (λg X C b=>ix x b) W (λ_ _ _=>W) (λI u b x' b=>?_)<|λx' j=>E _ x' j AF nn1 W;rw[show dB _ F=none from I];exact⟨L,⟨_,_,W⟩,b⟩),AF⟩
    ⟨(λ_ D hv E=>by
     exact dm (hv W) (D.cell (P _) (gD Y) (Nat.le_of_ble_eq_true W) _ (λ_ _ _=>W)<|λG h=>Xl _<|q G h)<|kx E),(λ_ _ hv E=>by
     refine o6 @hv (fT (gD R) wq _) (λv y h=>?_) (λl y h=>absurd h.1 K2)<|λy h=>absurd h.1 K2;let⟨e,b⟩:=h;injection e with e;subst e;exact E _ y b nn1 W),AF⟩
    (nl W) (nl W) ?_
  intro f x D _;have Z:=cV<|PhF.bo D;clear D h;simp only[n8,gD,dQ,Xa,Xf,Act.put];simp only[sx9];go_wp2;go_end0;exact Z
def jX{n:Int}{v:Fz->Nat}(b:(n,d,o,v)=(88,45,22,Fz.pc)\/(n,d,o,v)=(90,68,16,Fz.ac))(J:v F<=10000000)(w:WD)(h:Fr O H F S X C w):cP 234 #[pt H,iB n] w (gC (dB (v F) F) dR O H S w):=by
 have P:∀k:Nat,100000<((λk=>match k with|0=>F|_=>A1<|dB (v F) F) k).ac\/Same F ((λk=>match k with|0=>F|_=>A1<|dB (v F) F) k):=λk=>by grind[Same.refl,gV]
 have q:∀G,Same F G->v G=v F:=λG h=>by rcases b with e|e<;>cases e<;>first|exact h.pc|exact h.ac
 have R:=In<|v F;have m:gD R<=10000000:=J;have j:=In d;have Y:=In o;rcases b with e|e<;>cases e
 all_goals
  go_enter func234,ntmps234;go_wp2;refine dy (PhF _ H (λk=>match k with|0=>F|_=>A1<|dB _ F) S w) (λ_ _ _=>True) [(0,(.pointer _))] (nV (gD j) [(pt H),(pt H),(pq H 19),(pt H),(pt H),_,_,_,_]) [8] [6,7] (PhF.bn h) (PhF.bel)
    ⟨(@λs x L m K D hv E=>by refine gz D @hv (λg X C b=>ix x b) W (λ_ _ _=>W) (λI u b x' b=>?_)<|λx' j=>E _ x' j AF nn1 W;rw[show dB _ F=none from I];exact⟨L,⟨_,_,W⟩,b⟩),AF⟩
    ⟨(λ_ D hv E=>by
     exact dm (hv W) (D.cell (P _) (gD Y) (Nat.le_of_ble_eq_true W) _ (λ_ _ _=>W)<|λG h=>Xl (λz:Nat=>Value.int _ _)<|q G h)<|kx E),(λ_ _ hv E=>by
     refine o6 @hv (fT (gD R) wq _) (λv y h=>?_) (λl y h=>absurd h.1 K2)<|λy h=>absurd h.1 K2;let⟨e,b⟩:=h;injection e with e;subst e;exact E _ y b nn1 W),AF⟩
    (nl W) (nl W) ?_
  intro f x D _;have Z:=cV<|PhF.bo D;clear D h;simp only[n8,gD,dQ,Xa,Xf,Act.put];simp only[sx9];go_wp2;go_end0;exact Z
def Vw(Y:F.data.size<=100000)(w:WD)(h:Fr O H F S X C w):cP 233 #[pt H,iB 53] w (gC (dX (db F)<|dB (lK<|dH F.data (dV (db F)%M) 32)<|A1<|db F) dR O H S w):=by
 have f:∀k:Nat,100000<((λk=>match k with|0=>F|1=>A1 (db F)|_=>A1<|dB (lK<|dH F.data (dV (db F)%M) 32)<|A1<|db F) k).ac\/Same F ((λk=>match k with|0=>F|1=>A1 (db F)|_=>A1<|dB (lK<|dH F.data (dV (db F)%M) 32)<|A1<|db F) k):=λk=>by grind[Same.refl,fy,gV]
 go_enter func233,ntmps233;go_wp2;refine dy (PhF _ H (λk=>match k with|0=>F|1=>A1 (db F)|_=>A1<|dB _<|A1 _) S w) (λ_ _ _=>True) [(0,(.pointer _))] [(some 52,.v<|pt H),(some 53,.v<|pt H),(some 54,.v<|pq H 19),(some 55,.v<|pt H),(some 56,.v<|pt H),(some 57,.v _),(some 58,.v _),(some 59,.v<|pt H),(some 60,.v<|pt H),(some 61,.v<|pq H 19),(some 62,.v _),(some 63,.l<|PcK _),(some 64,.v _),(some 65,.v _)] [10,13] [6,11,12] (PhF.bn h) (PhF.bel)
   ⟨(@λs x E hl K D hv I=>by
    refine gz D @hv (λz X C q=>kO x q) W (λa b h=>Xl wv<|Il h) (λJ u pv x' r=>?_)<|λx' b=>I _ x' b AF nn1 W;rw[(dE (LZ J):dX (db F) _=none)];exact⟨E,⟨_,_,W⟩,r⟩),(@λs x E hl K D hv I=>by
    refine gz D @hv (λz X C q=>ix x q) W (λ_ _ _=>W) (λJ u pv x' r=>?_)<|λx' b=>I _ x' b AF nn1 W;rw[(dE (A4 J):dX _ (dB _<|A1 _)=none)];exact⟨E,⟨_,_,W⟩,r⟩),AF⟩
   ⟨(λ_ D hv I=>by
    exact dm (hv W) (D.cell (f _) 15 K3 _ (λ_ _ _=>W)<|λG h=>Xl _ h.data)<|kx I),(@λk s x r P E hl K L D hv I=>by
    refine o6 @hv (uW (dV<|db F) 32 Y wq x) (λv y h=>?_) (λl y h=>K9)<|λy h=>K9;let⟨N,e,Z,q⟩:=h;injection e with e;subst e;have j:=P 0 10 W N0;have A:=L 1 13;exact I _ y q nn1 ⟨wq,λ_=>Z.bD⟩),(@λk s x r P E hl K L D hv I=>by
    have j:=P 0 10 W N0;have A:=L 1 13;have b:=(hl 63 _ W).2 wq;refine o6 @hv (nB _ (by grind[jk]) x b) (λv y h=>?_) (λl y h=>absurd h.1 K2)<|λy h=>absurd h.1 K2;let⟨e,q⟩:=h;injection e with e;subst e;exact I _ y q nn1 W),AF⟩
   ?_ ?_ ?_
 .intro i d T g p v x x' _ b D _ hT;have R:=Xe g;simp only[IF,XV,reduceCtorEq,Zb,Za,XI,Xk,En.l.injEq]at R;obtain⟨-,rfl⟩:=R;exact pck_s1 hT
 .intro i d T g p v x x' D q hT;have R:=Xe g;simp only[IF,XV,reduceCtorEq,Zb,Za,XI,Xk,En.l.injEq]at R;obtain⟨-,rfl⟩:=R;exact pck_s2 hT q
 intro b x D _;have m:=cV<|PhF.out2 (λe=>sR<|eD e) D;clear D h;simp only[lP,fe_l,gt,dQ,Xa,Xf,Act.put];simp only[sx9];go_wp2;go_end0;exact m
def L8(Y:F.mem.length<=100000)(w:WD)(h:Fr O H F S X C w):cP 234 #[pt H,iB 89] w (gC (dB F.mem.length F) dR O H S w):=by
 go_enter func234,ntmps234;go_wp2;refine dy (PhF _ H (λk=>match k with|0=>F|_=>A1<|dB _ F) S w) (λ_ _ _=>True) [(0,(.pointer _))] [(some 56,.v<|pt H),(some 57,.v<|pt H),(some 58,.v<|pq H 19),(some 59,.v<|pt H),(some 60,.v<|pt H),(some 61,.v _),(some 62,.l<|SlL _),(some 63,.v _),(some 64,.v _),(some 65,.v _)] [9] [6,7,8] (PhF.bn h) (PhF.bel)
   ⟨(@λs x E z K D hv G=>by refine gz D @hv (λf X C b=>ix x b) W (λ_ _ _=>W) (λL u q x' q=>?_)<|λx' A=>G _ x' A AF nn1 W;rw[show dB _ F=none from L];exact⟨E,⟨_,_,W⟩,q⟩),AF⟩
   ⟨(@λk s x q P E z K I D hv G=>by
    have m:=I 0 9;obtain rfl:k=0:=wq
    let⟨f,X,C,b,_⟩:=D;obtain⟨ad,g,rfl⟩:=dt b.me;exact dm (hv W) (rc b.row 20)<|G _ x (dO _ _) nn1 ⟨_,_,W⟩),(@λk s x q P E z K I D hv G=>by
    let⟨ad,g,e⟩:=z 62 _ W;exact U1 e<|kx G),(λ_ _ hv G=>by
    refine o6 @hv (fT F.mem.length wq _) (λv y h=>?_) (λl y h=>absurd h.1 K2)<|λy h=>absurd h.1 K2;let⟨e,b⟩:=h;injection e with e;subst e;exact G _ y b nn1 W),AF⟩
   (λi d T R p v x x' _ _ _ _ b=>by
  have J:=Xe R;simp only[IF,XV,reduceCtorEq,Zb,Za,XI,Xk,En.l.injEq]at J;obtain⟨-,rfl⟩:=J;exact b) (λi d T R p v x x' _ _ b=>by
  have J:=Xe R;simp only[IF,XV,reduceCtorEq,Zb,Za,XI,Xk,En.l.injEq]at J;obtain⟨-,rfl⟩:=J;exact b) ?_
 intro j x D _;have Z:=cV<|PhF.bo D;clear D h;simp only[lP,fe_l,gt,dQ,Xa,Xf,Act.put];simp only[sx9];go_wp2;go_end0;exact Z
def UR(P:F.aC=pt U)(R:∀k∈S,¬bi U T V k)(E:0∉S)(w:WD)(L:Tr O U T V w)(h:Fr O H F S X C w):cP 233 #[pt H,iB 49] w (gC (dX (db F)<|dB (T.aw<|dV<|db F).ai<|A1<|db F) dR O H S w):=by
 have Y:∀k:Nat,100000<((λk=>match k with|0=>F|1=>A1 (db F)|_=>A1<|dB (T.aw<|dV<|db F).ai<|A1<|db F) k).ac\/Same F ((λk=>match k with|0=>F|1=>A1 (db F)|_=>A1<|dB (T.aw<|dV<|db F).ai<|A1<|db F) k):=λk=>by grind[Same.refl,fy,gV]
 go_enter func233,ntmps233;go_wp2;refine dy (PhF _ H (λk=>match k with|0=>F|1=>A1 (db F)|_=>A1<|dB _<|A1 _) S w) (λ_ _ _=>True) [(0,(.pointer _))] [(some 17,.v<|pt H),(some 18,.v<|pt H),(some 19,.v<|pq H 19),(some 20,.v<|pt H),(some 21,.v<|pt H),(some 22,.v _),(some 23,.v _),(some 24,.v<|pt H),(some 25,.v<|pt H),(some 26,.v<|pq H 19),(some 27,.v _),(some 28,.v _),(some 29,.v _)] [10,12] [6,11] (PhF.bn h) (PhF.bel)
   ⟨(@λs x I A K D hv J=>by
    refine gz D @hv (λf X C b=>kO x b) W (λa j h=>Xl wv<|Il h) (λE u N x' q=>?_)<|λx' z=>J _ x' z AF nn1 W;rw[(dE (LZ E):dX (db F) _=none)];exact⟨I,⟨_,_,W⟩,q⟩),(@λs x I A K D hv J=>by
    refine gz D @hv (λf X C b=>ix x b) W (λ_ _ _=>W) (λE u N x' q=>?_)<|λx' z=>J _ x' z AF nn1 W;rw[(dE (A4 E):dX _ (dB _<|A1 _)=none)];exact⟨I,⟨_,_,W⟩,q⟩),AF⟩
   ⟨(λ_ D hv J=>by
    exact dm (hv W) ((D.cell (Y _) 0 K3 _ (λ_ _ _=>W)<|λG h=>h.aC).trans<|Xl _ P)<|kx J),(λ_ D hv J=>by
    let⟨f,X,C,_,Z,_⟩:=D;refine o6 @hv (nh (dV<|db F) _<|L.kb Z R E) (λv y h=>?_) (λl y h=>absurd h.1 K2)<|λy h=>absurd h.1 K2;let⟨e,b⟩:=h;injection e with e;subst e;exact J _ y b nn1 W),AF⟩
   (nl W) (nl W) ?_
 intro m x D _;have g:=cV<|PhF.out2 (λe=>sR<|eD e) D;clear D h L;simp only[lP,gt,dQ,Xa,Xf,Act.put];simp only[sx9];go_wp2;go_end0;exact g
def SB(D:F.data.size<=100000)(w:WD)(h:Fr O H F S X C w):cP 233 #[pt H,iB 55] w (gC (gi F.data F) dR O H S w):=by
 have G:=cV<|sJ D w h;have c1:=rc h.row 15;rw[show F.cell X C 15=.string _ from W]at c1;clear h;go_enter func233,ntmps233;go_wp2_with fail
 refine G.mono ?_;intro e x I;have E:=cV I;rcases oU e x I with rfl|⟨u,J,rfl⟩
 .clear I G;go_wp2;go_end0;exact E
 exact⟨W,E⟩
def SF(D:F.ae.size<=100000)(w:WD)(h:Fr O H F S X C w):cP 233 #[pt H,iB 57] w (gC (gi F.ae F) dR O H S w):=by
 have G:=cV<|sJ D w h;have c1:=rc h.row 1;rw[show F.cell X C 1=.string _ from W]at c1;clear h;go_enter func233,ntmps233;go_wp2_with fail
 refine G.mono ?_;intro e x I;have E:=cV I;rcases oU e x I with rfl|⟨u,J,rfl⟩
 .clear I G;go_wp2;go_end0;exact E
 exact⟨W,E⟩
def Ul(D:F.ret.size<=100000)(w:WD)(h:Fr O H F S X C w):cP 233 #[pt H,iB 62] w (gC (fW F) dR O H S w):=by
 have E:=cV<|yv D w h;clear h;go_enter func233,ntmps233;go_wp2_with fail
 refine E.mono ?_;intro e x I;have G:=cV I;rcases oU e x I with rfl|⟨u,J,rfl⟩
 .clear I E;go_wp2;go_end0;exact G
 exact⟨W,G⟩
def yj(F:Fz):Option (Unit×Fz):=(db F).map λy=>((),y.2)
def P8(w:WD)(h:Fr O H F S X C w):cP 234 #[pt H,iB 80] w (gC (yj F) dR O H S w):=by
 have G:=cV<|kO w h;clear h;go_enter func234,ntmps234;go_wp2_with fail
 refine G.mono ?_;intro e x J;unfold yj;cases L:db F with
 |none=>rw[L]at J;obtain⟨⟨u,Y,rfl⟩,P⟩:=J;exact⟨W,⟨_,_,W⟩,P⟩
 |some r=>let⟨n,I⟩:=r;rw[L]at J;obtain⟨rfl,D⟩:=J;have E:=cV D;clear D G;go_wp2;go_end0;unfold yj;rw[L];exact⟨W,E⟩

def Qd(c:Nat)(J:c<=100000000)(w:WD)(h:Fr O H F S X C w):cP 204 #[pt H,iI (c:Int)] w λe w'=>if F.ac<c then LL e/\Kb [] w w' else e=AG/\Fr O H {F with ac:=F.ac-c} S X C w'/\Kb [H] w w':=by
 have I:=h.row.cell (i:=16) K3;have L:=h.row.frozen 16;rw[show F.cell X C 16=.int _ _ from W]at I;have G:=h.aN;by_cases L:F.ac<c
 .simp only[At L];go_enter func204,ntmps204;go_wp2;exact⟨W,⟨_,_,W⟩,Kb.refl _ _⟩
 simp only[iF L];have E:=cV h;go_enter func204,ntmps204;go_wp2;go_end0;have D:=((Kb.refl [H] w).setCell (p:=⟨H,16,none⟩) AI<|iI<|F.ac-c)
 refine⟨W,(E.own2 (F':={F with ac:=F.ac-c}) W W W W K9 ?_ D).1,D⟩;rw[<-mJ F X C _];refine(E.row.set 16 _).congr λi L=>?_;grind
def PartOf.bA{m:Vf}(h:PartOf C v a b)(P:Old C m w)(Y:a+b<=m.length):Rds w v (dM m a b):=by obtain⟨L,c,rfl,I,V⟩:=h;have D:=vg Y;refine⟨L,c,by rw[D],wq,λG=>?_⟩;obtain⟨g,len,E,e,rfl,Q⟩:=V (λh=>G<|Yo (by rw[D];exact h));let⟨J,R⟩:=P g _ _ e;refine⟨g,a,W,J,λi V=>?_⟩;rw[D]at V;have U:=Ag Y V;grind
def zam(t f n:Nat)(F:Fz):Option (Unit×Fz):=match dC f n F with
 |none=>none
 |some ((a,b),F1)=>match dC t n F1 with
  |none=>none
  |some ((a2,b2),F2)=>if F2.ac<3*dw b then none else some ((),{F2 with ac:=F2.ac-3*dw b,mem:=splice F2.mem a2<|dM F1.mem a b})
def gZ(F:Fz):Option (Unit×Fz):=Kr F<|zam (eP F) (eV F) (pX F)<|mU F
def Cw(w:WD)(h:Fr O H F S X C w):cP 272 #[pt H] w (gC (gZ F) dR O H S w):=by
 go_enter func272,ntmps272;go_wp2;refine OU h ?_ ?_
 .intro u pv s x hno hd l;have e:gZ F=none:=wR hno;rw[e];exact⟨hd,⟨_,_,W⟩,l⟩
 intro x S' sv' mv' b0 b1 b2 V hkb a4 hn0 c L c c c hn2 hg2 G;have HE:=cV<|Gc (r:=zam (eP F) (eV F) (pX F)<|mU F) V;change Hd (gZ F=_)at HE;change Fr O H (mU F) S' sv' mv' x at V;change eI x b0 (eP F)at L;change eI x b1 (eV F)at c;change eI x b2 (pX F)at G;simp only[n8];generalize mU F=F2 at*;generalize eP F=p at*;generalize eV F=q at*;generalize pX F=r at*;generalize gZ F=R at*;have HJ:=cV<|Qt q r x V;have h32:=V.aT;let⟨d0,d1,d2,d3⟩:=cW c;obtain⟨c,c,c,c⟩:=cW G;have f:=cV hkb;have d:=cV a4;have HR0:=cV L;have HR2:=cV G;unfold zam at HE;go_wp2_with fail
 refine HJ.mono ?_;rintro e y⟨P, -⟩;cases c:dC q r F2 with
 |none=>rw[c]at P HE;obtain⟨⟨u,pv,rfl⟩,l⟩:=P;have e:R=none:=HE.aa;rw[e];exact⟨W,⟨_,_,W⟩,f.trans l d⟩
 |some z=>
  let⟨⟨a,b⟩,F3⟩:=z;rw[c]at P HE;obtain⟨v,S3,sv3,mv3,rfl,I,U,A,hpo⟩:=P;have L:=U.row HR0 hn0;have G:=U.row HR2 hn2;have HB:=cV<|tT c;have N:=iC c h32;have a6:=f.aa.trans U d;have HJ2:=cV<|Qt p r y I;have h323:=I.aT;have hml:=I.bv;have a1:=I.fm;obtain⟨adv,cv,rfl,Y⟩:=hpo;have HPO:Hd (PartOf _ _ a b):=⟨_,cv,W,Y⟩
  let⟨g0,g1,g2,g3⟩:=cW L;let⟨k0,k1,k2,k3⟩:=cW G;have Z:=cV a6;have o:=cV<|λk l=>(A k l).elim (d k)<|λh=>A4<|By f.size h;have HFM:=cV a1;clear Y I U A L G HJ a6 c a1;go_wp2_with fail
  refine HJ2.mono ?_;rintro e y2⟨P,Q⟩;cases c:dC p r F3 with
  |none=>rw[c]at P;obtain⟨⟨u,pv,rfl⟩,l⟩:=P;rw[(by rw[HE.aa];grind:R=none)];exact⟨W,⟨_,_,W⟩,Z.trans l o⟩
  |some z2=>
   let⟨⟨a2,D⟩,K⟩:=z2;rw[c]at P Q;have Q:=Q K2;obtain⟨v2,S4,sv4,mv4,rfl,t,hk4,hs4,T⟩:=P;have a9:Hd (R=if K.ac<3*dw b then none else some ((),{K with ac:=K.ac-3*dw b,mem:=splice K.mem a2<|dM F3.mem a b})):=K9
   have hb2:D=b:=by rw[tT c,HB.aa]
   subst hb2;have c:D<=65536:=wq
   have b7:Hd (∀w,Calls _ _ _ w λe c=>e=.returned (.int _<|(dw D))/\c=w):=λw=>mt _ wq w;have c:dw D<=3000:=by grind[dw]
   have m:=cV<|Qd (3*dw D) wq y2 t;rw[show((3*dw _:Nat))=3*(dw D:Int) by omega]at m;obtain⟨c,c,rfl,a3⟩:=T;have HPW:Hd (PartOf _ _ a2 D):=⟨_,c,W,a3⟩
   have a8:=cV<|Z.trans hk4 o;have g:Hd _:=λk l=>(hs4 k l).elim (o k)<|λh=>A4<|By Z.size h;have HOL:=cV Q;have HFB:Hd (H∈S4):=by show H∈S4;rw[t.aH];simp
   generalize dw D=sb at*;go_wp2_with fail
   refine(b7 _).mono ?_;rintro e c⟨rfl,c⟩;cases c.symm;go_wp2_with fail
   refine m.mono ?_;intro e c E;by_cases c:K.ac<3*sb
   .rw[At c]at E;obtain⟨⟨u,pv,rfl⟩,l⟩:=E;rw[a9.aa.trans<|At c];exact⟨W,⟨_,_,W⟩,a8.trans l K2⟩
   rw[iF c]at E;obtain⟨rfl,n,j⟩:=E;have e:=a9.aa.trans<|iF c;have a5:=HPO.aa.bA (HOL.kb j<|λk l c=>HFM k l<|BY.1 c) N;let⟨x',J,l,c⟩:=yU n HPW a5 (by grind[dM]) 3;have HO:Hd (gC R dR O H S w AG x'):=by show gC _ _ _ _ _ _ _ _;rw[e];refine⟨W,S4,_,_,l,(a8.trans j<|λi hi=>?_).trans c g,g⟩;rw[BY.1 hi];exact g H HFB
   have b6:=cV J;clear a5 n j l c J m b7 e;have J:=b6.aa;go_wp2;go_end0;exact HO
end
def zp{P:Nat}{Y:Vr}(E:tG s P<|iI (kd:Int))(I:tG s t1<|wv a)(L:tG s t2<|wv N)(D:K (Wb s d<|gS kd a N) x):Oper.wp prog ⟨some d,.build 217 #[(0,.tmp P),(1,.tmp t1),(2,.tmp t2)],Y,pos,af,gd⟩ s x K Q:=by
 have J:s.tmps[P]?.getD undef=iI kd:=Q1
 have G:s.tmps[t1]?.getD undef=wv a:=Q1
 have g2:s.tmps[t2]?.getD undef=wv N:=Q1
 go_simp;exact D
def SZ{Q:Y6}{a:Act}(htr:Tr O U T V w)(p:F.aC=pt U)(A:∀k∈S,¬bi U T V k)(i:0∉S)(b:∀x,Tr O U T V x->cP 202 #[pt U,gS kd F.ak<|dV<|db<|F] x (rT (wv r) x))(h:Fr O H F S X C w)(l:([4,5,6,7,8,9,10,11,12,13,14,15,16,17,18,19,20,21,22]:Tl).all (λd=>decide (d<a.tmps.size))=true)(c1:tG a 1<|iI (kd:Int))(q:tG a 0<|pt H)(Y:∀u c s x,(db (F)=none\/dB (r) (A1<|db<|F)=none)->s.defers=a.defers->Kb S w x->Q (.panic [{v:=.iface u c,recovered:=false}]) s x)(hok:∀(x:WD)(t:Tl)(sv' mv':VL),Fr O H (A1<|dB (r)<|A1<|db<|F) t sv' mv' x->Kb S w x->(∀j∈t,j∈S\/w.heap.size<=j)->Q .normal (dQ a [(4,pt H),(5,pt H),(6,pq H 19),(7,pt H),(8,pt H),(9,pt H),(10,F.aC),(11,iI (kd:Int)),(12,pt H),(13,pt H),(14,pq H 3),(15,wv<|F.ak),(16,pt H),(17,pt H),(18,pq H 19),(19,wv<|dV<|db<|F),(20,gS kd F.ak<|dV<|db<|F),(21,wv<|r),(22,Value.tuple #[])]) x):(ym f268 0).wp prog Q a w:=by
 have L:∀k:Nat,100000<((λk=>match k with|0=>F|1=>A1 (db<|F)|_=>A1<|dB (r)<|A1<|db<|F) k).ac\/Same F ((λk=>match k with|0=>F|1=>A1 (db<|F)|_=>A1<|dB (r)<|A1<|db<|F) k):=by grind[Same.refl,fy,gV]
 exact fG (λk=>match k with|0=>F|1=>A1 _|_=>A1 _) h [(1,.int _ _),(0,.pointer _)] [(some 4,.v _),(some 5,.v _),(some 6,.v _),(some 7,.v _),(some 8,.v _),(some 9,.v _),(some 10,.v _),(some 11,.v _),(some 12,.v _),(some 13,.v _),(some 14,.v _),(some 15,.v _),(some 16,.v _),(some 17,.v _),(some 18,.v _),(some 19,.v _),(some 20,.v _),(some 21,.v _),(some 22,.v _)] [15,18] [6,11,16,17] (ha:=⟨N0,l,(eR c1<|eR q W),N0⟩) AF
  ⟨(λs x S1 R P D E G f I l K J=>pM (r:=db<|F) lZ (za<|I 18 _ W) (kO x D) W (λ_ _ e=>by rw[e];rfl) (λZ u c x' q=>Y u c s x' (LZ Z) f<|E.trans q G) J),(λs x S1 R P D E G f I l K J=>pM pT (xa (I 6 _ W)<|I 21 _ W) (ix x D) W (λ_ _ _=>W) (λZ u c x' q=>Y u c s x' (A4 Z) f<|E.trans q G) J),AF⟩
  ⟨(@λs x k S1 R P E n l K D I J=>by
    rcases L k with o|m
    .exact absurd D.aN (Nat.not_le.2 o)
    .exact dm (I W) ((rc D.row _).trans<|Xl _ m.aC) (kc J)),(@λs x k S1 R P E n l K D I J=>by
    rcases L k with o|m
    .exact absurd D.aN (Nat.not_le.2 o)
    have e:=m.ak;exact dD (I W) ((rc D.row _).trans<|Xl (λz=>some<|Value.int _<|cX z 0) e) ((rc D.row _).trans<|Xl (λz=>some<|Value.int _<|cX z 1) e) ((rc D.row _).trans<|Xl (λz=>some<|Value.int _<|cX z 2) e) ((rc D.row _).trans<|Xl (λz=>some<|Value.int _<|cX z 3) e)<|kc J),(λ_ I J=>zp (I W) (I W) (I W)<|kc J),(@λs x k S1 R P E n l K D I J=>eK Jo (xa (((I W)).trans p)<|I W) (b x<|htr.kb E A i)<|λe y b=>⟨_,b.1,J _ y b.2 nn1 W⟩),AF⟩
  λg x t sv' mv' D E G b=>hok x t _ _ D E G
def PhO(R:X4)(w:WD):Nat->X4
 |0,x=>bW w x
 |_,x=>R x
def kG{R:X4}(h:PhO R w k x)(C:k<=0):bW w x:=by
 match k,C,h with
 |0,_,h=>exact h
def Nj{b v c h:Nat}{R:X4}{a:Act}(rk:eI w c N)(rv:eI w h v)(X:H<w.heap.size)(Z:cL w H 0<|pt U)(I:∀x,bW w x->cL x H 3 (lu b 0)/\cL x H 4 (lu b 1)/\cL x H 5 (lu b 2)/\cL x H 6 (lu b 3))(O:∀x,bW w x->cP 154 #[pt U,.agg #[iI (kd:Int),lu b 0,lu b 1,lu b 2,lu b 3,lu N 0,lu N 1,lu N 2,lu N 3],wv v] x λe j=>e=AG/\R j)(m:bW w w.drew)(Y:([16,17,18,19,20,21,22,23,24,25,26,27,28]:Tl).all (λd=>decide (d<a.tmps.size))=true)(l:tG a 0<|pt H)(c1:tG a 1<|iI (kd:Int))(c4:tG a 4<|pt c)(c5:tG a 5<|pt h)(f:∀(x:WD),(PhO R w) 1 x->Q .normal (dQ a [(16,pt H),(17,pt H),(18,pt H),(19,pt U),(20,iI (kd:Int)),(21,pt H),(22,pt H),(23,pq H 3),(24,wv b),(25,wv N),(26,.agg #[iI (kd:Int),lu b 0,lu b 1,lu b 2,lu b 3,lu N 0,lu N 1,lu N 2,lu N 3]),(27,wv v),(28,Value.tuple #[])]) x):(ym f269 2).wp prog Q a w:=by
 refine nZ (PhO R w) (λ_ _ _=>True) [(0,.pointer _),(1,.int _ _),(4,.pointer _),(5,.pointer _)] [(some 16,.v<|pt H),(some 17,.v<|pt H),(some 18,.v _),(some 19,.v _),(some 20,.v<|iI kd),(some 21,.v<|pt H),(some 22,.v<|pt H),(some 23,.v _),(some 24,.v _),(some 25,.v _),(some 26,.v _),(some 27,.v _),(some 28,.v _)] [12] [3,8,9,11] (ha:=⟨N0,Y,(eR l<|eR c1<|eR c4<|eR c5 W),N0⟩) m
  ⟨(λC E G=>by refine eK xW (PE (E W) (E W)<|E W) (O _ C) ?_;rintro e y⟨rfl,o⟩;exact⟨_,W,G _ y o AF nn1 W⟩
  ),AF⟩
  ⟨(λD C E G=>by have k0:=((kG C (by have:=D 0 12;omega)).cell X).trans Z;exact dm (E W) k0 (kq G)
  ),(λD C E G=>by let⟨P,J,V,L⟩:=I _ (kG C (by have:=D 0 12;omega));exact dD (E W) P J V L (kq G)
  ),(λD C E G=>by let⟨P,J,V,L⟩:=cW (cY rk<|kG C (by have:=D 0 12;omega));exact dD (E W) P J V L (kq G)
  ),(λD C E G=>by let⟨P,J,V,L⟩:=cW (cY rv<|kG C (by have:=D 0 12;omega));exact dD (E W) P J V L (kq G)
  ),AF⟩
  (nl W) ?_
 intro g x C b;exact f x C
section
variable {S1:Tl}
structure FT(O H U:Nat)(F:Fz)(T:TS)(S:Tl)(X C:VL)(V:TV)(w:WD):Prop where
 fr:Fr O H F S X C w
 tr:Tr O U T V w
 ptr:F.aC=.pointer (some ⟨U,0,none⟩)
 bs:∀k∈S,¬bi U T V k
def KF(S:Tl)(U:Nat)(T:TS)(V:TV)(w w':WD):=∃S2,Kb S2 w w'/\∀k∈S2,k∈S\/bi U T V k
def To2(O H U:Nat)(F':Fz)(T:TS)(T':TS)(V:TV)(S:Tl)(m:Nat)(w w':WD):=∃S' sv' mv' V',FT O H U F' T' S' sv' mv' V' w'/\KF S U T V w w'/\(∀k∈S',k∈S\/w.heap.size<=k)/\(∀k,bi U T' V' k->bi U T V k\/w.heap.size<=k)/\V'.n<=V.n+m/\V'.ab=V.ab
def Out2(r:Option<|Fz×TS)(O H U:Nat)(T:TS)(V:TV)(S:Tl)(m:Nat)(w:WD)(e:Ending)(w':WD):Prop:=
 match r with
 |some (F',T')=>e=AG/\To2 O H U F' T T' V S m w w'
 |none=>LL e/\Kb S w w'
def FT.below(h:FT O H U F T S X C V w)(D:bW w w'):FT O H U F T S X C V w':=⟨h.fr.below D,h.tr.below D,h.ptr,h.bs⟩
def FT.bq(h:FT O H U F T S X C V w)(L:F'.aC=F.aC)(D:To O H F' S w w'):To2 O H U F' T T V S 0 w w':=by
 let⟨I,P,Q,J,E,G⟩:=D;refine⟨I,_,_,V,⟨J,h.tr.kb E h.bs h.fr.bu,L.trans h.ptr,λk Y Z=>?_⟩,⟨S,E,λk Y=>LZ Y⟩,G,λk Y=>LZ Y,DO _,W⟩;rcases G k Y with e|e
 .exact h.bs k e Z
 have:=h.tr.lt Z;omega
def FT.lift'{α:Type}{B:α->VL}{e:Ending}{r:Option<|Unit×Fz}(h:FT O H U F T S X C V w)(E:∀F',r=some ((),F')->F'.aC=F.aC)(D:gC r dR O H S w e w'):Out2 (r.map λy=>(y.2,T)) O H U T V S 0 w e w':=by
 cases r with
 |none=>exact D
 |some y=>let⟨⟨⟩,F'⟩:=y;exact⟨D.1,h.bq (E F' W) D.2⟩
def To2.comp(o:∀k∈S,k<w.heap.size)(b:∀k,bi U T V k->k<w.heap.size)(D:KF S U T V w w1)(j:∀k∈S1,k∈S\/w.heap.size<=k)(f:∀k,bi U T1 V1 k->bi U T V k\/w.heap.size<=k)(g:V1.n<=V.n+m)(Z:V1.ab=V.ab)(k:To2 O H U F2 T1 T2 V1 S1 m' w1 w2):To2 O H U F2 T T2 V S (m+m') w w2:=by
 let⟨S2,R,I,Q,E,⟨J,d,L⟩,P,k4,h,k6⟩:=k;let⟨G,D,Y⟩:=D;refine⟨S2,_,_,Q,E,⟨G++J.filter (λk=>decide (k<w.heap.size)),(D.mono<|λi b=>Xw _ b).trans d<|λi b=>?_,λi b=>?_⟩,λi b=>?_,λi b=>?_,wq,k6.trans Z⟩
 .grind
 .grind
 .rcases P i b with e|e
  .grind
  exact A4<|By D.size e
 rcases k4 i b with e|e
 .grind
 exact A4<|By D.size e
def nk(kd:Nat)(F:Fz)(T:TS):Option (Unit×Fz):=dX (db F)<|dB (xX T kd F.ak<|dV<|db F)<|A1<|db F
def Ip(Y:Nat)(w:WD)(h:FT O H U F T S X C V w)(G:∀x,Tr O U T V x->cP 202 #[pt U,gS Y F.ak<|dV<|db F] x (rT (wv<|xX T Y F.ak<|dV<|db F) x)):cP 268 #[pt H,iI (Y:Int)] w (gC (nk Y F T) dR O H S w):=by
 go_enter func268,ntmps268;go_wp2;refine SZ h.tr h.ptr h.bs h.fr.bu G h.fr W W W ?_ ?_
 .intro u pv s x I hd hk;have e:nk Y F T=none:=by
   rcases I with e|e
   .exact dE (LZ e)
   exact dE<|A4 e
  rw[e];exact⟨hd,⟨_,_,W⟩,hk⟩
 intro x Q R L D J E;have e:nk Y F T=_:=(ed λe=>gG (sR<|eD e) D).trans<|ou λe=>gG (eD e) D;have P:Hd (gC (nk Y F T) dR O H S w AG x):=by rw[e];exact⟨W,Q,_,_,D,J,E⟩
 simp only[n8];go_wp2;go_end0;exact P
def Tr.bu(h:Tr O U T V w):¬bi U T V 0:=by
 have aA:=h.aA;rintro(e|e|e|e|e|⟨t,ht,e⟩)
 .have D:=rc h.row 0;rw[<-e]at D;rw[h.zr.1.1]at D;cases D
 .exact qA h.zr (h.aw.isMap e) W
 .exact qA h.zr (e▸h.aP.is) W
 .have:=(h.ch.lt 0 e).1;omega
 .have:=(h.lo.2.1.lt 0 e).1;omega
 let⟨l,E⟩:=h.lo.tv ht;have:=(E.lt 0 e).1;omega
def tbT:(4:Nat)≠131:=K3
def tbC:(4:Nat)≠220:=K3
def tbL:(4:Nat)≠112:=K3
def Tr.bO(h:Tr O U T V w)(D:w.rowIs g 4 Nq9 f):¬bi U T V g:=by
 rintro(e|e|e|e|e|⟨t,ht,e⟩)
 .exact jT D h.row tbT e
 .exact gx D (h.aw.isMap e) W
 .exact gx D h.aP.is e
 .exact dS D h.ch tbC g e W
 .exact dS D h.lo.2.1 tbL g e W
 let⟨l,E⟩:=h.lo.tv ht;exact dS D E tb1 g e W
def FT.aC(h:FT O H U F T S X C V w)(L:TTo O U T V T' m w w'):To2 O H U F T T' V S m w w':=by
 let⟨Q,S2,P,J,I,E,G,R⟩:=L;refine⟨S,X,C,Q,⟨h.fr.kb I (λk Y D=>h.bs k Y<|E k D) (λD=>h.tr.bu<|E 0 D)<|λg Nq9 f Z D=>h.tr.bO Z<|E g D,P,h.ptr,λk Y Z=>?_⟩,⟨S2,I,λk Y=>A4<|E k Y⟩,λk Y=>LZ Y,G,J,R⟩;rcases G k Z with e|e
 .exact h.bs k Y e
 have:=h.fr.aU k Y;omega
def FT.next(h:FT O H U F T S X C V w)(G:F'.aC=F.aC)(E:Fr O H F' S' sv' mv' w')(D:Kb S w w')(I:∀k∈S',k∈S\/w.heap.size<=k):FT O H U F' T S' sv' mv' V w':=by
 refine⟨E,h.tr.kb D h.bs h.fr.bu,G.trans h.ptr,λk L J=>?_⟩;rcases I k L with e|e
 .exact h.bs k e J
 have:=h.tr.lt J;omega
def FT.aH(h:FT O H U F T S X C V w):∀k∈S,k<w.heap.size:=h.fr.aU
def qj(w:WD)(h:Fr O H F S X C w):cP 274 #[pt H] w λe w'=>(if F.ro=true then LL e else e=AG)/\w'=w:=by
 have D:=h.row.cell (i:=17) K3;rw[show F.cell X C 17=.bool _ from W]at D;cases E:F.ro
 .rw[E]at D;go_enter func274,ntmps274;go_wp2;go_end0;simp
 rw[E]at D;go_enter func274,ntmps274;go_wp2;exact⟨W,⟨_,_,W⟩,W⟩
def iP(kd:Nat)(F:Fz)(T:TS):Option (Fz×TS):=if F.ro=true then none else(dX (db F)<|dX (db<|A1<|db F)<|some ((),eb F)).map λy=>(y.2,iZ T kd F.ak (eP F)<|eV F)
def Pb:100000<(eb F).ac\/Same F (eb F):=fy<|fy<|A4<|Same.refl F
def Ea(c:Nat)(w:WD)(h:FT O H U F T S X C V w)(J:∀N v x,Tr O U T V x->cP 154 #[pt U,gS c F.ak N,wv v] x λe w'=>e=AG/\TTo O U T V (iZ T c F.ak N v) 2 x w'):cP 269 #[pt H,iI (c:Int)] w (Out2 (iP c F T) O H U T V S 2 w):=by
 go_enter func269,ntmps269;go_wp2_with fail
 refine(cV<|qj w h.fr).aa.mono ?_;rintro e z⟨Z,rfl⟩;by_cases E:F.ro=true
 .rw[At E]at Z;obtain⟨u,b,rfl⟩:=Z;refine⟨W,?_⟩;unfold iP;rw[At E];exact⟨⟨_,_,W⟩,Kb.refl _ _⟩
 rw[iF E]at Z;subst Z;go_wp2;refine Cz h.fr ?_ ?_
 .intro u b s x p hd l;have e:iP c F T=none:=by unfold iP;rw[iF E];grind[dE]
  rw[e];exact⟨hd,⟨_,_,W⟩,l⟩
 intro x S' sv' mv' b A D Q G q q L K n Y;have e:iP c F T=some (eb F,iZ T c F.ak (eP F)<|eV F):=by unfold iP;rw[iF E,ed λe=>gG (lO<|eD e) D,ed λe=>gG (eD e) D];rfl
 have P:=(Pb (F:=F)).resolve_left<|λq=>absurd D.aN K9;have HE:=cV e;change Fr O H (eb F) S' sv' mv' x at D;change eI x b (eP F)at L;change eI x A (eV F)at Y;have j:=h.next P.aC D Q G;have I:∀y,bW x y->cL y H 3 (lu F.ak 0)/\cL y H (3+1) (lu F.ak 1)/\cL y H (3+2) (lu F.ak 2)/\cL y H (3+3) (lu F.ak 3):=by intro y d;have b:=cY D.row d;rw[<-P.ak];exact⟨rc b _,rc b _,rc b _,rc b _⟩
 simp only[n8];simp;go_wp2;refine Nj (R:=λy=>TTo O U T V (iZ T c F.ak (eP F)<|eV F) 2 x y) L Y D.row.lt ((rc D.row 0).trans<|Xl _ j.ptr) I ?_ (dO _ _).drew W W W W W ?_
 .intro y d;exact(J _ _ y<|j.tr.below d).mono λe w'⟨Z,i⟩=>⟨Z,TTo.pre d i⟩
 intro y o;have t:Hd (Out2 (iP c F T) O H U T V S 2 z AG y):=by show Out2 _ _ _ _ _ _ _ _ _ _ _;rw[HE.aa];exact⟨W,To2.comp h.aH (λk l=>h.tr.lt l) ⟨S,Q,λk l=>LZ l⟩ G (λk l=>LZ l) (DO _) W<|j.aC o⟩
 clear o HE P Q G L Y I j D J h;simp only[n8];simp;go_wp2;go_end0;exact t
def Fr.kb1(h:Fr O H F S X C w)(I:Kb [b] w w')(J:b∉S)(E:0<b)(L:eI w b n):Fr O H F S X C w':=h.kb I (λk I D=>J K9) (λD=>K9)<|λg N f G D=>jT G L tb1<|BY.1 D
def eZ(J:Nat)(F:Fz):Option (Nat×Fz):=if J=241 then db F else some (0,F)
def Gg(J:Nat)(A:J<=255)(w:WD)(h:Fr O H F S X C w):cP 276 #[pt H,iB (J:Int)] w (gC (eZ J F) wv O H S w):=by
 have R:Below _ w (w.alloc zc):=ai (dO _ w) _;have D:=h.below R;unfold eZ;by_cases j:J=241
 .rw[At j];subst j;have Y:=cV<|kO _ D;have Z:=cV R;have E:=h.aU;have P:=cV h.hs;cases v:db F with
  |none=>
   rw[v]at Y;clear h D R;go_enter func276,ntmps276;go_wp2_with fail
   refine Y.mono ?_;rintro e x⟨⟨u,pv,rfl⟩,l⟩;exact⟨W,⟨_,_,W⟩,(Kb.h Z).trans l<|λi q=>LZ q⟩
  |some r=>
   let⟨n,F1⟩:=r;rw[v]at Y;have m:=cV<|yJ w;have G:=cV E;clear h D R E v;go_enter func276,ntmps276;go_wp2_with fail
   refine Y.mono ?_;rintro e x⟨rfl,S',c,y,hf,l,hs⟩;have I:w.heap.size∉S':=λg=>(hs _ g).elim (λh=>absurd (G _ h)<|Yg _) (λh=>by simp at h;omega);have a:eI x _ 0:=l.row m<|λg=>absurd (G _ g)<|Yg _;have hfz:=a.frozen;let⟨q0,q1,q2,q3⟩:=cW a;have s:=cV<|(Kb.h Z).trans l<|λi q=>LZ q;have t:Hd _:=λk l=>(hs k l).imp id<|λh=>By Z.size h;have z:=cV hf;have d:=cV I;have o:=cV a;go_wp2;let⟨Q,f⟩:=dP<|(((x.setCell ⟨w.heap.size,0,none⟩<|iU<|cX n 0).setCell ⟨w.heap.size,1,none⟩<|iU<|cX n 1).setCell ⟨w.heap.size,2,none⟩<|iU<|cX n 2).setCell ⟨w.heap.size,3,none⟩<|iU<|cX n 3;rw[<-f.aa];have N:eI Q w.heap.size n:=by rw[f.aa];refine((((o.set 0 _).set 1 _).set 2 _).set 3 _).congr λi q=>?_;rcases NC q with rfl|rfl|rfl|rfl<;>rfl
   have L:Hd (Kb [w.heap.size] x Q):=by show Kb _ _ _;rw[f.aa];exact((((Kb.refl _ x).setCell AI _).setCell AI _).setCell AI _).setCell AI _
   let⟨y0,p,y2,K⟩:=cW N;refine sp (by simp[results,results276,go_sem,y0,p,y2,K]) W ⟨W,?_⟩;exact⟨S',_,_,z.kb1 L d (Xg P<|DO _) o,s.trans L<|λi q=>A4 K9,t⟩
 rw[iF j];have I:((J:Int)==241)=false:=K9
 obtain⟨z0,z1,z2,z3⟩:_/\_/\_/\_:=⟨D.zr 0 wq,D.zr 1 wq,D.zr 2 wq,D.zr 3 wq⟩
 have HT:Hd (To _ H F S w _):=⟨S,X,C,D,Kb.h R,λk l=>LZ l⟩
 go_enter func276,ntmps276;go_wp2;refine sp (by unfold wv;rw[dK,dK,dK,dK];simp[results,results276,go_sem]) W ⟨W,HT⟩
def sD(F:Fz):Nat:=F.ac-F.ac/64
def eA(F:Fz)(a:Nat):Nat:=if a%M<=sD F then a%M else sD F
def DJ(a:Nat)(w:WD)(h:Fr O H F S X C w):cP 279 #[pt H,wv a] w (rT (iI (eA F a:Int)) w):=by
 have J:Below _ w (w.alloc<|wc a):=ai (dO _ w) _;have g:(w.alloc _).drew.cell? _=some (.int _ _):=(h.below J.drew).row.cell (i:=16) K3;have f:=h.aN;let⟨m,P⟩:=hJ<|sD F;have Z:m<=100000:=by grind[sD]
 have o:F.ac-(F.ac:Int)/64=m:=by grind[sD]
 have j:F.ac-Int.tdiv (F.ac:Int) 64=m:=K9
 have D:eI _ _ a:=(W1.start w a).ra.drew;unfold eA;rw[<-P];clear P;by_cases I:a%M<=m
 .rw[At I];have G:=cV<|nu a m wq I;let⟨z,Q⟩:=dP<|a%M;rw[<-Q.aa];have E:=cV J;let⟨R,l,p,Y⟩:=cW D;go_enter func279,ntmps279;go_wp2;go_region;go_wp2_with fail
  refine(G _).mono ?_;rintro e x⟨k,d,rfl,c⟩;have L:Hd _:=E.aa.drew.trans<|c.mono E.drew.size;cases(d.aa.trans Q.symm:k=z);go_wp2;go_ret;exact⟨W,L⟩
 rw[iF I];have G:=cV<|oh a m wq wq;have E:=cV J;let⟨R,l,p,Y⟩:=cW D;go_enter func279,ntmps279;go_wp2;go_region;go_wp2_with fail
 refine(G _).mono ?_;rintro e x⟨rfl,c⟩;have L:Hd _:=E.aa.drew.trans<|c.mono E.drew.size;go_wp2;go_ret;exact⟨W,L⟩
def RF(a b:Nat):decide (0<=gP a b)=decide (b%M<=a%M):=by grind[gP]
def jV(F:Fz)(T:TS)(v:Nat):Bool:=decide (F.depth<16)&&decide (v%M<=(T.aw F.ak).ai%M)
def Et(v:Nat)(w:WD)(h:FT O H U F T S X C V w)(D:F.depth<=1000):cP 277 #[.pointer<|some ⟨H,0,none⟩,wv v] w (rT (.bool<|jV F T v) w):=by
 have G:Below _ w (w.alloc<|wc v):=ai (dO _ w) _;have f:=h.below G;have c:=h.tr;have E:∀o,o<27->(w.alloc _).cell? _=some (({F with aC:=.pointer _}:Fz).cell X C o):=λo D=>by rw[(show({F with aC:=.pointer<|some ⟨U,0,none⟩})=F by rw[<-h.ptr])];exact f.fr.row.cell D
 have Q:=f.fr.row.lt;by_cases Bp:F.depth<16
 .have g:Hd (jV F T v=decide (0<=gP (T.aw F.ak).ai v)):=by show jV F T v=_;unfold jV;rw[OsQ Bp,RF,YG]
  rw[g.aa];go_enter func277,ntmps277;go_wp2;refine dy (λ_ x=>Below _ (w.alloc<|wc v) x) (λ_ _ _=>True) [(0,(.pointer _)),(3,(.pointer _))] (nV 5 [.pointer<|some ⟨H,0,none⟩,.pointer<|some ⟨H,0,none⟩,_,_,.bool _,.bool true,.pointer<|some ⟨H,0,none⟩,.pointer<|some ⟨H,0,none⟩,_,_,.pointer<|some ⟨H,0,none⟩,.pointer<|some ⟨H,0,none⟩,_,_,_,_,_,_,.bool<|decide (0<=gP (T.aw F.ak).ai v)]++[(some 4,.v<|.bool<|decide (0<=gP (T.aw F.ak).ai v))]) [] [3,4,9,13,14,15,16,17] ((dO _ _).drew) (λ_ _ _ h d=>h.trans<|d.mono h.size)
    True.intro
    ⟨(@λk s x Y P J Z K L D hv I=>by
     exact dm (hv W) ((D.cell Q).trans<|E 18 K3)<|kx I),(@λk s x Y P J Z K L D hv I=>by
     refine rR @hv ?_<|kx I;show Result.ok (Next.value<|.bool<|decide ((F.depth:Int)<16)) x=_;rw[dT<|(F.depth:Int)<16]),(@λk s x Y P J Z K L D hv I=>by
     exact dm (hv W) ((D.cell Q).trans<|E 0 K3)<|kx I),(@λk s x Y P J Z K L D hv I=>by
     exact dD (hv W) ((D.cell Q).trans<|E 3 K3) ((D.cell Q).trans<|E 4 K3) ((D.cell Q).trans<|E 5 K3) ((D.cell Q).trans<|E 6 K3)<|kx I),(@λk s x Y P J Z K L D hv I=>by
     refine o6 @hv (nh F.ak x<|c.below<|G.trans<|D.mono G.size) (λv y h=>?_) (λl y h=>absurd h.1 K2)<|λy h=>absurd h.1 K2;let⟨e,d⟩:=h;injection e with e;subst e;exact I _ y d nn1 W),(@λk s x Y P J Z K L D hv I=>by
     let⟨j,m,p,q⟩:=cW<|cY ((W1.start w v).ra) D;exact dD (hv W) j m p q<|kx I),(@λk s x Y P J Z K L D hv I=>by
     refine o6 @hv (ke (T.aw F.ak).ai v x) (λv y h=>?_) (λl y h=>absurd h.1 K2)<|λy h=>absurd h.1 K2;let⟨e,d⟩:=h;injection e with e;subst e;exact I _ y d nn1 W),(@λk s x Y P J Z K L D hv I=>rR @hv W<|kx I),AF⟩
    (nl W) (nl W) ?_
  intro I x D _;have I:=cV<|G.trans<|D.mono G.size;clear D E Q c G;simp only[n8,sx9];go_wp2;go_ret;exact⟨W,I⟩
 have D:=dF<|(F.depth:Int)<16;have g:Hd (jV F T v=false):=by show jV F T v=_;unfold jV;rw[W8 Bp,Bool.false_and]
 rw[g.aa];have D:=(cY f.fr.row (dO _ _).drew).cell (i:=18) K3;rw[show F.cell X C 18=.int _ _ from W]at D;have D:=cV G;clear h f E c G;go_enter func277,ntmps277;go_wp2;go_region;go_wp2;go_ret;exact⟨W,D.drew⟩
def nL{p:Prop}(h:p):Hd p:=h
def pA(J:Nat):Bool:=(decide (1<=J)&&decide (J<=11))||(decide (16<=J)&&decide (J<=29))
def mO(J:Nat):Bool:=decide (95<=J)&&decide (J<=127)
def uM(J:Nat):Bool:=decide (128<=J)&&decide (J<=143)
def pQ(J:Nat):Bool:=decide (144<=J)&&decide (J<=159)
def A8(J:Nat):Bool:=decide (160<=J)&&decide (J<=164)
def jW{f:Nat}{N:Nat->Bool}(D:f=235/\N=mO\/f=237/\N=uM\/f=239/\N=pQ\/f=241/\N=A8)(J:Nat)(h:J<=255)(w:WD):cP f #[iB (J:Int)] w λe C=>e=.returned (.bool<|N J)/\C=w:=by
 rcases D with⟨rfl,rfl⟩|⟨rfl,rfl⟩|⟨rfl,rfl⟩|⟨rfl,rfl⟩;case' inl=>go_enter func235,ntmps235
 case' inr.inl=>go_enter func237,ntmps237
 case' inr.inr.inl=>go_enter func239,ntmps239
 case' inr.inr.inr=>go_enter func241,ntmps241
 all_goals go_wp2
 all_goals go_ret
 all_goals(refine⟨Xl (λz=>Ending.returned<|Value.bool z) ?_,W⟩;grind[mO,uM,pQ,A8])
def eY(J:Nat)(h:J<=255)(w:WD):cP 231 #[iB (J:Int)] w λe C=>e=.returned (.bool<|pA J)/\C=w:=by
 have D:decide (1<=(J:Int))=decide (1<=J):=K9
 have H:decide ((J:Int)<=11)=decide (J<=11):=K9
 have E:decide (16<=(J:Int))=decide (16<=J):=K9
 have G:decide ((J:Int)<=29)=decide (J<=29):=K9
 unfold pA;go_enter func231,ntmps231;go_wp2;all_goals go_ret
 all_goals(refine⟨Xl (λz=>Ending.returned<|Value.bool z) ?_,W⟩;grind)
def Ei(J:Nat):Bool:=decide (J=241)||decide (J=244)||decide (J=250)
def yy(J:Nat)(h:J<=255)(w:WD):cP 243 #[iB (J:Int)] w λe C=>e=.returned (.bool<|Ei J)/\C=w:=by
 have D:((J:Int)==241)=decide (J=241):=K9
 have G:((J:Int)==244)=decide (J=244):=K9
 have E:((J:Int)==250)=decide (J=250):=K9
 unfold Ei;go_enter func243,ntmps243;go_wp2;all_goals go_ret
 all_goals simp_all
def wN(J:Nat):Yt:=if pA J then some 5 else if mO J then some 3 else if uM J then some 3 else if pQ J then some 3 else if A8 J then some 300 else none
def eF(J:Nat):Yt:=
 if J=0\/J=243\/J=253 then some 0 else if J=91 then some 1
 else if J=48\/J=51\/J=52\/J=54\/J=56\/J=61\/J=80\/J=88\/J=89\/J=90 then some 2
 else if J=53\/J=55\/J=57\/J=62\/J=81\/J=82\/J=83\/J=94 then some 3
 else if J=86 then some 8 else if J=87\/J=10 then some 10
 else if J=49\/J=84\/J=92\/J=93\/J=241\/J=244\/J=250 then some 100 else if J=85 then some 200 else wN J
def uf(o:Yt):VL:=.tuple #[.int .i64 ((o.getD 0:Nat):Int),.bool o.isSome]
def ug(J:Nat)(h:J<=255)(w:WD):cP 230 #[iB (J:Int)] w λe H=>e=.returned (uf<|wN J)/\H=w:=by
 have G:=nL<|eY J h;have E:=nL<|jW (LZ ⟨W,W⟩) J h;have I:=nL<|jW (A4<|LZ ⟨W,W⟩) J h;have D:=nL<|jW (A4<|A4<|LZ ⟨W,W⟩) J h;have L:=nL<|jW (A4<|A4<|A4 ⟨W,W⟩) J h;unfold wN;generalize pA J=O at*;generalize mO J=b2 at*;generalize uM J=b3 at*;generalize pQ J=b4 at*;generalize A8 J=b5 at*;cases O<;>cases b2<;>cases b3<;>cases b4<;>cases b5
 all_goals(
  go_enter func230,ntmps230;go_wp2_with(first
   |(go_at_call 231;refine(G.aa _).mono ?_;rintro e C⟨rfl,rfl⟩)
   |(go_at_call 235;refine(E.aa _).mono ?_;rintro e C⟨rfl,rfl⟩)
   |(go_at_call 237;refine(I.aa _).mono ?_;rintro e C⟨rfl,rfl⟩)
   |(go_at_call 239;refine(D.aa _).mono ?_;rintro e C⟨rfl,rfl⟩)
   |(go_at_call 241;refine(L.aa _).mono ?_;rintro e C⟨rfl,rfl⟩))
  go_ret2;exact⟨W,W⟩)
def tI(h:J<=255)(w:WD):cP 203 #[iB (J:Int)] w λe E=>e=.returned (uf<|eF J)/\E=w:=by
 have D:=nL<|ug J h;have C:Hd (∀q:Nat,eF J=some q->Value.tuple #[.int _ q,.bool true]=uf (eF J)):=λq e=>by rw[e];rfl
 have G:Hd (eF J=wN J->Value.tuple _=uf (eF J)):=λe=>by rw[e];rfl
 unfold uf at D;generalize uf (eF J)=V at*;go_enter func203,ntmps203;go_wp2_with(go_at_call 230;refine(D.aa _).mono ?_;rintro e H⟨rfl,rfl⟩);all_goals go_ret2
 all_goals refine⟨Xl Ending.returned ?_,W⟩
 all_goals first
  |exact C 0 (by simp only[X1,Xb,ne_eq]at*;unfold eF;rw[AV])
  |exact C 1 (by simp only[X1,Xb,ne_eq]at*;unfold eF;rw[AQ,AV])
  |exact C 2 (by simp only[X1,Xb,ne_eq]at*;unfold eF;rw[AQ,AQ,AV])
  |exact C 3 (by simp only[X1,Xb,ne_eq]at*;unfold eF;rw[AQ,AQ,AQ,AV])
  |exact C 8 (by simp only[X1,Xb,ne_eq]at*;unfold eF;rw[AQ,AQ,AQ,AQ,AV])
  |exact C 10 (by simp only[X1,Xb,ne_eq]at*;unfold eF;rw[AQ,AQ,AQ,AQ,AQ,AV])
  |exact C 100 (by simp only[X1,Xb,ne_eq]at*;unfold eF;rw[AQ,AQ,AQ,AQ,AQ,AQ,AV])
  |exact C 200 (by simp only[X1,Xb,ne_eq]at*;unfold eF;rw[AQ,AQ,AQ,AQ,AQ,AQ,AQ,AV])
  |exact G (by simp only[Xb,ne_eq]at*;unfold eF;rw[AQ,AQ,AQ,AQ,AQ,AQ,AQ,AQ])
def fY(J:Nat):Nat:=if J=21\/J=25 then 1 else if J=8\/J=9 then 3 else 2
def jy(J:Nat)(h:J<=255)(w:WD):Calls prog 256 #[.int .u8 (J:Int)] w λe D=>e=.returned (.int .i64 (fY J:Int))/\D=w:=by
 have C:Hd (∀q:Nat,fY J=q->Value.int .i64 q=.int _ (fY J)):=λq e=>by rw[e]
 generalize Value.int .i64 (fY J:Int)=V at*;go_enter func256,ntmps256;go_wp2
 all_goals go_ret
 all_goals refine⟨Xl Ending.returned ?_,W⟩
 all_goals first
  |exact C.aa 1 (by simp only[X1,Xb,ne_eq]at*;unfold fY;rw[AV])
  |exact C.aa 3 (by simp only[X1,Xb,ne_eq]at*;unfold fY;rw[AQ,AV])
  |exact C.aa 2<|by grind[fY]
def eM:Nat->Fz->Option (Tl×Fz)
 |0,F=>some ([],F)
 |i+1,F=>match eM i F with
  |none=>none
  |some (l,G)=>match db G with
   |none=>none
   |some (n,G')=>some (l++[n],G')
theorem mN{F:Fz}{i:Nat}(h:eM i F=none):∀j,i<=j->eM j F=none
 |0,hj=>K9
 |j+1,hj=>by
  by_cases e:i=j+1
  .grind
  rw[eM,mN h j wq]
theorem lj{F:Fz}:∀{i:Nat}{l:Tl}{G:Fz},eM i F=some (l,G)->l.length=i
 |0,l,G,h=>by obtain⟨rfl,_⟩:=Xi<|hV h;rfl
 |i+1,l,G,h=>by
  rw[eM]at h;split at h
  .cases h
  rename_i D E C;split at h
  .cases h
  obtain⟨rfl,_⟩:=Xi<|hV h;rw[Xm,lj C];rfl
def KX(l:Tl):Vp:=λi=>.int .u64<|cX (l.getD (i/4) 0)<|i%4
end
def yq{a:Act}(w:WD){b L:Nat}(Z:eI w b<|L)(J:b∉S)(h:Fr O H F S X C w)(m:([39,40,41,42,43]:Tl).all (λd=>decide (d<a.tmps.size))=true)(c6:tG a 6<|pt b)(c:tG a 0<|pt H)(I:∀u b s x,(dB (L) (F)=none)->s.defers=a.defers->Kb S w x->Q (.panic [{v:=.iface u b,recovered:=false}]) s x)(p:∀(x:WD)(P:Tl)(sv' mv':VL),Fr O H (A1<|dB (L)<|F) P sv' mv' x->Kb S w x->(∀j∈P,j∈S\/w.heap.size<=j)->Q .normal (dQ a [(39,pt H),(40,pt H),(41,pq H 19),(42,wv<|L),(43,Value.tuple #[])]) x):(ym f232 9).wp prog Q a w:=by
 exact fG (λk=>match k with|0=>F|_=>A1 _) h [(6,.pointer _),(0,.pointer _)] [(some 39,.v _),(some 40,.v _),(some 41,.v _),(some 42,.v _),(some 43,.v _)] [4] [3] (ha:=⟨N0,m,(eR c6<|eR c W),N0⟩) AF
  ⟨(λs x S1 o V G D E Y R l K f=>pM pT (xa (R 41 _ W)<|R 42 _ W) (ix x G) W (λ_ _ _=>W) (λU u b y c=>I u b s y U Y<|D.trans c E) f),AF⟩
  ⟨(@λs x k S1 o V D z l K G R f=>eo 6 42 (R W) (D.row Z J)<|kc f),AF⟩
  λg x P sv' mv' G D E b=>p x P _ _ G D E
def re(J:Nat)(F:Fz):Option (Unit×Fz):=match eM (fY J) F with
 |none=>none
 |some (l,G)=>match(if J=10 then im (10*(pl (l.getD 1 0) 0).length) G else some ((),G))with
  |none=>none
  |some (_,G2)=>dB (ep J (l.getD 0 0%M) (l.getD 1 0%M)<|l.getD 2 0%M) G2
structure OL(O H:Nat)(F:Fz)(S:Tl)(w:WD)(l:Tl)(G:Fz)(S':Tl)(sv' mv':VL)(x:WD):Prop where
 fr:Fr O H G S' sv' mv' x
 kb:Kb S w x
 sub:∀j∈S',j∈S\/w.heap.size<=j
 row:x.rowIs w.heap.size 284 12 (KX l)
 aa:w.heap.size∉S'
 hw:0<w.heap.size
def OL.start(h:Fr O H F S X C w):OL O H F S w [] F S X C (w.alloc<|.cells #[iU 0,iU 0,iU 0,iU 0,iU 0,iU 0,iU 0,iU 0,iU 0,iU 0,iU 0,iU 0] 284):=by refine⟨h.below<|ai (dO _ w) _,Kb.h<|ai (dO _ w) _,λj E=>LZ E,?_,λD=>Yg _<|h.aU _ D,h.hs⟩;refine World.rowIs_alloc w _ _ _ λi I=>?_;rcases zZ (I)with rfl|rfl|rfl|rfl|rfl|rfl|rfl|rfl|rfl|rfl|rfl|rfl<;>simp[KX,cX]
def tb4:(4:Nat)≠284:=K3
def P7(x:WD)(b o n:Nat):WD:=(((x.setCell ⟨b,o,none⟩<|lu n 0).setCell ⟨b,o+1,none⟩<|lu n 1).setCell ⟨b,o+2,none⟩<|lu n 2).setCell ⟨b,o+3,none⟩<|lu n 3
def OP(x:WD)(b o n:Nat):Kb [b] x (P7 x b o n):=((((Kb.refl [b] x).setCell AI _).setCell AI _).setCell AI _).setCell AI _
def OE{l:Tl}(h:x.rowIs b 284 12<|KX l)(n:Nat):(P7 x b (l.length*4) n).rowIs b 284 12 (KX<|l++[n]):=by
 refine((((h.set _ _).set _ _).set _ _).set _ _).congr λi I=>?_;have E:∀j,j≠l.length->(l++[n]).getD j 0=l.getD j 0:=λj D=>K9
 grind[KX]
def OL.step{l:Tl}{P:Fz}{S'':Tl}{E D:VL}(h:OL O H F S w l G S' sv' mv' x)(c:Fr O H P S'' E D x')(Y:Kb S' x x')(Z:∀j∈S'',j∈S'\/x.heap.size<=j)(n:Nat):OL O H F S w (l++[n]) P S'' E D (P7 x' w.heap.size (l.length*4) n):=by have R:=h.row.lt;have V:w.heap.size∉S'':=λQ=>(Z _ Q).elim h.aa<|λL=>wq;have I:=OP x' w.heap.size (l.length*4) n;have U:=h.hw;exact⟨c.kb I (λj J=>K9) K9<|λg N f c Q=>jT c (Y.row h.row h.aa) tb4 K9,(h.kb.trans Y h.sub).trans I<|λj J=>A4 K9,λj J=>(Z j J).elim (h.sub j)<|λL=>A4<|By h.kb.size L,OE (Y.row h.row h.aa) n,V,U⟩
def o5{T:Nat}{l:Tl}(h:x.rowIs b T 12<|KX l):(cL x b 0 (lu (l.getD 0 0) 0)/\cL x b 1 (lu (l.getD 0 0) 1)/\cL x b 2 (lu (l.getD 0 0) 2)/\cL x b 3 (lu (l.getD 0 0) 3))/\(cL x b 4 (lu (l.getD 1 0) 0)/\cL x b 5 (lu (l.getD 1 0) 1)/\cL x b 6 (lu (l.getD 1 0) 2)/\cL x b 7 (lu (l.getD 1 0) 3))/\(cL x b 8 (lu (l.getD 2 0) 0)/\cL x b 9 (lu (l.getD 2 0) 1)/\cL x b 10 (lu (l.getD 2 0) 2)/\cL x b 11 (lu (l.getD 2 0) 3)):=by have D:∀i,i<12->cL x b i (KX l i):=λi E=>h.cell E;exact⟨⟨D 0 wq,D 1 wq,D 2 wq,D 3 wq⟩,⟨D 4 wq,D 5 wq,D 6 wq,D 7 wq⟩,D 8 wq,D 9 wq,D 10 wq,D 11 wq⟩
def J3(J:Nat)(ho:J<=255)(w:WD)(h:Fr O H F S X C w):
  Calls prog 232 #[pt H,.int .u8 (J:Int)] w (gC (re J F) dR O H S w):=by
 have v:=cV<|jy J ho;have hk:fY J<=3:=by grind[fY]
 obtain⟨R,I⟩:=dP<|re J F;rw[<-I.aa];unfold re at I;generalize fY J=k at*;have HF:=cV h;go_enter func232,ntmps232;go_wp2_with fail
 refine(v.aa _).mono ?_;rintro e v⟨rfl,rfl⟩;go_wp2
 go_loopw[10] (λz x=>∃(i:Nat)(l:Tl)(G:Fz)(S':Tl)(sv' mv':VL),i<=k/\z=.int .i64 (i:Int)/\Hd (eM i F=some (l,G))/\OL O H F S w l G S' sv' mv' x) (λz _=>k-nI z)
 case atStart=>exact⟨0,[],F,S,X,C,wq,W,W,OL.start HF.aa⟩
 case round=>
  obtain⟨i,l,G,S',sv',mv',v,rfl,HL,o⟩:=hrel;have D:=cV o;by_cases v:i<k
  .have d:=dN i k;have P:=cV<|kO _ o.fr;cases v:db G with
   |none=>
    obtain rfl:R=none:=by rw[I.aa,mN (show eM (i+1) F=none by rw[eM,HL.aa];grind) k wq]
    rw[v]at P;go_wp2_with fail
    refine P.aa.mono ?_;rintro e x2⟨⟨u,pv,rfl⟩,E⟩;exact⟨W,⟨_,_,W⟩,D.aa.kb.trans E D.aa.sub⟩
   |some r=>
    obtain⟨n,G'⟩:=r;rw[v]at P;have v:Hd (eM (i+1) F=some (l++[n],G')):=by show _=_;rw[eM,HL.aa];grind
    go_wp2_with fail
    refine P.aa.mono ?_;rintro e x2⟨rfl,S2,a4,b6,hf2,E,f⟩;have L:=E.row D.aa.row D.aa.aa;have a7:=cV<|D.aa.step hf2 E f n;have hfz:=L.frozen;have c0:=L.cell (i:=i*4) wq;have c1:=L.cell (i:=i*4+1) wq;have c2:=L.cell (i:=i*4+2) wq;have c3:=L.cell (i:=i*4+3) wq;have hi3:i<3:=wq
    go_wp2;refine⟨⟨_,_,G',S2,a4,b6,wq,N1,v,?_⟩,by grind[nI]⟩;have v:=a7.aa;rwa[lj HL.aa]at v
  .obtain rfl:i=k:=wq
   have d:=dG i i;rw[HL.aa]at I;obtain⟨a,HA⟩:=dP<|l.getD 0 0;obtain⟨b,HB⟩:=dP<|l.getD 1 0;obtain⟨c,a8⟩:=dP<|l.getD 2 0;obtain⟨y,HY⟩:=dP<|ep J (a%M) (b%M)<|c%M;replace I:Hd (R=match(if J=10 then im (10*(pl b 0).length) G else some ((),G))with|none=>none|some (_,G2)=>dB y G2):=by rw[I.aa,HY.aa,HA.aa,HB.aa,a8.aa];rfl
   have a6:=cV<|tR J ho a b c;rw[<-HY.aa]at a6;have Q:=D.aa.row;clear o;by_cases T:J=10
   case' pos=>
    have N:((J:Int)==10)=true:=K9
    obtain⟨-,⟨b0,b1,b2,b3⟩, -⟩:=o5 Q;rw[<-HB.aa]at b0 b1 b2 b3;obtain⟨m,HM⟩:=dP<|(pl b 0).length;have hm32:m<=32:=by rw[HM.aa];exact Qz b 0
    have a5:=cV<|qe b;rw[At T,<-HM.aa]at I;rw[<-HM.aa]at a5;go_wp2_with fail
    refine(a5.aa _).mono ?_;rintro e x1⟨rfl,aA⟩
    have HPA:Hd (Calls prog 204 #[pt H,.int .i64<|10*m] x1<|gC (im (10*m) G) dR O H S' x1):=by
     have v:=E4 (10*m) wq x1<|D.aa.fr.below aA;rwa[show((10*m:Nat):Int)=10*m by omega]at v
    have Z:=cV<|D.aa.kb.below aA;have Y:=cY Q aA;clear aA b0 b1 b2 b3 N T;go_wp2_with fail
    refine HPA.aa.mono ?_;rcases b9:im (10*m) G with _|⟨u,G3⟩
    .rintro e x2 ⟨⟨u,pv,rfl⟩,E⟩;obtain rfl:R=none:=by rw[I.aa,b9]
     exact⟨W,⟨_,_,W⟩,Z.aa.trans E D.aa.sub⟩
    rintro e x2⟨rfl,S3,v,v,p,K,v⟩;rw[b9]at I;have A:=K.row Y D.aa.aa;have t:=cV<|Z.aa.trans K D.aa.sub;have V:Hd (∀j∈S3,j∈S\/w.heap.size<=j):=λj hj=>(v j hj).elim (D.aa.sub j)<|λh=>A4<|By Z.aa.size h
    clear K v Y
   case' neg=>
    have N:((J:Int)==10)=false:=K9
    rw[iF T]at I;obtain⟨x2,rfl⟩:=hJ wr;obtain⟨G3,rfl⟩:=hJ G;have p:=D.aa.fr;have A:=Q;have t:=cV D.aa.kb;have V:=cV D.aa.sub
   all_goals
    replace I:Hd (R=dB y G3):=I;have b7:=cV p;obtain⟨⟨v,a1,a2,a3⟩,⟨b0,b1,b2,b3⟩,⟨c0,c1,c2,c3⟩⟩:=o5 A;rw[<-HA.aa]at v a1 a2 a3;rw[<-HB.aa]at b0 b1 b2 b3;rw[<-a8.aa]at c0 c1 c2 c3;clear p Q A;go_wp2_with fail
    refine(a6.aa _).mono ?_;rintro e x4⟨r,HQ,rfl,v⟩;obtain rfl:r=y:=HQ.aa;have a9:=cV v;go_wp2;have v:Below _ x2 (x4.alloc<|wc r):=ai a9.aa _;have g:=t.aa.below v;refine yq (x4.alloc<|wc r) (jf x4 r) (λhm=>by have h5:=b7.aa.aU _ hm;have h6:=a9.aa.size;omega) (b7.aa.below v) W W W ?_ ?_
    .intro u pv s x hno hd hk;refine⟨hd,?_⟩;rw[I.aa,hno];exact⟨⟨_,_,W⟩,g.trans hk V.aa⟩
    .intro x S2 a4 b6 U E f;rw[I.aa];cases v:dB r G3 with
     |none=>
      rw[v]at U;exact absurd U<|λh=>rM h
     |some q=>
      obtain⟨u,G2⟩:=q;rw[v]at U
      first|go_end0|refine sp (ZW W _ _ _) W ?_
      exact⟨W,S2,_,_,U,g.trans E V.aa,λj hj=>(f j hj).elim (V.aa j)<|λh=>A4<|By g.size h⟩
def oi(Post:Ending->X4):=∀e w,Post e w->e=AG\/LL e
def fD{r:Option<|Fz×TS}:oi (Out2 r O H U T V S m w):=λe C h=>by unfold Out2 at h;grind
def rX{f:Nat}(H J:Nat)(C:J<=255)(w:WD)(g:oi Post)(h:(pA J=true)/\f=232/\args=#[pt H,iB (J:Int)]\/(48<=J/\J<=62)/\f=233/\args=#[pt H,iB (J:Int)]\/(80<=J/\J<=94)/\f=234/\args=#[pt H,iB (J:Int)]\/(J=0\/J=243\/J=253)/\f=245/\args=#[pt H,iB (J:Int)]\/(J=241\/J=244\/J=250)/\f=244/\args=#[pt H,iB (J:Int)]\/(95<=J/\J<=127)/\f=236/\args=#[pt H,iI ((J-95:Nat):Int)]\/(128<=J/\J<=143)/\f=238/\args=#[pq H 19,iI<|((J-128:Nat):Int)+1]\/(144<=J/\J<=159)/\f=240/\args=#[pq H 19,iI<|((J-144:Nat):Int)+1]\/(160<=J/\J<=164)/\f=242/\args=#[pt H,iI ((J-160:Nat):Int)])(o:cP f args w Post):cP 205 #[pt H,iB (J:Int)] w Post:=by
 have E:∀(k:Nat)(j:Int),k<=J->j=k->IntKind.u8.wrap (J-j)=((J-k:Nat))/\IntKind.i64.wrap ((J-k:Nat))=((J-k:Nat))/\IntKind.i64.wrap (((J-k:Nat))+1)=((J-k:Nat))+1:=λk j b N=>by grind[IntKind.wrap,IntKind.signed,IntKind.bits]
 rcases h with⟨h,rfl,rfl⟩|⟨h,rfl,rfl⟩|⟨h,rfl,rfl⟩|⟨h|h,rfl,rfl⟩|⟨h,rfl,rfl⟩|⟨h,rfl,rfl⟩|⟨h,rfl,rfl⟩|⟨h,rfl,rfl⟩|⟨h,rfl,rfl⟩;all_goals
  have Q:=cV<|eY J C;first
  |rw[(by grind[pA,pA]:pA J=false)]at Q
  |rw[(by grind[pA]:pA J=true)]at Q
  have R:=cV<|jW (LZ ⟨W,W⟩) J C;first
  |rw[(by grind[mO,pA]:mO J=false)]at R
  |rw[(by grind[mO]:mO J=true)]at R
  have L:=cV<|jW (A4<|LZ ⟨W,W⟩) J C;first
  |rw[(by grind[uM,pA]:uM J=false)]at L
  |rw[(by grind[uM]:uM J=true)]at L
  have P:=cV<|jW (A4<|A4<|LZ ⟨W,W⟩) J C;first
  |rw[(by grind[pQ,pA]:pQ J=false)]at P
  |rw[(by grind[pQ]:pQ J=true)]at P
  have I:=cV<|jW (A4<|A4<|A4 ⟨W,W⟩) J C;first
  |rw[(by grind[A8,pA]:A8 J=false)]at I
  |rw[(by grind[A8]:A8 J=true)]at I
  have G:=cV<|yy J C;first
  |rw[(by grind[Ei,pA]:Ei J=false)]at G
  |rw[(by grind[Ei]:Ei J=true)]at G
  first
  |have Z:=dT<|(48:Int)<=J
  |have Z:=dF<|(48:Int)<=J
  |have Z:=True.intro
  first
  |have d2:=dT<|(J:Int)<=62
  |have d2:=dF<|(J:Int)<=62
  |have d2:=True.intro
  first
  |have X:=dT<|(80:Int)<=J
  |have X:=dF<|(80:Int)<=J
  |have X:=True.intro
  first
  |have d:=dT<|(J:Int)<=94
  |have d:=dF<|(J:Int)<=94
  |have d:=True.intro
  first
  |have e:=E 160 160 wq W
  |have e:=E 144 144 wq W
  |have e:=E 128 128 wq W
  |have e:=E 95 95 wq W
  |have e:=aIn True.intro<|aIn True.intro True.intro
  let⟨K,A,F⟩:=e;have p:=cV o;have z:=cV g;clear E h o g;go_enter func205,ntmps205;go_wp2_with(first
  |(go_at_call 231;refine(Q.aa _).mono ?_;rintro e D⟨rfl,rfl⟩)
  |(go_at_call 235;refine(R.aa _).mono ?_;rintro e D⟨rfl,rfl⟩)
  |(go_at_call 237;refine(L.aa _).mono ?_;rintro e D⟨rfl,rfl⟩)
  |(go_at_call 239;refine(P.aa _).mono ?_;rintro e D⟨rfl,rfl⟩)
  |(go_at_call 241;refine(I.aa _).mono ?_;rintro e D⟨rfl,rfl⟩)
  |(go_at_call 243;refine(G.aa _).mono ?_;rintro e D⟨rfl,rfl⟩)
  |fail)
  refine p.mono ?_;intro e y b;have Y:=cV b;rcases z.aa e y b with rfl|⟨u,b,rfl⟩
  .go_wp2;go_end0;exact Y
  exact⟨W,Y⟩
def pH{n:Int}{f:Nat}{l:Ys}(H:Nat)(w:WD)(P:(n=81/\f=265\/n=82/\f=266\/n=83/\f=267\/n=87/\f=271\/n=94/\f=272)/\l=#[pt H]\/(n=84/\f=268\/n=85/\f=269)/\l=#[pt H,iI 1]\/(n=92/\f=268\/n=93/\f=269)/\l=#[pt H,iI 2])(E:oi Post)(J:cP f l w Post):cP 234 #[pt H,iB n] w Post:=by
 have L:=cV J;have G:=cV E;rcases P with⟨⟨rfl,rfl⟩|⟨rfl,rfl⟩|⟨rfl,rfl⟩|⟨rfl,rfl⟩|⟨rfl,rfl⟩,rfl⟩|⟨⟨rfl,rfl⟩|⟨rfl,rfl⟩,rfl⟩|⟨⟨rfl,rfl⟩|⟨rfl,rfl⟩,rfl⟩;all_goals
  go_enter func234,ntmps234;go_wp2_with fail
  refine L.mono ?_;intro e I P;have D:=cV P;rcases G.aa e I P with rfl|⟨u,P,rfl⟩
  .go_wp2;go_end0;exact D
  exact⟨W,D⟩
def TR(H:Nat)(w:WD):cP 234 #[pt H,iB 91] w λe D=>e=AG/\D=w:=by go_enter func234,ntmps234;go_wp2;go_end0;simp
def nG(F:Fz):Option (Unit×Fz):=dX (db F)<|lV (dV<|db F)<|A1<|db F
def UQ(Q:F.ae.size<=100000)(w:WD)(h:Fr O H F S X C w):cP 234 #[pt H,iB 86] w (gC (nG F) dR O H S w):=by
 have E:=fy<|A4<|Same.refl F;go_enter func234,ntmps234;go_wp2_with fail
 refine(cV<|kO w h).aa.mono ?_;intro e x c;cases b:db F with
 |none=>rw[b]at c;obtain⟨⟨u,l,rfl⟩,j⟩:=c;refine⟨W,?_⟩;unfold nG;rw[b];exact⟨⟨_,_,W⟩,j⟩
 |some r=>
  let⟨p,G⟩:=r;rw[b]at c E;obtain⟨rfl,J⟩:=c;let⟨S1,f,Z,L,R,U⟩:=J;have I:G.ae.size<=100000:=by
   rcases E with c|c
   .exact absurd L.aN (by grind[A1])
   rwa[show G.ae=F.ae from c.ae]
  have d:=cV<|NV p I x L;have HE:Hd (nG F=lV p G):=by show nG F=_;unfold nG;rw[b];rfl
  have Y:=cV R;have V:=cV U;clear L R U E I h;go_wp2_with fail
  refine d.mono ?_;intro e y D;have P:Hd (gC (nG F) dR O H S w e y):=by
   show gC _ _ _ _ _ _ _ _;rw[HE.aa];cases b:lV p G with
   |none=>rw[b]at D;exact⟨D.1,Y.trans D.2 V⟩
   |some c=>rw[b]at D;exact⟨D.1,To.pre Y V D.2⟩
  rcases b:lV p G with _|c
  .rw[b]at D;obtain⟨⟨u,l,rfl⟩,_⟩:=D;exact⟨W,P⟩
  rw[b]at D;obtain⟨rfl,_⟩:=D;let⟨⟨⟩,g⟩:=c;unfold dR at P⊢;go_wp2;go_end0;exact P
def Gp(n:Nat)(hn:n<=281474976710656)(w:WD):(Instr.makeSlice 134 (iI (n:Int))<|iI (n:Int)).run prog w=.ok (sL w.heap.size n n) (w.alloc<|.cells (madeCells #[.bool false] n) 4):=run_make_row' 134 4 (.bool false) 1 N0 N0 W .i64 .i64 n wq wq w
theorem Qx{f:Nat}(h:ae.size<=i):jdF ae f i aw=aw:=by
 cases f with
 |zero=>rfl
 |succ f=>exact AQ
def JdI(ae:BA)(i:Nat)(aw:List Bool):=aw.length=ae.size+1/\∃f,ae.size<=i+f/\jdF ae f i aw=SY ae
def JdI.start(ae:BA):JdI ae 0 (List.replicate (ae.size+1) false):=⟨K2,ae.size,wq,W⟩
def JdI.step(h:JdI ae i aw)(hi:i<ae.size):JdI ae (i+1+(if 95<mS ae i/\mS ae i<=127 then mS ae i-95 else 0)) (if mS ae i=91 then aw.set i true else aw):=by
 let⟨E,f,D,C⟩:=h;cases f with
 |zero=>omega
 |succ f=>refine⟨K9,f,wq,?_⟩;rw[<-C];exact(At hi).symm
def JdI.done(h:JdI ae i aw)(hi:ae.size<=i):aw=SY ae:=by let⟨_,f,_,C⟩:=h;grind[Qx]
def LD(hi:i<aw.length):(if j=i then Value.bool true else .bool<|aw.getD j false)=.bool ((aw.set i true).getD j false):=K9
def tN(ae:BA)(U:ae.size<=100000)(w:WD):cP 92 #[.string ae] w λe w'=>∃v,e=.returned v/\Jds w' v ae/\bW w w':=by
 have L:=Gp (ae.size+1) wq;rw[show((ae.size+1:Nat):Int)=ae.size+1 by omega]at L;go_enter func92,ntmps92;go_wp2;go_loopw[4] (λt4 wr=>∃(i:Nat)(aw:List Bool),i<=100100/\t4=iI (i:Int)/\Hd (JdI ae i aw)/\Hd (wr.rowIs w.heap.size 4 (ae.size+1)<|λj=>.bool<|aw.getD j false)/\Hd (bW w wr)) (λt4 _=>200000-nI t4);case atStart=>refine⟨0,_,wq,W,JdI.start _,?_,ai (dO _ _) _⟩;refine(World.rowIs_made w _ _ 4).congr λj V=>?_;grind
 obtain⟨i,aw,Z,rfl,J,D,H⟩:=hrel;by_cases E:i<ae.size
 .have hb:=rW _ i E;have P:=rU ae i;have C:=cV<|J.step E;have X:=J.aa.1;have Y:=D.aa.cell (i:=i) wq;have Z:=D.aa.frozen i;generalize mS ae i=b at*;by_cases G:b=91
  .subst G;rw[At W,AQ]at C;go_wp2;go_roundw;case rel=>refine⟨_,_,wq,N1,C,(D.set i _).congr λj V=>LD wq,H.setCell K2 _⟩
   grind[nI]
  rw[iF G]at C;have Q:((b:Int)==91)=false:=K9
  by_cases Z:95<b/\b<=127
  .rw[At Z]at C;let⟨I,R⟩:=Z;have O:=dT<|(95:Int)<b;have d2:=dT<|(b:Int)<=127;obtain⟨k,c⟩:∃k:Nat,(b:Int)-95=k:=⟨b-95,wq⟩
   go_wp2;go_roundw;case rel=>refine⟨_,_,wq,N1,C,D,H⟩
   grind[nI]
  rw[iF Z]at C;by_cases I:95<b
  .have O:=dT<|(95:Int)<b;have d2:=dF<|(b:Int)<=127;go_wp2;go_roundw;case rel=>exact⟨_,_,wq,N1,C,D,H⟩
   grind[nI]
  have O:=dF<|(95:Int)<b;go_wp2;go_roundw;case rel=>exact⟨_,_,wq,N1,C,D,H⟩
  grind[nI]
 go_wp2;go_ret;refine⟨_,W,⟨_,_,W,?_⟩,H⟩;rwa[<-(cV<|J.done wq).aa]
def H5(F:Fz)(X C:VL)(n:Nat):(λi=>if i=22 then iI (n:Int)else F.cell X C i)=({F with pc:=n}:Fz).cell X C:=by
 funext i;by_cases h:i=22
 .subst h;rfl
 simp only[Fz.cell,iF h]
def kv(F:Fz):Nat:=if F.nx<F.ae.size then mS F.ae F.nx else 0
def si(F:Fz):Fz:={F with pc:=F.nx,nx:=F.nx+1}
def Vs{r:Option<|Fz×TS}(w:WD)(h:FT O H U F T S X C V w)(hnx:F.nx<=1000000)(hcs:F.ae.size<=1000)(hc:eF (kv F)=some c)(hcl:c<=1000)(N:c<=F.ac)
  (o:∀S1 g Q x,FT O H U {si F with ac:=F.ac-c} T S1 g Q V x->Calls prog 205 #[pt H,.int .u8 (kv F:Int)] x (Out2 r O H U T V S1 m x)):
  Calls prog 158 #[pt H] w (Out2 r O H U T V S m w):=by
 have c1:=h.fr.row.cell (i:=23) K3;have f1:=h.fr.row.frozen 23;have c2:=h.fr.row.cell (i:=22) K3;have f2:=h.fr.row.frozen 22;rw[show F.cell X C 23=.int _ _ from W]at c1;rw[show F.cell X C 22=.int _ _ from W]at c2;have j:=cV o
 have hop:kv F<=255:=by
  grind[kv,rU]
 have Z:=cV<|tI hop;rw[hc]at Z;go_enter func158,ntmps158;go_wp2;rw[(wq:F.nx+1=((F.nx+1:Nat):Int))]
 have hto:To _ H (si F) S w _:=
  (h.fr.bt 22 _ (H5 F X C F.nx) W W W W h.fr.aN).trans λS1 g Q d=>d.bt 23 _ (wJ _ _) W W W W h.fr.aN
 obtain⟨S1,g,Q,d,h2,h3⟩:=hto;generalize((w.setCell ⟨H,22,none⟩<|.int .i64 (F.nx:Int)).setCell ⟨H,23,none⟩<|.int .i64 ((F.nx+1:Nat):Int))=x at*;have hx:FT _ H U (si F) T S1 _ _ V x:=h.next rfl d h2 h3;have k1:=d.row.cell (i:=22) K3;rw[show(si F).cell _ _ 22=.int _ F.nx from W]at k1;have k2:=d.row.cell (i:=1) K3;rw[show(si F).cell _ _ 1=.string F.ae from W]at k2;have s:=cV hx;have t:=cV h2;have n:=cV h3;have K:=cV h.aH;have b:Hd (∀k,bi U T V k->k<w.heap.size):=λk l=>h.tr.lt l
 have E:Hd (∀y,Below _ x y->Calls _ _ _ y (gC (some ((),{si F with ac:=F.ac-c})) _ _ H S1 y)):=λy hy=>by
  have hp:=E4 c wq y<|d.below hy;unfold im at hp;rw[iF<|show¬(si F).ac<c from Nat.not_lt.2 N]at hp;exact hp
 clear d h2 h3 hx h o c1 f1 c2 f2 hc;have hco:(uf<|some c)=.tuple #[.int _ c,.bool true]:=rfl;rw[hco]at Z;by_cases R:F.nx<F.ae.size
 .have G:kv F=mS _ _:=At R;have hb:=rW _ _ R;rw[<-G]at hb;generalize kv F=J at*;clear G
  go_region
  go_wp2
  go_region
  go_wp2_with(first
   |(go_at_call 203;refine(Z.aa _).mono ?_;rintro e w1⟨rfl,rfl⟩)
   |fail)
  refine(E.aa _<|(dO _ x).drew.drew).mono ?_;rintro e y⟨rfl,S2,sv2,mv2,p,g2,Y⟩;have a:=cV<|j.aa S2 _ _ y<|FT.next (s.aa.below<|(dO _ x).drew.drew) (F':={si F with ac:=F.ac-c}) W p g2 Y
  have D:Hd (KF S U T V w y/\(∀k∈S2,k∈S\/w.heap.size<=k)/\(∀f,Kb S2 y f->Kb S w f)):=by
   have I:=t.aa.trans ((Kb.h<|(dO _ x).drew.drew).trans g2<|λi hi=>LZ hi) n.aa
   have L:∀k∈S2,k∈S\/w.heap.size<=k:=λk l=>by
    rcases Y k l with e|e
    .exact n.aa k e
    .exact A4 (By t.aa.size e)
   exact⟨⟨S,I,λk l=>LZ l⟩,L,λf P=>I.trans P L⟩
  clear p g2 Y E Z s;unfold dR;go_wp2_with fail
  refine a.aa.mono ?_;intro e z v
  have A:Hd (Out2 r O H U T V S m w e z):=by
   show Out2 _ _ _ _ _ _ _ _ _ _ _;cases r with
   |none=>exact⟨v.1,D.aa.2.2 z v.2⟩
   |some q=>
    obtain⟨F9,T9⟩:=q;refine⟨v.1,?_⟩;have:=To2.comp (m:=0) K.aa b.aa D.aa.1 D.aa.2.1 (λk l=>LZ l) (DO _) W v.2
    grind
  rcases fD e z v with rfl|⟨u,pv,rfl⟩
  .go_wp2;go_end0;exact A.aa
  .exact⟨W,A.aa⟩
 .have G:kv F=0:=iF R;rw[G]at Z j
  go_region
  go_wp2_with(first
   |(go_at_call 203;refine(Z.aa _).mono ?_;rintro e w1⟨rfl,rfl⟩)
   |fail)
  refine(E.aa _<|(dO _ x).drew).mono ?_;rintro e y⟨rfl,S2,sv2,mv2,p,g2,Y⟩;have a:=cV<|j.aa S2 _ _ y<|FT.next (s.aa.below<|(dO _ x).drew) (F':={si F with ac:=F.ac-c}) W p g2 Y
  have D:Hd (KF S U T V w y/\(∀k∈S2,k∈S\/w.heap.size<=k)/\(∀f,Kb S2 y f->Kb S w f)):=by
   have I:=t.aa.trans ((Kb.h<|(dO _ x).drew).trans g2<|λi hi=>LZ hi) n.aa
   have L:∀k∈S2,k∈S\/w.heap.size<=k:=λk l=>by
    rcases Y k l with e|e
    .exact n.aa k e
    .exact A4 (By t.aa.size e)
   exact⟨⟨S,I,λk l=>LZ l⟩,L,λf P=>I.trans P L⟩
  clear p g2 Y E Z s;unfold dR;go_wp2_with fail
  refine a.aa.mono ?_;intro e z v
  have A:Hd (Out2 r O H U T V S m w e z):=by
   show Out2 _ _ _ _ _ _ _ _ _ _ _;cases r with
   |none=>exact⟨v.1,D.aa.2.2 z v.2⟩
   |some q=>
    obtain⟨F9,T9⟩:=q;refine⟨v.1,?_⟩;have:=To2.comp (m:=0) K.aa b.aa D.aa.1 D.aa.2.1 (λk l=>LZ l) (DO _) W v.2;rw[XF]at this;exact this
  rcases fD e z v with rfl|⟨u,pv,rfl⟩
  .go_wp2;go_end0;exact A.aa
  .exact⟨W,A.aa⟩
abbrev ut(st ac:Nat)(aa:BA)(lv:VL):Ys:=#[.int .u8 (st:Int),.int .i64 (ac:Int),.string aa,lv]
abbrev iy(st ac:Nat)(aa:BA)(lv:VL):VL:=.agg<|ut st ac aa lv
abbrev dL:VL:=.slice none 0 0
def ResAt(x:WD)(b:Nat)(st ac:Nat)(aa:BA)(lv:VL):=(x.cell? ⟨b,0,none⟩=some (.int .u8 (st:Int))/\x.cell? ⟨b,1,none⟩=some (.int .i64 (ac:Int))/\x.cell? ⟨b,2,none⟩=some (.string aa)/\x.cell? ⟨b,3,none⟩=some lv)/\x.frozen? ⟨b,0,none⟩=false/\x.frozen? ⟨b,1,none⟩=false/\x.frozen? ⟨b,2,none⟩=false/\x.frozen? ⟨b,3,none⟩=false
def ResAt.kb(h:ResAt x b st ac aa lv)(P:Kb S x y)(O:b∉S):ResAt y b st ac aa lv:=by let⟨⟨C,I,G,J⟩,L,E,D,H⟩:=h;have e:=P.block b (mZ C) O;exact⟨⟨(Xc e).trans C,(Xc e).trans I,(Xc e).trans G,(Xc e).trans J⟩,(Yv e).trans L,(Yv e).trans E,(Yv e).trans D,(Yv e).trans H⟩
def gB(x:WD)(b st ac:Nat)(aa:BA)(lv:VL):WD:=(((x.setCell ⟨b,0,none⟩<|.int .u8 (st:Int)).setCell ⟨b,1,none⟩<|.int .i64 (ac:Int)).setCell ⟨b,2,none⟩<|.string aa).setCell ⟨b,3,none⟩ lv
def vP(u:Vr)(V:VL)(C:List PanicEntry)(w:WD)(h:ResAt w b st ac aa dL):CallsD prog 157 #[pt b] (.panicking<|{v:=.iface u V,recovered:=false}::C) w λe L D=>e=AG/\L=.panicking ({v:=.iface u V,recovered:=true}::C)/\D=gB w b 2 0 ⟨#[]⟩ dL:=by let⟨⟨G,J,E,P⟩,H,I,Q,R⟩:=h;refine callsD_of_wpS func157 W λU V O=>?_;apply wpS_seq;apply wpS_region;simp[wpOpsS,go_sem,recoverD,O,ntmps157,Exit.thenS];refine wpS_cond R5 ?_;simp;apply wpS_region;simp[wpOpsS,go_sem,G,J,E,P,H,I,Q,R,bodyPostS,results,results157,gB]
def Hr:CallsD prog 157 #[pt b] .returning w λe G D=>e=AG/\G=.returning/\D=w:=by refine callsD_of_wpS func157 W λC H E=>?_;apply wpS_seq;apply wpS_region;simp[wpOpsS,go_sem,recoverD,E,ntmps157,Exit.thenS];refine wpS_cond R5 ?_;simp;refine wpS_of_wp<|wp_skip ?_;cases C;simp_all[bodyPostS,results]
def Lc{E D:Nat}{C:BA}{Z:Vr}(V:tG s t1<|pt b)(U:tG s t2<|.agg #[iB (st:Int),iI (gs:Int),.string aa,.slice none 0 0])(Y:ResAt x b E D C dL)(G:K (s.put none undef)<|gB x b st gs aa dL):Oper.wp prog ⟨none,.store 38 (.tmp t1)<|.tmp t2,Z,pos,af,gd⟩ s x K Q:=by let⟨⟨k0,I,L,O⟩,X,P,J,R⟩:=Y;unfold gB dL at G;go_simp;exact G
def ResAt.below{x:WD}(h:ResAt x b st ac aa lv)(C:bW x y):ResAt y b st ac aa lv:=h.kb (Kb.h (S:=[]) C) K2
def PhR(b st gs:Nat)(aa:BA)(w:WD):Nat->X4
 |0,x=>bW w x
 |_,x=>∃y,bW w y/\x=gB y b st gs aa dL
def ld{x:WD}(h:PhR b st gs aa w k x)(C:k<=0):bW w x:=by
 match k,C,h with
 |0,_,h=>exact h
def zdd{V Y:Nat}{P:BA}{Q:Y6}{a:Act}(J:H<w.heap.size)(R:ResAt w b V Y P dL)(E:cL w H 25<|iB (st:Int))(O:cL w H 16<|iI (gs:Int))(D:cL w H 26<|.string aa)(Z:bW w w.drew)(U:([11,12,13,14,15,16,17,18,19,20,21,22,23]:Tl).all (λd=>decide (d<a.tmps.size))=true)(c:tG a 0<|pt H)(c2:tG a 2<|pt b)(X:∀(x:WD),(PhR b st gs aa w) 1 x->Q .normal (dQ a [(11,pt H),(12,pt H),(13,pq H 25),(14,iB (st:Int)),(15,pt H),(16,pt H),(17,pq H 16),(18,iI (gs:Int)),(19,pt H),(20,pt H),(21,pq H 26),(22,.string aa),(23,.agg #[iB (st:Int),iI (gs:Int),.string aa,.slice none 0 0])]) x):(ym f95 4).wp prog Q a w:=by
 refine nZ (PhR b st gs aa w) (λ_ _ _=>True) [(0,.pointer _),(2,.pointer _)] [(some 11,.v<|pt H),(some 12,.v<|pt H),(some 13,.v _),(some 14,.v _),(some 15,.v<|pt H),(some 16,.v<|pt H),(some 17,.v _),(some 18,.v _),(some 19,.v<|pt H),(some 20,.v<|pt H),(some 21,.v _),(some 22,.v _),(some 23,.v _),(none,.v _)] [13] [3,7,11] (ha:=⟨N0,U,(eR c<|eR c2 W),N0⟩) Z
  ⟨(λC I L=>by have C:Below _ w _:=C;exact Lc (I W) (I W) (R.below C) (L _ _ ⟨_,C,W⟩ AF (λ_=>W) W)
  ),AF⟩
  ⟨(λG C I L=>by have k0:=((ld C (by have:=G 0 13;omega)).cell J).trans E;exact dm (I W) k0 (kq L)
  ),(λG C I L=>by have k0:=((ld C (by have:=G 0 13;omega)).cell J).trans O;exact dm (I W) k0 (kq L)
  ),(λG C I L=>dm (I W) (((ld C (by have:=G 0 13;omega)).cell J).trans D) (kq L)
  ),AF⟩
  (nl W) ?_
 intro g x C c;exact X x C
def Qy(o:Option Fz):VL:=match o with
 |some F=>iy F.aE F.ac F.aa dL
 |none=>iy 2 0 ⟨#[]⟩ dL
def cj(O U:Nat)(T T':TS)(V:TV)(S:Tl)(m:Nat)(w w':WD):=∃V' S2,Tr O U T' V' w'/\Kb S2 w w'/\(∀k∈S2,k∈S\/bi U T V k)/\(∀k,bi U T' V' k->bi U T V k\/w.heap.size<=k)/\V'.n<=V.n+m/\V'.ab=V.ab
abbrev zd:Obj:=.cells #[.int .u8 0,.int .i64 0,.string ⟨#[]⟩,.slice none 0 0] 38
theorem ResAt.put{G D:Nat}{C:BA}{E:VL}(h:ResAt x b G D C E):ResAt (gB x b st gs aa lv) b st gs aa lv:=by let⟨⟨k0,H,J,L⟩,Q,O,I,P⟩:=h;unfold ResAt gB;simp[go_sem,k0,H,J,L,Q,O,I,P]
def jE(h:Kb S w x)(C:b∈S\/w.heap.size<=b):Kb S w (gB x b st gs aa lv):=(((h.setCell C _).setCell C _).setCell C _).setCell C _
section
variable {S1:Tl}
abbrev mkV(a b:Nat):VL:=.agg #[.int .i64 (a:Int),.int .i64 (b:Int)]
def NS(h:Tr O U T V w):cP 93 #[pt U] w (rT (mkV T.ch.length T.ay.length) w):=by have C:=h.below<|(ai (dO _ w)<|.cells #[iI 0,iI 0] 186).drew;have c2:=rc C.row 2;rw[show zh V 2=V.cv from W]at c2;have c3:=rc C.row 3;rw[show zh V 3=V.lv from W]at c3;let⟨J,I,D⟩:=dt h.ch;let⟨E,G,H⟩:=dt h.lo.2.1;rw[D]at c2;rw[H]at c3;generalize T.ch.length=L at*;generalize T.ay.length=L at*;go_enter func93,ntmps93;go_wp2;go_region;go_wp2;refine sp (by simp[results,results93,go_sem]) W ⟨W,(ai (dO _ w) _).drew⟩
def To2.cJ{O:Nat}(Z:∀k,bi U T V k->k<w.heap.size)(Y:∀k∈S,k<w.heap.size)(D:KF S U T V w w1)(X:∀k∈S1,k∈S\/w.heap.size<=k)(P:∀k,bi U T1 V1 k->bi U T V k\/w.heap.size<=k)(Q:V1.n<=V.n+m)(J:V1.ab=V.ab){C:TV}{E:Tl}(L:Kb E w1 w2)(H:∀k∈E,k∈S1\/bi U T1 V1 k)(k4:∀k,bi U T' C k->bi U T1 V1 k\/w1.heap.size<=k)(R:C.n<=V1.n+m')(k6:C.ab=V1.ab):∃S2,Kb S2 w w2/\(∀k∈S2,k∈S\/bi U T V k)/\(∀k,bi U T' C k->bi U T V k\/w.heap.size<=k)/\C.n<=V.n+(m+m')/\C.ab=V.ab:=by
 let⟨G,D,I⟩:=D;refine⟨G++E.filter (λk=>decide (k<w.heap.size)),(D.mono<|λi Z=>Xw _ Z).trans L<|λi Z=>?_,λi Z=>?_,λi Z=>?_,wq,k6.trans J⟩
 .grind
 .grind
 rcases k4 i Z with e|e
 .grind
 exact A4<|By D.size e
abbrev wk4(w:WD)(amt fr Z:Nat):WD:=(((w.alloc<|wc amt).alloc<|wc fr).alloc<|wc Z).alloc zd
def sB(U:Nat)(ae:BA)(jd:VL):Fz:={aC:=pt U,ae:=ae,jd:=jd,ak:=0,ax:=0,value:=0,data:=⟨#[]⟩,ac:=0,ro:=false,depth:=0,st:=[],mem:=[],ret:=⟨#[]⟩,pc:=0,nx:=0,aG:=false,aE:=0,aa:=⟨#[]⟩}
def newC(U:Nat)(ae:BA)(jd:VL):Ys:=#[pt U,.string ae,jd,.int .u64 0,.int .u64 0,.int .u64 0,.int .u64 0,.int .u64 0,.int .u64 0,.int .u64 0,.int .u64 0,.int .u64 0,.int .u64 0,.int .u64 0,.int .u64 0,.string ⟨#[]⟩,.int .i64 0,.bool false,.int .i64 0,.slice none 0 0,.slice none 0 0,.string ⟨#[]⟩,.int .i64 0,.int .i64 0,.bool false,.int .u8 0,.string ⟨#[]⟩]
def lt27(h:i<27):i=0\/i=1\/i=2\/i=3\/i=4\/i=5\/i=6\/i=7\/i=8\/i=9\/i=10\/i=11\/i=12\/i=13\/i=14\/i=15\/i=16\/i=17\/i=18\/i=19\/i=20\/i=21\/i=22\/i=23\/i=24\/i=25\/i=26:=wq
def R8{I:VL}(h:Tr O U T V w)(hb:bW w x)(D:Jds x I ae)(E:ae.size<=1000):FT O x.heap.size U (sB U ae I) T [x.heap.size] (.slice none 0 0) (.slice none 0 0) V (x.alloc<|.cells (newC U ae I) 137):=by
 have C:Below _ x (x.alloc<|.cells (newC U ae I) 137):=ai (dO _ x) _;have I:=(h.below hb).below C;refine⟨⟨?_,Xy _ _ _ _,Xy _ _ _ _,W,by simp[sB],by simp[sB],by simp[sB],I.hb,λi J=>?_,h.aA,By h.hb hb.size,R5,D.kb (Kb.h (S:=[]) C) K2⟩,I,W,λk L L=>?_⟩
 .refine World.rowIs_alloc x _ _ _ λi J=>?_;rcases lt27 J with rfl|rfl|rfl|rfl|rfl|rfl|rfl|rfl|rfl|rfl|rfl|rfl|rfl|rfl|rfl|rfl|rfl|rfl|rfl|rfl|rfl|rfl|rfl|rfl|rfl|rfl|rfl<;>first|rfl|(simp[newC,sB,Fz.cell,dK])
 .obtain⟨⟨z0,H,G,z3⟩,_⟩:=I.zr;grind
 cases(K9:k=x.heap.size)
 have:=(h.below hb).lt L;omega
def tJ(D:ae.size<=1000)(h:Tr O U T V w):cP 60 #[pt U,.string ae] w λe w'=>∃H L,e=.returned (pt H)/\w.heap.size<=H/\bW w w'/\FT O H U (sB U ae L) T [H] (.slice none 0 0) (.slice none 0 0) V w':=by
 have J:=cV h;go_enter func60,ntmps60;go_wp2_with fail
 refine(cV<|tN ae wq w).aa.mono ?_;rintro e x⟨v,rfl,⟨g,E,rfl,G⟩,L⟩;have I:=cV G;have C:=cV L;clear G L;go_wp2;refine IE W W ⟨_,sL g (ae.size+1) E,W,C.size,ai C _,?_⟩;exact R8 J C ⟨g,_,W,I⟩ D
variable {bl:Nat}
def AY:pz 60:=λ_ _=>N0
def NF(O U:Nat)(T:TS)(V:TV)(ae:BA)(w:WD):Kp:=λp v x=>p=1/\∃H jd,v=pt H/\w.heap.size<=H/\bW w x/\FT O H U (sB U ae jd) T [H] (.slice none 0 0) (.slice none 0 0) V x
def Hj{D:Vr}{g:U6}(he:tG s t v)(C:K (Wb s d v) x):Oper.wp prog ⟨some d,.assign<|.tmp t,D,pos,af,g⟩ s x K Q:=by go_simp;exact C
def Gz{o:Yt}{a:Act}(h:Tr O U T V w)(m:ae.size<=1000)(R:U<w.heap.size)(Y:cL w U 0<|.map<|some ab)(f:∀x,bW w x->cL x mb 4 (lu Z 0)/\cL x mb 5 (lu Z 1)/\cL x mb 6 (lu Z 2)/\cL x mb 7 (lu Z 3))(J:∀x,bW w x->(Instr.lookup 89 (.map<|some ab) (wv Z) false).run prog x=.ok (iu bl ae<|.map o) x)(i:bW w w.drew)(j:([7,8,9,10,11,12,13,14,15,16,5]:Tl).all (λd=>decide (d<a.tmps.size))=true)(b:tG a 0<|pt U)(c3:tG a 3<|pt mb)(z:∀(x:WD)(z9:VL)(L:VL),(PhO (λx=>bW w x) w) 1 x->(NF O U T V ae w) 1 z9 x->(NF O U T V ae w) 1 L x->Q .normal (dQ a [(7,pt U),(8,pt U),(9,pt U),(10,pt U),(11,.map<|some ab),(12,pq mb 4),(13,wv Z),(14,iu bl ae<|.map o),(15,.string ae),(16,z9),(5,L)]) x):(ym f35 1).wp prog Q a w:=by
 refine nZ (PhO (λx=>Below _ w x) w) (λ_ _ _=>True) [(0,.pointer _),(3,.pointer _)] [(some 7,.v _),(some 8,.v<|pt U),(some 9,.v<|pt U),(some 10,.v _),(some 11,.v _),(some 12,.v _),(some 13,.v _),(some 14,.v _),(some 15,.v _),(some 16,.l<|NF _ U T V _ w),(some 5,.l<|NF _ U T V _ w)] [9] [4,6,7,8,10] (ha:=⟨N0,j,(eR b<|eR c3 W),N0⟩) i
  ⟨(λC hv E=>by have C:Below _ w _:=C;refine eK AY (xa (hv W)<|hv W) (tJ m<|h.below C) ?_;rintro e y⟨H,q,rfl,b,N,c⟩;have S:=C.trans<|N.mono C.size;exact⟨_,W,E _ y S AF nn1 ⟨W,H,q,W,By C.size b,S,c⟩⟩
  ),AF⟩
  ⟨(λD C hv E=>by have k0:=((kG C (by have:=D 0 9;omega)).cell R).trans Y;exact dm (hv W) k0 (kq E)
  ),(λD C hv E=>by let⟨b,n,c,q⟩:=f _ (kG C (by have:=D 0 9;omega));exact dD (hv W) b n c q (kq E)
  ),(@λk s x q I G c K D C hv E=>by have q:=J x (kG C (by have:=D 0 9;omega));have F:=@hv 11 _ W;have b:=@hv 13 _ W;clear hv c I D G;go_simp;exact(kq E)
  ),(@λk s x q I G c K D C hv E=>by have q:=acc_f1 bl ae o x;have b:=@hv 14 _ W;clear hv c I D G;go_simp;exact(kq E)
  ),(@λk s x q I G c K D C hv E=>Hj W (E _ x W nn1<|c 16 _ W)
  ),AF⟩
  (Ej<|aIn (λp v x b P X C hrel A=>K9)
  (aIn (λp v x b P X C hrel A=>absurd A.1 K9)
  trivial)) ?_
 intro g x C b;exact z x _ _ C (b 9 _ _ W)<|b 10 _ _ W
variable {B:Nat}
def Fr.cc(h:Fr O H F S X C w)(E:F'.st=F.st)(D:F'.mem=F.mem)(I:F'.jd=F.jd)(G:F'.ae=F.ae)(L:F'.ac<=100000)(Y:w'.rowIs H 137 27<|F'.cell X C)(P:Kb [H] w w'):Fr O H F' S X C w':=⟨Y,by rw[E];exact P.aD h.st<|λk P=>by simpa using h.fs k P,by rw[D];exact P.aD h.me<|λk P=>by simpa using h.fm k P,h.aH,by rw[E];exact h.aV,by rw[D];exact h.bv,L,By h.hb P.size,sA h.zr P (λJ=>h.bu (by rw[h.aH];grind)) h.hs,h.aA,h.bg,by rw[D];exact h.aT,by rw[I,G];exact h.jr.kb P<|λg N f Y J=>h.bO g N f Y (by rw[h.aH];grind)⟩
def FT.aD(h:FT O H U F T S X C V w)(D:F'.st=F.st)(E:F'.mem=F.mem)(J:F'.jd=F.jd)(G:F'.ae=F.ae)(I:F'.aC=F.aC)(L:F'.ac<=100000)(c:w'.rowIs H 137 27<|F'.cell X C)(P:Kb [H] w w'):FT O H U F' T S X C V w':=by
 have Y:H∈S:=by rw[h.fr.aH];simp
 refine⟨h.fr.cc D E J G L c P,h.tr.kb P (λk P=>?_)<|λe=>h.fr.bu K9,I.trans h.ptr,h.bs⟩;cases(K9:k=H)
 exact h.bs _ Y
def EY(x:WD)(b o n:Nat):WD:=(((x.setCell ⟨b,o,none⟩<|lu n 0).setCell ⟨b,o+1,none⟩<|lu n 1).setCell ⟨b,o+2,none⟩<|lu n 2).setCell ⟨b,o+3,none⟩<|lu n 3
def eJ{x:WD}:Kb [b] x (EY x b o n):=((((Kb.refl [b] x).setCell AI _).setCell AI _).setCell AI _).setCell AI _
theorem K7{x:WD}{T:Nat}(h:x.rowIs b T N f):(EY x b o n).rowIs b T N (λi=>if i=o+3 then lu n 3 else if i=o+2 then lu n 2 else if i=o+1 then lu n 1 else if i=o then lu n 0 else f i):=(((h.set o<|lu n 0).set (o+1)<|lu n 1).set (o+2)<|lu n 2).set (o+3)<|lu n 3
def gU{T:Nat}{j:Vr}(o:Nat)(d:tG s t1<|pq b o)(Y:tG s t2<|wv n)(c:x.rowIs b T N f)(J:o+3<N)(D:K (s.put none undef)<|EY x b o n):Oper.wp prog ⟨none,.store 24 (.tmp t1)<|.tmp t2,j,pos,af,gd⟩ s x K Q:=by have k0:=c.cell (i:=o) wq;have E:=c.cell (i:=o+1) wq;have I:=c.cell (i:=o+2) wq;have L:=c.cell wq;have h:=c.frozen o;have P:=c.frozen<|o+1;have G:=c.frozen<|o+2;have R:=c.frozen<|o+3;unfold EY at D;clear c;go_simp;exact D
def Lt{v:BA}{u:VL}{J:Vr}(G:tG s t1<|pq b o)(E:tG s t2<|.string v)(I:cL x b o u)(L:x.frozen? ⟨b,o,none⟩=false)(D:K (s.put none undef)<|x.setCell ⟨b,o,none⟩<|.string v):Oper.wp prog ⟨none,.store 9 (.tmp t1)<|.tmp t2,J,pos,af,gd⟩ s x K Q:=by go_simp;exact D
def uq{v:Int}{u:VL}{J:Vr}(G:tG s t1<|pq b o)(E:tG s t2<|iI v)(I:cL x b o u)(L:x.frozen? ⟨b,o,none⟩=false)(D:K (s.put none undef)<|x.setCell ⟨b,o,none⟩<|iI v):Oper.wp prog ⟨none,.store 3 (.tmp t1)<|.tmp t2,J,pos,af,gd⟩ s x K Q:=by go_simp;exact D
def qK(X C:VL)(n:Nat):(λi=>if i=3+3 then lu n 3 else if i=3+2 then lu n 2 else if i=3+1 then lu n 1 else if i=3 then lu n 0 else F.cell X C i)=({F with ak:=n}:Fz).cell X C:=by grind[Fz.cell]
def ng(X C:VL)(n:Nat):(λi=>if i=7+3 then lu n 3 else if i=7+2 then lu n 2 else if i=7+1 then lu n 1 else if i=7 then lu n 0 else F.cell X C i)=({F with ax:=n}:Fz).cell X C:=by
 funext i;by_cases E:i=7+3
 .subst E;rfl
 by_cases D:i=7+2
 .subst D;rfl
 grind[Fz.cell]
def oO(X C:VL)(n:Nat):(λi=>if i=11+3 then lu n 3 else if i=11+2 then lu n 2 else if i=11+1 then lu n 1 else if i=11 then lu n 0 else F.cell X C i)=({F with value:=n}:Fz).cell X C:=by
 funext i;by_cases G:i=11+3
 .subst G;rfl
 by_cases D:i=11+2
 .subst D;rfl
 by_cases E:i=11+1
 .subst E;rfl
 by_cases I:i=11
 .subst I;rfl
 rw[iF G,iF D,iF E,iF I];have J:¬i=11+0:=I;simp only[Fz.cell,iF G,iF D,iF E,iF J]
def Ah(X C:VL){v:BA}:(λi=>if i=15 then .string v else F.cell X C i)=({F with data:=v}:Fz).cell X C:=by
 funext i;by_cases h:i=15
 .subst h;rfl
 simp only[Fz.cell,iF h]
def xc(X C:VL)(n:Nat):(λi=>if i=18 then iI (n:Int)else F.cell X C i)=({F with depth:=n}:Fz).cell X C:=by
 funext i;by_cases h:i=18
 .subst h;rfl
 simp only[Fz.cell,iF h]
def kF{T:Nat}{f':Vp}(h:w.rowIs H T N f)(e:(λi=>if i=o then v else f i)=f'):(w.setCell ⟨H,o,none⟩ v).rowIs H T N f':=by rw[<-e];exact h.set o v
def zaB{T:Nat}{f':Vp}(h:w.rowIs H T N f)(e:(λi=>if i=o+3 then lu n 3 else if i=o+2 then lu n 2 else if i=o+1 then lu n 1 else if i=o then lu n 0 else f i)=f'):(EY w H o n).rowIs H T N f':=by grind[K7]
def UW(O H U:Nat)(G:Nat->Fz)(T:TS)(S:Tl)(X C:VL)(V:TV)(w:WD)(p:Nat)(x:WD):=FT O H U (G p) T S X C V x/\Kb [H] w x
def GA{Q:Y6}{a:Act}(w:WD)(h:FT O H U F T S X C V w)(m:∀x,Kb [H] w x->cL x mb 4 (lu Z 0)/\cL x mb 5 (lu Z 1)/\cL x mb 6 (lu Z 2)/\cL x mb 7 (lu Z 3))(Y:∀x,Kb [H] w x->cL x mb 0 (lu fr 0)/\cL x mb 1 (lu fr 1)/\cL x mb 2 (lu fr 2)/\cL x mb 3 (lu fr 3))(L:∀x,Kb [H] w x->cL x mb 8 (lu B 0)/\cL x mb 9 (lu B 1)/\cL x mb 10 (lu B 2)/\cL x mb 11 (lu B 3))(z:UW O H U (λp=>match p with|0=>F|1=>{F with ak:=Z}|2=>{F with ak:=Z,ax:=fr}|_=>{F with ak:=Z,ax:=fr,value:=B}) T S X C V w 0 w.drew)(j:([20,21,22,23,24,25,26,27,28,29,30,31,32,33,34]:Tl).all (λd=>decide (d<a.tmps.size))=true)(c3:tG a 3<|pt mb)(c5:tG a 5<|pt H)(y:∀(x:WD),(UW O H U (λp=>match p with|0=>F|1=>{F with ak:=Z}|2=>{F with ak:=Z,ax:=fr}|_=>{F with ak:=Z,ax:=fr,value:=B}) T S X C V w) 3 x->Q .normal (dQ a [(20,pt H),(21,pt H),(22,pt H),(23,pq mb 4),(24,wv Z),(25,pt mb),(26,wv fr),(27,pq mb 8),(28,wv B),(29,pt H),(30,pq H 3),(31,pt H),(32,pq H 7),(33,pt H),(34,pq H 11)]) x):(ym f35 3).wp prog Q a w:=by
 refine nZ _ (λ_ _ _=>True) [(3,.pointer _),(5,.pointer _)] [(some 20,.v<|pt H),(some 21,.v<|pt H),(some 22,.v<|pt H),(some 23,.v _),(some 24,.v<|wv Z),(some 25,.v _),(some 26,.v<|wv fr),(some 27,.v _),(some 28,.v<|wv B),(some 29,.v<|pt H),(some 30,.v _),(none,.v _),(some 31,.v<|pt H),(some 32,.v _),(none,.v _),(some 33,.v<|pt H),(some 34,.v _),(none,.v _)] [11,14,17] [4,6,8] (ha:=⟨N0,j,(eR c3<|eR c5 W),N0⟩) z
  ⟨(λD E G=>by have c:=D.1.fr.row;refine gU 3 (E W) (E W) c K3<|G _ _ ⟨D.1.aD W W W W W D.1.fr.aN ?_<|eJ,D.2.trans (eJ)<|λi l=>LZ l⟩ AF (λ_=>W) W;exact zaB c (qK X C _)
  ),(λD E G=>by have c:=D.1.fr.row;refine gU 7 (E W) (E W) c K3<|G _ _ ⟨D.1.aD W W W W W D.1.fr.aN ?_<|eJ,D.2.trans (eJ)<|λi l=>LZ l⟩ AF (λ_=>W) W;exact zaB c (ng X C _)
  ),(λD E G=>by have c:=D.1.fr.row;refine gU 11 (E W) (E W) c K3<|G _ _ ⟨D.1.aD W W W W W D.1.fr.aN ?_<|eJ,D.2.trans (eJ)<|λi l=>LZ l⟩ AF (λ_=>W) W;exact zaB c (oO X C _)
  ),AF⟩
  ⟨(λ_ D E G=>by let⟨P,I,R,J⟩:=m _ D.2;exact dD (E W) P I R J (kq G)
  ),(λ_ D E G=>by let⟨P,I,R,J⟩:=Y _ D.2;exact dD (E W) P I R J (kq G)
  ),(λ_ D E G=>by let⟨P,I,R,J⟩:=L _ D.2;exact dD (E W) P I R J (kq G)
  ),AF⟩
  (nl W) ?_
 intro g x D c;exact y x D
def Hk{Q:Y6}{a:Act}(w:WD)(h:FT O H U F T S X C V w)(R:gs<=100000)(G:∀x,Kb [H] w x->cL x mb 12 (.string data))(P:∀x,Kb [H] w x->cL x mb 13 (iI (gs:Int)))(Y:UW O H U (λp=>match p with|0=>F|1=>{F with data:=data}|_=>{F with data:=data,ac:=gs}) T S X C V w 0 w.drew)(J:([35,36,37,38,39,40,41,42,43,44]:Tl).all (λd=>decide (d<a.tmps.size))=true)(c3:tG a 3<|pt mb)(c5:tG a 5<|pt H)(L:∀(x:WD),(UW O H U (λp=>match p with|0=>F|1=>{F with data:=data}|_=>{F with data:=data,ac:=gs}) T S X C V w) 2 x->Q .normal (dQ a [(35,pt H),(36,pt H),(37,pq mb 12),(38,.string data),(39,pq mb 13),(40,iI (gs:Int)),(41,pt H),(42,pq H 15),(43,pt H),(44,pq H 16)]) x):(ym f35 4).wp prog Q a w:=by
 refine nZ _ (λ_ _ _=>True) [(3,.pointer _),(5,.pointer _)] [(some 35,.v<|pt H),(some 36,.v<|pt H),(some 37,.v _),(some 38,.v _),(some 39,.v _),(some 40,.v _),(some 41,.v<|pt H),(some 42,.v _),(none,.v _),(some 43,.v<|pt H),(some 44,.v _),(none,.v _)] [8,11] [3,5] (ha:=⟨N0,J,(eR c3<|eR c5 W),N0⟩) Y
  ⟨(λD E I=>by have c:=D.1.fr.row;exact Lt (E W) (E W) (rc c _) (c.frozen _) (I _ _ ⟨D.1.aD W W W W W D.1.fr.aN (kF c<|Ah X C)<|(Kb.refl _ _).setCell AI _,D.2.setCell AI _⟩ AF (λ_=>W) W)
  ),(λD E I=>by have c:=D.1.fr.row;exact uq (E W) (E W) (rc c _) (c.frozen _) (I _ _ ⟨D.1.aD W W W W W R (kF c<|mJ _ X C gs)<|(Kb.refl _ _).setCell AI _,D.2.setCell AI _⟩ AF (λ_=>W) W)
  ),AF⟩
  ⟨(λ_ D E I=>by have k0:=G _ D.2;exact dm (E W) k0 (kq I)
  ),(λ_ D E I=>by have k0:=P _ D.2;exact dm (E W) k0 (kq I)
  ),AF⟩
  (nl W) ?_
 intro g x D c;exact L x D
end
abbrev LF(fr Z B:Nat)(data:BA)(ac:Nat):Ys:=#[lu fr 0,lu fr 1,lu fr 2,lu fr 3,lu Z 0,lu Z 1,lu Z 2,lu Z 3,lu B 0,lu B 1,lu B 2,lu B 3,.string data,.int .i64 (ac:Int)]
abbrev SR(fr Z B:Nat)(data:BA)(ac:Nat):VL:=.agg<|LF fr Z B data ac
abbrev d2(w:WD)(fr Z B:Nat)(data:BA)(ac:Nat):WD:=(w.alloc<|.cells (LF fr Z B data ac) 43).alloc zd
def MsgAt(x:WD)(b fr Z B:Nat)(data:BA)(ac:Nat):=x.rowIs b 43 14<|λi=>(LF fr Z B data ac).getD i undef
def Hx(w:WD)(fr Z B:Nat)(data:BA)(ac:Nat):MsgAt (w.alloc<|.cells (LF fr Z B data ac) 43) w.heap.size fr Z B data ac:=by refine World.rowIs_alloc w _ _ _ λi C=>?_;simp_all
def msgF(U:Nat)(ae:BA)(jd:VL)(fr Z B:Nat)(data:BA)(ac:Nat):Fz:={sB U ae jd with depth:=1,ak:=Z,ax:=fr,value:=B,data:=data,ac:=ac}
def NFk(O U:Nat)(T:TS)(V:TV)(ae:BA)(w0:WD):Kp:=λ_ v x=>∃gb jd,v=pt gb/\w0.heap.size<=gb/\FT O gb U (sB U ae jd) T [gb] dL dL V x
def NFk.below{D:WD}(h:NFk O U T V ae D p v x)(L:bW x x'):NFk O U T V ae D p v x':=by let⟨J,P,G,E,I⟩:=h;exact⟨J,P,G,E,I.below L⟩
def KQ{P:Program}{T:Vr}{m k:VL}(h:(Instr.lookup T m k false).run P x=.ok v x):((do pure (Next.value<|<-Instr.lookup T m k false):Sem Next)).run P x=.ok (.value v) x:=Q1
def RL(b:Bool):(λi=>if i=17 then .bool b else F.cell X C i)=({F with ro:=b}:Fz).cell X C:=by
 funext i;by_cases h:i=17
 .subst h;rfl
 simp only[Fz.cell,iF h]
def BU{G:Nat->Fz}(k:Nat)(x x':WD)(h:UW O H U G T S X C V w k x)(D:bW x x'):UW O H U G T S X C V w k x':=⟨h.1.below D,h.2.below D⟩
def oC(F:Fz)(U J Z v:Nat)(ae:BA)(jd:VL):Fz:={sB U ae jd with depth:=F.depth+1,ro:=F.ro||J==250,ak:=if J=244 then F.ak else Z,ax:=if J=244 then F.ax else F.ak,value:=if J=244 then F.value else v}
def FE(J Z v:Nat)(D:J<=255)(w:WD)(h:FT O H U F T S X C V w)(a6:(T.aw Z).ae.size<=1000)(D:F.depth<=1000):cP 278 #[.pointer<|some ⟨H,0,none⟩,iB (J:Int),wv Z,wv v] w λe w'=>∃gb jd,e=.returned (.pointer<|some ⟨gb,0,none⟩)/\w.heap.size<=gb/\bW w w'/\FT O gb U (oC F U J Z v (T.aw Z).ae jd) T [gb] dL dL V w':=by
 have Q:Below _ w ((w.alloc<|wc Z).alloc<|wc v):=ai (ai (dO _ w) _) _;have j:=W2.start w Z v;have G:=h.below Q;have g:∀o,o<27->((w.alloc _).alloc _).cell? _=some (({F with aC:=.pointer _}:Fz).cell X C o):=λo N=>by
  have e:({F with aC:=.pointer<|some ⟨U,0,none⟩}:Fz)=F:=by rw[<-h.ptr]
  rw[e];exact G.fr.row.cell N
 have Y:=G.fr.row.lt;have I:=G.tr.row.lt;have a3:=G.tr;have A:=j.ra;have a1:=j.rb;have c0:=rc G.tr.row 0;rw[show zh V 0=.map _ from W]at c0;let⟨f,u,D⟩:=G.tr.aw.map;let⟨E,m,q,t,e5⟩:=G.tr.aw.bL Z D;obtain⟨E,rfl⟩:=q.is;let⟨E,L⟩:=dP<|(w.alloc<|wc Z).alloc<|wc v;have r:∀x,bW E x->(Instr.lookup 89 _ _ _).run _ x=.ok _ x:=λx z=>by rw[L.aa]at z;have:=(u.kb (Kb.h (S:=[]) z) K2).aQ kT kE Z;rw[m]at this;exact this
 have HB:=cV Q;rw[<-L.aa]at g Y I a3 A a1 c0 G HB;generalize(T.aw Z).ai=bl at*;generalize(T.aw Z).ae=ae at*;clear u D m q t e5 G Q j h;go_enter func278,ntmps278;go_wp2;rw[<-L.aa];refine dy (λ_ x=>Below _ E x) (λ_ _ _=>True) [(0,(.pointer _)),(6,(.pointer<|some ⟨w.heap.size,0,none⟩))] [(some 10,.v<|.pointer<|some ⟨H,0,none⟩),(some 11,.v<|.pointer<|some ⟨H,0,none⟩),(some 12,.v _),(some 13,.v _),(some 14,.v<|.pointer<|some ⟨H,0,none⟩),(some 15,.v<|.pointer<|some ⟨H,0,none⟩),(some 16,.v _),(some 17,.v _),(some 18,.v<|.pointer<|some ⟨U,0,none⟩),(some 19,.v _),(some 20,.v _),(some 21,.v _),(some 22,.v _),(some 23,.v<|.string ae),(some 24,.l<|NFk _ U T V _ E),(some 9,.l<|NFk _ U T V _ E)] [] [3,7,10,11,12,14,15] ((dO _ _).drew) (λ_ _ _ h hb=>h.trans<|hb.mono h.size)
   True.intro
   ⟨(λ_ D hv E=>by
   exact dm (hv W) ((D.cell Y).trans<|g 0 K3)<|kx E),(λ_ D hv E=>by
   exact dm (hv W) ((D.cell Y).trans<|g 0 K3)<|kx E),(λ_ D hv E=>by
   exact dm (hv W) ((D.cell I).trans c0)<|kx E),(λ_ D hv E=>by
   let⟨q0,q1,q2,q3⟩:=cW<|cY A D;exact dD (hv W) q0 q1 q2 q3<|kx E),(λ_ D hv E=>by
   exact rR @hv (KQ<|r _ D)<|kx E),(λ_ D hv E=>by
   refine o6 @hv (tJ a6<|a3.below D) (λv y h=>?_) (λl y h=>by let⟨_,_,e,_⟩:=h;cases e) (λy h=>by let⟨_,_,e,_⟩:=h;cases e);let⟨gb,jd,e,I,G,L⟩:=h;injection e with e;subst e;exact E _ y G nn1 ⟨gb,jd,W,By D.size I,L⟩),(@λk s x hk G G I K G D hv E=>by
   have G:=I 24 _ W;exact rR @hv W<|E _ x (dO _ _) nn1 G),AF⟩
   (λi d L I p v x x' _ Q _ _ G=>absurd Q K2) (λi d L I p v x x' _ hb G=>by
   have L:=Xe I;simp only[IF,XV,reduceCtorEq,Zb,Za,XI,Xk,En.l.injEq]at L;rcases L with⟨-,rfl⟩|⟨-,rfl⟩<;>exact NFk.below G hb) ?_
 intro gg x D hg;let⟨gb,jd,G,a7,Q⟩:=hg 15 _ _ W;simp only[lP,fe_l,gt,dQ,Xa,Xf,Act.put,Nat.reduceAdd];simp only[sx9];rw[G];generalize gg 14=G;have G:=Xg Y a7;have I:∀o,o<27->x.cell? _=some (({F with aC:=.pointer<|some ⟨U,0,none⟩}:Fz).cell X C o):=λo N=>(D.cell Y).trans<|g o N;have d1:=I 18 K3;have d2:=I 17 K3;change _=some (iI (F.depth:Int))at d1;change _=some (Value.bool F.ro)at d2;have k1:=Q.fr.row.cell (i:=18) K3;have f1:=Q.fr.row.frozen 18;have k2:=Q.fr.row.cell (i:=17) K3;have f2:=Q.fr.row.frozen 17;change _=some (iI 0)at k1;change _=some (Value.bool false)at k2;have t:H≠gb:=wq
 have hD1:=cV d1;have hD2:=cV d2;have hK1:=cV k1;have hF1:=cV f1;have hK2:=cV k2;have hF2:=cV f2;let⟨ro,a0⟩:=dP<|(F.ro||J==250);obtain⟨m,a4⟩:∃m:Fz,Hd (m={sB U ae jd with depth:=F.depth+1,ro:=ro}):=⟨_,W⟩
 let⟨x2,z⟩:=dP<|(x.setCell ⟨gb,18,none⟩<|iI<|F.depth+1).setCell ⟨gb,17,none⟩<|.bool ro;have u:Kb [gb] x x2:=by rw[z.aa];exact((Kb.refl _ x).setCell AI _).setCell AI _
 have q:FT O gb U m T [gb] dL dL V x2:=by rw[z.aa,a4.aa,show F.depth+1=((F.depth+1:Nat):Int) by omega];have ha:=Q.aD (F':={sB U _ jd with depth:=F.depth+1}) W W W W W Q.fr.aN (kF Q.fr.row<|xc _ _ _)<|(Kb.refl _ x).setCell AI _;exact ha.aD W W W W W ha.fr.aN (kF ha.fr.row<|RL ro)<|(Kb.refl _ _).setCell AI _
 have G:∀y,Kb _ x2 y->∀o,o<27->y.cell? _=some (({F with aC:=.pointer<|some ⟨U,0,none⟩}:Fz).cell X C o):=λy j o N=>(Xc<|(u.trans j<|λi L=>LZ L).block H (Xg Y D.size)<|by simpa using t).trans<|I o N;have N:∀y,Kb _ x2 y->eI y _ Z:=λy j=>(u.trans j<|λi L=>LZ L).row (cY A D) (by have:=A.lt;simp;omega);have t:∀y,Kb _ x2 y->eI y _ v:=λy j=>(u.trans j<|λi L=>LZ L).row (cY a1 D) (by have:=a1.lt;simp;omega);have a2:Hd (∀y,Kb _ x2 y->Below _ w y):=λy j=>by have Y:=HB.aa.trans<|D.mono HB.size;have h9:=u.trans j<|λi L=>LZ L;refine⟨h9.os.trans Y.os,h9.tape.trans Y.tape,h9.output.trans Y.output,By Y.size h9.size,λk hk=>(h9.block k (Xg hk Y.size) ?_).trans<|Y.block k hk⟩;have:=HB.aa.size;simp;omega
 have a5:Hd _:=By HB.size a7;have Y:Hd (∀a b c,(a=if J=244 then F.ak else Z)->(b=if J=244 then F.ax else F.ak)->(c=if J=244 then F.value else v)->({m with ak:=a,ax:=b,value:=c}:Fz)=oC F U J Z v ae jd):=λa b c ha hb hc=>by rw[a4.aa,a0.aa,ha,hb,hc];rfl
 have HW2:Hd (∀(P:X4),P x2->P ((x.setCell ⟨gb,18,none⟩<|iI<|(F.depth:Int)+1).setCell ⟨gb,17,none⟩<|.bool ro)):=λP h=>by rwa[<-z.aa]
 clear hg Q g I a3 A a1 c0 r a6 D;have tail:True:=trivial;clear tail HW2 k1 f1 k2 f2 d1 d2;have d1:=hD1.aa;have d2:=hD2.aa;have k1:=hK1.aa;have f1:=hF1.aa;have k2:=hK2.aa;have f2:=hF2.aa;by_cases r:J=244
 .subst r;cases g:F.ro;all_goals(
   rw[g]at d2;have I:=a0.aa;rw[g]at I;simp only[Z8,Bool.true_or,Nat.reduceBEq]at I;subst I;go_wp2)
  all_goals(
   rw[<-z.aa];refine dy (UW O gb U (λk=>match k with|0=>m|1=>{m with ak:=F.ak}|2=>{m with ak:=F.ak,ax:=F.ax}|_=>{m with ak:=F.ak,ax:=F.ax,value:=F.value}) T [gb] dL dL V x2) (λ_ _ _=>True) [(0,(.pointer _)),(9,(.pointer _))] [(some 46,.v<|.pointer<|some ⟨gb,0,none⟩),(some 47,.v<|.pointer<|some ⟨gb,0,none⟩),(some 48,.v<|.pointer<|some ⟨gb,0,none⟩),(some 49,.v<|.pointer<|some ⟨H,0,none⟩),(some 50,.v<|.pointer<|some ⟨H,0,none⟩),(some 51,.v<|.pointer<|some ⟨H,3,none⟩),(some 52,.v _),(some 53,.v<|.pointer<|some ⟨H,0,none⟩),(some 54,.v<|.pointer<|some ⟨H,0,none⟩),(some 55,.v<|.pointer<|some ⟨H,7,none⟩),(some 56,.v _),(some 57,.v<|.pointer<|some ⟨H,0,none⟩),(some 58,.v<|.pointer<|some ⟨H,0,none⟩),(some 59,.v _),(some 60,.v _),(some 61,.v<|.pointer<|some ⟨gb,0,none⟩),(some 62,.v _),(none,.v _),(some 63,.v<|.pointer<|some ⟨gb,0,none⟩),(some 64,.v _),(none,.v _),(some 65,.v<|.pointer<|some ⟨gb,0,none⟩),(some 66,.v _),(none,.v undef)] [17,20,23] [6,10,14] (⟨q.below (dO _ _).drew,(Kb.refl _ _).drew⟩) (BU)
     ⟨(λD hv E=>by
      exact gU 3 (hv W) (hv W) D.1.fr.row K3<|E _ _ ⟨D.1.aD W W W W W D.1.fr.aN (zaB D.1.fr.row<|qK dL dL F.ak)<|eJ,D.2.trans (eJ)<|λi L=>LZ L⟩ AF (λ_=>W) W),(λD hv E=>by
      exact gU 7 (hv W) (hv W) D.1.fr.row K3<|E _ _ ⟨D.1.aD W W W W W D.1.fr.aN (zaB D.1.fr.row<|ng dL dL F.ax)<|eJ,D.2.trans (eJ)<|λi L=>LZ L⟩ AF (λ_=>W) W),(λD hv E=>gU 11 (hv W) (hv W) D.1.fr.row K3<|E _ _ ⟨D.1.aD W W W W W D.1.fr.aN (zaB D.1.fr.row<|oO dL dL F.value)<|eJ,D.2.trans (eJ)<|λi L=>LZ L⟩ AF (λ_=>W) W),AF⟩
     ⟨(λ_ D hv E=>by
      have Q:=G _ D.2;exact dD (n:=F.ak) (hv W) (Q 3 K3) (Q 4 K3) (Q 5 K3) (Q 6 K3)<|kx E),(λ_ D hv E=>by
      have Q:=G _ D.2;exact dD (n:=F.ax) (hv W) (Q 7 K3) (Q 8 K3) (Q 9 K3) (Q 10 K3)<|kx E),(λ_ D hv E=>by
      have Q:=G _ D.2;exact dD (n:=F.value) (hv W) (Q 11 K3) (Q 12 K3) (Q 13 K3) (Q 14 K3)<|kx E),AF⟩
     (nl W) (nl W) ?_
   intro gg y j _;have A:=cV<|aIn (show FT O gb U {m with ak:=F.ak,ax:=F.ax,value:=F.value} T [gb] dL dL V y from j.1)<|a2 y j.2;clear j q G N t u;simp only[lP,uN,gt,dQ,Xa,Xf,Act.put];simp only[sx9];go_wp2;go_ret;refine⟨gb,jd,W,a5,A.2,?_⟩;rw[<-Y.aa F.ak F.ax F.value K2 K2 K2];exact A.1)
 have g4:((J:Int)==244)=false:=N3
 by_cases h5:J=250;case' pos=>
  subst h5;cases g:F.ro;all_goals(
   rw[g]at d2;have I:=a0.aa;rw[g]at I;simp only[Z8,Bool.true_or,Nat.reduceBEq]at I;subst I;go_wp2)
 case' neg=>
  have g5:((J:Int)==250)=false:=N3
  have g6:(J==250)=false:=N3
  cases g:F.ro;all_goals(
   rw[g]at d2;have I:=a0.aa;rw[g]at I;simp only[Z8,Bool.true_or,g6]at I;subst I;go_wp2)
 all_goals(
   rw[<-z.aa];refine dy (UW O gb U (λk=>match k with|0=>m|1=>{m with ak:=Z}|2=>{m with ak:=Z,ax:=F.ak}|_=>{m with ak:=Z,ax:=F.ak,value:=v}) T [gb] dL dL V x2) (λ_ _ _=>True) [(0,(.pointer<|some ⟨H,0,none⟩)),(9,(.pointer<|some ⟨gb,0,none⟩)),(6,(.pointer<|some ⟨w.heap.size,0,none⟩)),(7,(.pointer<|some ⟨w.heap.size+1,0,none⟩))] [(some 67,.v<|.pointer<|some ⟨gb,0,none⟩),(some 68,.v<|.pointer<|some ⟨gb,0,none⟩),(some 69,.v<|.pointer<|some ⟨gb,0,none⟩),(some 70,.v<|wv Z),(some 71,.v<|.pointer<|some ⟨H,0,none⟩),(some 72,.v<|.pointer<|some ⟨H,0,none⟩),(some 73,.v<|.pointer<|some ⟨H,3,none⟩),(some 74,.v<|wv F.ak),(some 75,.v<|wv v),(some 76,.v<|.pointer<|some ⟨gb,0,none⟩),(some 77,.v<|.pointer<|some ⟨gb,3,none⟩),(none,.v undef),(some 78,.v<|.pointer<|some ⟨gb,0,none⟩),(some 79,.v<|.pointer<|some ⟨gb,7,none⟩),(none,.v undef),(some 80,.v<|.pointer<|some ⟨gb,0,none⟩),(some 81,.v<|.pointer<|some ⟨gb,11,none⟩),(none,.v undef)] [11,14,17] [3,7,8] (⟨q.below (dO _ _).drew,(Kb.refl _ _).drew⟩) (BU)
     ⟨(λD hv E=>by
      exact gU 3 (hv W) (hv W) D.1.fr.row K3<|E _ _ ⟨D.1.aD W W W W W D.1.fr.aN (zaB D.1.fr.row<|qK dL dL Z)<|eJ,D.2.trans (eJ)<|λi L=>LZ L⟩ AF (λ_=>W) W),(λD hv E=>by
      exact gU 7 (hv W) (hv W) D.1.fr.row K3<|E _ _ ⟨D.1.aD W W W W W D.1.fr.aN (zaB D.1.fr.row<|ng dL dL F.ak)<|eJ,D.2.trans (eJ)<|λi L=>LZ L⟩ AF (λ_=>W) W),(λD hv E=>gU 11 (hv W) (hv W) D.1.fr.row K3<|E _ _ ⟨D.1.aD W W W W W D.1.fr.aN (zaB D.1.fr.row<|oO dL dL v)<|eJ,D.2.trans (eJ)<|λi L=>LZ L⟩ AF (λ_=>W) W),AF⟩
     ⟨(λ_ D hv E=>by
      let⟨q0,q1,q2,q3⟩:=cW<|N _ D.2;exact dD (n:=Z) (hv W) q0 q1 q2 q3<|kx E),(λ_ D hv E=>by
      have Q:=G _ D.2;exact dD (n:=F.ak) (hv W) (Q 3 K3) (Q 4 K3) (Q 5 K3) (Q 6 K3)<|kx E),(λ_ D hv E=>by
      let⟨q0,q1,q2,q3⟩:=cW<|t _ D.2;exact dD (n:=v) (hv W) q0 q1 q2 q3<|kx E),AF⟩
     (nl W) (nl W) ?_
   intro gg y j _;have A:=cV<|aIn (show FT O gb U {m with ak:=Z,ax:=F.ak,value:=v} T [gb] dL dL V y from j.1)<|a2 y j.2;clear j q G N t u;simp only[lP,uN,gt,dQ,Xa,Xf,Act.put];simp only[sx9];go_wp2;go_ret;refine⟨gb,jd,W,a5,A.2,?_⟩;rw[<-Y.aa _ _ _ (iF r).symm (iF r).symm (iF r).symm];exact A.1)
def Tz{a:Act}(z:n=q+1)(f:q<=1000)(A:F.st.length<=q)(h:Fr O H F S X C w)(p:([4,5,6,7,8,9,10,11,12,13,14]:Tl).all (λd=>decide (d<a.tmps.size))=true)(r:tG a 0<|pq H 19)(c1:tG a 1<|iI (n:Int))(V:∀u c s x,((none:Option<|Unit×Fz)=none)->s.defers=a.defers->Kb S w x->Q (.panic [{v:=.iface u c,recovered:=false}]) s x)(y:∀(x:WD)(L:Tl)(sv' mv':VL)(z3:VL)(T:VL)(b:VL)(z9:VL)(Y:VL),Fr O H (badF) L sv' mv' x->Kb S w x->(∀j∈L,j∈S\/w.heap.size<=j)->(AnyV) (1,mv') L z3 x->(Nv) (1,mv') L T x->(Nv) (1,mv') L b x->(Nv) (1,mv') L z9 x->(Nv) (1,mv') L Y x->Q .normal (dQ a [(4,pq H 19),(5,pq H 19),(6,pq H 19),(7,z3),(8,pq H 19),(9,iI (n:Int)),(10,iI (q:Int)),(11,T),(12,b),(13,z9),(14,Y)]) x):(ym f238 0).wp prog Q a w:=by
 exact fG (λk=>match k with|0=>F|_=>badF) h [(0,.pointer _),(1,.int _ _)] [(some 4,.v _),(some 5,.v _),(some 6,.v _),(some 7,.l _),(some 8,.v _),(some 9,.v _),(some 10,.v _),(some 11,.l _),(some 12,.l _),(some 13,.l _),(some 14,.l _)] [7] [3,6,8,9,10] (ha:=⟨N0,p,(eR r<|eR c1 W),N0⟩) (aIn (sk mH)<|aIn (sk ls)<|aIn (sk ls)<|aIn (sk ls)<|aIn (sk ls) AF)
  ⟨(λs x S1 sv1 J D E I m P b K R=>xo (Post:=λe o=>LL e/\Kb S1 x o) zR (xa (P 8 _ W)<|P 10 _ W) (by have G:Fr _ H F S1 _ _ x:=D;let⟨i,N,t⟩:=dt G.st;have Z:x.cell? _=some sv1:=rc G.row 19;rw[t,XD]at Z;exact(sM H 19 q _ _ _ x Z G.aV A).mono λe r h=>⟨h.1,(h.2▸Kb.refl S1 x)⟩) λe o h9=>(by obtain⟨⟨u,c,rfl⟩,r⟩:=h9;exact A4 ⟨_,W,V u c s o W m<|E.trans r I⟩)),AF⟩
  ⟨(@λs x k S1 sv1 J E U b K D P R=>by
    cases k with
    |zero=>exact dm (P W) (rc D.row _) (R _ x (dO _ _) nn1 AF)
    |succ k=>grind[rM]),(λ_ P R=>Jc (P W) z f<|kc R),(@λs x k S1 sv1 J E U b K D P R=>(b 11 _ W).elim),(@λs x k S1 sv1 J E U b K D P R=>(b 12 _ W).elim),(@λs x k S1 sv1 J E U b K D P R=>(b 13 _ W).elim),AF⟩
  λg x L sv' mv' D E I b=>y x L _ _ _ _ _ _ _ D E I (b 3 _ _ W) (b 7 _ _ W) (b 8 _ _ W) (b 9 _ _ W)<|b 10 _ _ W
def dup_r0{a:Act}(i:n=q+1)(p:q<=1000)(m:q<F.st.length)(h:Fr O H F S X C w)(N:([4,5,6,7,8,9,10,11,12,13,14]:Tl).all (λd=>decide (d<a.tmps.size))=true)(r:tG a 0<|pq H 19)(c1:tG a 1<|iI (n:Int))(Y:∀u b s x,(dB (F.st.getD q 0) (F)=none)->s.defers=a.defers->Kb S w x->Q (.panic [{v:=.iface u b,recovered:=false}]) s x)(t:∀(x:WD)(V:Tl)(sv' mv':VL)(z3:VL)(c:VL),Fr O H (A1<|dB (F.st.getD q 0)<|F) V sv' mv' x->Kb S w x->(∀j∈V,j∈S\/w.heap.size<=j)->(Stk F.st.reverse) (1,mv') V z3 x->(WAt<|F.st.getD q 0) (1,mv') V c x->Q .normal (dQ a [(4,pq H 19),(5,pq H 19),(6,pq H 19),(7,z3),(8,pq H 19),(9,iI (n:Int)),(10,iI (q:Int)),(11,iI ((F.st.length-1-q:Nat):Int)),(12,c),(13,wv<|F.st.getD q 0),(14,Value.tuple #[])]) x):(ym f238 0).wp prog Q a w:=by
 exact fG (λk=>match k with|0=>F|_=>A1 _) h [(0,.pointer _),(1,.int _ _)] [(some 4,.v _),(some 5,.v _),(some 6,.v _),(some 7,.l _),(some 8,.v _),(some 9,.v _),(some 10,.v _),(some 11,.v _),(some 12,.l _),(some 13,.v _),(some 14,.v _)] [10] [3,6,7,8,9] (ha:=⟨N0,N,(eR r<|eR c1 W),N0⟩) (aIn (sk<|oM)<|aIn (sk<|oD) AF)
  ⟨(λs x S1 sv1 L E G R y J c K P=>pM pT (xa (J 4 _ W)<|J 13 _ W) (ix x E) W (λ_ _ _=>W) (λo u b z hk=>Y u b s z o y<|G.trans hk R) P),AF⟩
  ⟨(@λs x k S1 sv1 L G I c K E J P=>by
    cases(Yn.1 (I 0 10 W N0):k=0);have D:Fr _ H F S1 _ _ x:=E;exact dm (J W) (rc D.row _)<|P _ x (dO _ _) nn1<|λ_=>⟨_,D.st⟩),(λ_ J P=>Jc (J W) i p<|kc P),(@λs x k S1 sv1 L G I c K E J P=>by
    cases(Yn.1 (I 0 10 W N0):k=0);have D:Fr _ H F S1 _ _ x:=E;let⟨b,f,U⟩:=dt D.st;have Z:x.cell? _=some sv1:=rc D.row 19;rw[U,XD]at Z;exact eK zR (xa (J W)<|J W) (tZ H 19 q _ _ _ x Z D.aV m)<|λe z b=>⟨_,b.1,P _ z (b.2▸dO _ _) nn1 W⟩),(@λs x k S1 sv1 L G I c K E J P=>by
    cases(Yn.1 (I 0 10 W N0):k=0);have D:Fr _ H F S1 _ _ x:=E;let⟨b,h8⟩:=(c 7 _ W) W;let⟨g9,f,U,_,b,_⟩:=fv h8 (by rw[XD];omega);have A:=U;have T:=U▸h8;let⟨r,c1,c2,c3⟩:=Wds.at T (by rw[XD];omega)<|uo q m;exact mA 4 A (J W) (by rw[XD];omega)<|P _ x (dO _ _) nn1<|λ_=>⟨g9,_,W,b,r,c1,c2,c3⟩),(@λs x k S1 sv1 L G I c K E J P=>by
    cases(Yn.1 (I 0 10 W N0):k=0);have D:Fr O H F S1 sv1 L x:=E;let⟨g9,b,U,_,r,c1,c2,c3⟩:=(c 12 _ W) W;exact dD U r c1 c2 c3<|kc P),AF⟩
  λg x V sv' mv' E G R b=>t x V _ _ _ _ E G R (b 3 _ _ W)<|b 8 _ _ W
def vR(n:Nat)(F:Fz):Option (Unit×Fz):=if n<=F.st.length then dB (F.st.getD (n-1) 0) F else none
def dup_I(n:Nat)(hn:1<=n)(R:n<=16)(w:WD)(h:Fr O H F S X C w):cP 238 #[pq H 19,iI (n:Int)] w (gC (vR n F) dR O H S w):=by
 unfold vR;by_cases Z:n<=F.st.length
 .rw[At Z];go_enter func238,ntmps238;go_wp2;refine dup_r0 (q:=n-1) wq wq wq h W W W ?_ ?_
  .intro u pv s x G hd hk;rw[G];exact⟨hd,⟨_,_,W⟩,hk⟩
  intro x U V P z3 Y E I D J L;have Q:Hd (gC (dB (F.st.getD (n-1) 0) F) dR O H S w AG x):=by rw[ou λe=>gG (eD e) E];exact⟨W,U,_,_,E,I,D⟩
  clear E J L I D;simp only[n8];go_wp2;go_end0;exact Q
 rw[iF Z];go_enter func238,ntmps238;go_wp2;refine Tz (q:=n-1) wq wq wq h W W W ?_ ?_
 .intro u pv s x G hd hk;exact⟨hd,⟨_,_,W⟩,hk⟩
 grind[rM]
theorem Ec(h:w.ownsRow O e size (sL g n cp) n xs)(I:o<n*size)(u:VL):(w.setCell ⟨g,o,none⟩ u).ownsRow O e size (sL g n cp) n (xs.set o u):=by
 refine⟨by rw[XE];exact h.1,?_⟩;rcases h.2 with⟨P,_⟩|⟨L,E,L,P,U,V,Y,Z,b,b⟩
 .cases P
 injection P with D J G;injection D with D;injection D with D;subst D G;refine A4 ⟨g,cp,L.setIfInBounds o u,W,U,?_,Y,Z,K9,?_⟩
 .simp[World.setCell,Zq,V]
 grind[Array.toList_setIfInBounds,List.take_set]
def pm(xs:Tn)(o:Nat):Tn->Tn
 |[]=>xs
 |v::r=>pm (xs.set o v) (o+1) r
theorem sO{O e size n g cp:Nat}:∀(D:Tn)(o:Nat){w:WD}{xs:Tn},w.ownsRow O e size (sL g n cp) n xs->o+D.length<=n*size->(w.setCells g o D).ownsRow O e size (sL g n cp) n (pm xs o D)
 |[],o,w,xs,h,_=>h
 |v::r,o,w,xs,h,hl=>by rw[X2]at hl;exact sO r _ (Ec h wq v) wq
def wl(n:Nat):Tn:=[lu n 0,lu n 1,lu n 2,lu n 3]
theorem Ad(p:Tn):∀(D xs:Tn)(o:Nat),pm (p++xs) (p.length+o) D=p++pm xs o D
 |[],_,_=>rfl
 |v::r,xs,o=>by show pm ((p++xs).set (p.length+o) v) (p.length+o+1) r=_;rw[List.set_append_right _ _ wq,ZL,ZB,Ad p r];rfl
theorem QJ:∀(l:Tl)(j:Nat)(n:Nat),j<l.length->pm (fj l) (j*4) (wl n)=fj (l.set j n)
 |m::l,0,n,_=>rfl
 |m::l,j+1,n,h=>by have e:fj (m::l)=wl m++fj l:=rfl;rw[e,show(j+1)*4=(wl m).length+j*4 by show _=4+_;omega,Ad,QJ l j n K9];rfl
def wy{l:Tl}(h:Wds w O (sL g l.length cp) l)(D:j<l.length)(n:Nat):Wds (w.setCells g (j*4)<|wl n) O (sL g l.length cp) (l.set j n):=by unfold Wds;rw[<-QJ l j n D,XE];exact sO _ _ h (by show _+4<=_;omega)
def vj{l:Tl}(h:Wds w O (sL g l.length cp) l)(J:j<l.length):w.there g (j*4) 4:=by
 intro i P;rcases h.2 with⟨U,_⟩|⟨P,E,P,U,V,V,Y,Y,Y,Y⟩
 .cases U
 injection U with D L I;injection D with D;injection D with D;subst D I;have G:j*4+i<P.size:=wq
 exact⟨by rw[cell_of_row _ g _ _ 24 _ V];grind,by simp[World.frozen?,V]⟩
theorem Kb.setCells{a:WD}(g:Nat)(D:g∈S\/a.heap.size<=g):∀(E:Tn)(o:Nat){b:WD},Kb S a b->Kb S a (b.setCells g o E)
 |[],_,_,h=>h
 |v::r,o,b,h=>Kb.setCells g D r (o+1)<|h.setCell (p:=⟨g,o,none⟩) D v
def Dv:(prog.info? 24).map (·.size)=some 4:=N0
def mu{L:Vr}(G:tG s t<|pq g o)(E:tG s u<|wv n)(J:x.there g o 4)(I:K (s.put none undef)<|x.setCells g o<|wl n):Oper.wp prog ⟨none,.store 24 (.tmp t)<|.tmp u,L,pos,af,gd⟩ s x K Q:=wp_store_mid 24 (.tmp t) (.tmp u) W g o #[lu n 0,lu n 1,lu n 2,lu n 3] G E J Dv (Array.all_eq_true_iff_forall_mem.2 (by intro v D;simp at D;rcases D with rfl|rfl|rfl|rfl<;>rfl)) I
def PhW(O g:Nat)(w:WD)(X:VL)(l1 l2:Tl):Nat->X4
 |0,x=>bW w x
 |1,x=>Wds x O X l1/\Kb [g] w x
 |_,x=>Wds x O X l2/\Kb [g] w x
def qu{D E:Tl}{x:WD}(h:PhW O g w X D E k x)(G:k<=0):bW w x:=by
 cases(wq:k=0)
 exact h
def Ra{D E:Tl}(k:Nat)(x x':WD)(h:PhW O g w X D E k x)(G:bW x x'):PhW O g w X D E k x':=by
 match k,h with
 |0,h=>exact(h).trans<|G.mono (h).size
 |1,h=>exact⟨dh h.1 G,h.2.below G⟩
 |_+2,h=>exact⟨dh h.1 G,h.2.below G⟩
def pC(n:Nat)(l:Tl):Tl:=(l.set 0<|l.getD n 0).set n<|l.getD 0 0
def nv(n:Nat)(F:Fz):Option (Unit×Fz):=if n<F.st.length then some ((),{F with st:=pC n F.st})else none
def Kt(n:Nat){l:Tl}(h:n<l.length):(pC n l).reverse=(l.reverse.set (l.length-1)<|l.getD n 0).set (l.length-1-n) (l.getD 0 0):=by refine List.ext_getElem (by simp[pC]) λi E D=>?_;grind[pC]
def swap_I(n:Nat)(hn2:n<=16)(w:WD)(h:Fr O H F S X C w):cP 240 #[pq H 19,iI (n:Int)] w (gC (nv n F) dR O H S w):=by
 have Z:=h.row.cell (i:=19) K3;rw[Gd]at Z;have l:=h.aV;have d:=h.row.lt;obtain⟨c,cp,rfl⟩:=dt h.st;rw[XD]at Z;by_cases h0:F.st.length=0
 .have e:nv n F=none:=iF wq;rw[e];have T:=cV<|sM H 19 0 _ cp c w Z l wq;go_enter func240,ntmps240;go_wp2_with fail
  refine T.mono ?_;rintro e x⟨⟨u,pv,rfl⟩,P⟩;cases P.symm;exact⟨W,⟨_,_,W⟩,Kb.refl _ _⟩
 have T:=cV<|tZ H 19 0 _ cp c w Z l wq;by_cases V:n<F.st.length
 .have e:nv n F=some _:=At V;rw[e];have p:=cV<|tZ H 19 n _ cp c w Z l V;let⟨g,E,z,hgb,hgx⟩:=fv h.st K9;injection z with e1 e2 e3;subst e1 e3;have hs:=h.st;rw[<-XD]at Z;have r:F.st.length-1<F.st.reverse.length:=K9
  have A:F.st.length-1-n<F.st.reverse.length:=wq
  have ha:F.st.reverse[F.st.length-1]=F.st.getD 0 0:=uo 0 wq;have hb:F.st.reverse[F.st.length-1-n]=F.st.getD n 0:=uo n V;have HR:=cV<|Kt n V;rw[Nat.sub_zero]at T;generalize F.st.getD 0 0=a at*;generalize F.st.getD n 0=b at*;generalize F.st.length-1-n=j at*;generalize F.st.length-1=i at*;generalize hR:F.st.reverse=R at*;have HSV:Hd _:=(cV h).aa;clear e h hgb hgx V h0 l;go_enter func240,ntmps240;go_wp2_with fail
  refine T.mono ?_;rintro e x⟨rfl,P⟩;cases P.symm;go_wp2_with fail
  refine p.mono ?_;rintro e x⟨rfl,P⟩;cases P.symm;go_wp2;refine dy (PhW O g w ((sL g R.length cp)) (R.set i b)<|(R.set i b).set j a) (λ_ _ _=>True) [(0,(pq H 19)),(4,(iI (i:Int))),(5,(iI (j:Int)))] (nV 11 [pq H 19,pq H 19,sL g R.length cp,iI (i:Int),pq H 19,pq H 19,sL g R.length cp,iI (j:Int),pq H 19,pq H 19,sL g R.length cp,iI (j:Int),pq g<|j*4,.agg #[iU<|cX b 0,iU<|cX b 1,iU<|cX b 2,iU<|cX b 3],pq H 19,pq H 19,sL g R.length cp,iI (i:Int),pq g<|i*4,.agg #[iU<|cX a 0,iU<|cX a 1,iU<|cX a 2,iU<|cX a 3],pq g<|i*4]++[(none,.v undef),(some 32,.v<|pq g<|j*4),(none,.v undef)]) [21,23] [2,6,10,12,13,16,18,19,20,22] ((dO _ w).drew) (Ra)
    ⟨(@λs x J l K D I L=>by exact mu (I W) (I W) (vj (dh hs D) r)<|L _ _ ⟨wy (dh hs D) r b,(Kb.h D).setCells g AI _ _⟩ AF (λ_=>W) W),(@λs x J l K D I L=>mu (I W) (I W) (vj (by rw[XE];exact D.1) (by rw[XE];exact A))<|L _ _ ⟨by have:=wy (by rw[XE];exact D.1) (by rw[XE];exact A) a;rw[XE]at this;exact this,D.2.setCells g AI _ _⟩ AF (λ_=>W) W),AF⟩
    ⟨(@λk s x q U J l K G D I L=>by
     exact dm (I W) (((qu D<|G 0 21).cell d).trans Z)<|kx L),(@λk s x q U J l K G D I L=>by
     exact dm (I W) (((qu D<|G 0 21).cell d).trans Z)<|kx L),(@λk s x q U J l K G D I L=>by
     exact dm (I W) (((qu D<|G 0 21).cell d).trans Z)<|kx L),(@λk s x q U J l K G D I L=>by
     exact mA 4 (I W) (I W) A<|kx L),(@λk s x q U J l K G D I L=>by
     let⟨q0,q1,q2,q3⟩:=Wds.at (dh hs<|qu D<|G 0 21) A hb;exact dD (I W) q0 q1 q2 q3<|kx L),(@λk s x q U J l K G D I L=>by
     exact dm (I W) (((qu D<|G 0 21).cell d).trans Z)<|kx L),(@λk s x q U J l K G D I L=>by
     exact mA 4 (I W) (I W) r<|kx L),(@λk s x q U J l K G D I L=>by
     let⟨q0,q1,q2,q3⟩:=Wds.at (dh hs<|qu D<|G 0 21) r ha;exact dD (I W) q0 q1 q2 q3<|kx L),(@λk s x q U J l K G D I L=>by
     exact mA 4 (I W) (I W) r<|kx L),(@λk s x q U J l K G D I L=>mA 4 (I W) (I W) A<|kx L),AF⟩
    (nl W) (nl W) ?_
  intro gg x D _;have HO:Hd (gC (some ((),{F with st:=pC n F.st})) dR O H S w AG x):=by
   refine⟨W,?_⟩;let⟨h1,y⟩:=D;have h:=HSV.aa;have hgS:g∈S:=by rw[h.aH];exact IN _<|Xw _<|by simp[Value.ownBlock]
   have Y:∀k∈[g],k∈S:=λk q=>by
    cases((by simpa using q):k=g)
    exact hgS
   refine⟨S,_,C,⟨y.row h.row<|λm=>h.fs g W<|(BY.1 m).symm,?_,y.aD h.me<|λk q m=>?_,h.aH,?_,h.bv,h.aN,By h.hb y.size,sA h.zr y (λm=>h.bu<|Y 0 m) h.hs,h.aA,h.bg,h.aT,h.jr.kb y<|λg' N f hr m=>h.bO g' N f hr<|Y g' m⟩,y.mono Y,λk q=>LZ q⟩
   .show Wds x O _ (pC n F.st).reverse;rw[HR.aa];exact h1
   .obtain rfl:k=g:=(by simpa using m)
    exact h.sm k q<|IN _<|by simp[Value.ownBlock]
   show(pC n F.st).length<=1024;simpa[pC]using h.aV
  simp only[n8];go_wp2;go_end0;exact HO
 have e:nv n F=none:=iF V;rw[e];have p:=cV<|sM H 19 n _ cp c w Z l wq;go_enter func240,ntmps240;go_wp2_with fail
 refine T.mono ?_;rintro e x⟨rfl,P⟩;cases P.symm;go_wp2_with fail
 refine p.mono ?_;rintro e x⟨⟨u,pv,rfl⟩,P⟩;cases P.symm;exact⟨W,⟨_,_,W⟩,Kb.refl _ _⟩
def OT:prog.underlying 128=some (.map 217 24):=N0
def Fl:prog.cellsOf 217=9:=N0
def O5:prog.cellsOf 215=1:=N0
def cl_kt:prog.keyType 217=true:=N0
def RZ(d k:Nat)(C:k<3):prog.keyLits (d+1) 215 [.int .i64 (k:Int)]=some [.int .i64 (k:Int)]:=by
 unfold Program.keyLits;rw[underlying215]
 grind[Lit.wf,IntKind.min,IntKind.max,IntKind.signed,IntKind.bits]
def sG(d n:Nat):∃l,prog.keyLits (d+2) 24 [lu n 0,lu n 1,lu n 2,lu n 3]=some l:=by rw[Bj];simp[List.range,List.range.loop,xO,Iu]
def Oq(k a N:Nat)(I:k<3):∃l,keyOf prog 217 (gS k a N)=some l:=by
 obtain⟨m,C⟩:=uG;unfold keyOf;rw[underlying217];simp only[cl_kt,Value.formed,underlying217,Fl,YG];rw[C,At R5];show∃l,Option.map _ (prog.keyLits (m+2+1) 217 [.int .i64 (k:Int),lu a 0,lu a 1,lu a 2,lu a 3,lu N 0,lu N 1,lu N 2,lu N 3])=some l;obtain⟨G,E⟩:=sG m a;obtain⟨H,D⟩:=sG m N
 conv=>enter [1,l,1,2];unfold Program.keyLits
 rw[underlying217];simp[Fl,O5,w7,RZ (m+1) k I,E,D]
def KZ{a':Nat}(h:gS k a b=gS k a' b'):a%M=a'%M/\b%M=b'%M:=by injection h with h;injection h with h;injection h with _ h;injection h with J h;injection h with G h;injection h with D h;injection h with L h;injection h with E h;injection h with I h;injection h with C h;injection h with H h;exact⟨xf K9,xf K9⟩
def Ed{a':Nat}(D:a%M=a'%M)(C:b%M=b'%M):gS k a b=gS k a' b':=by have E:=iL D;have G:=iL C;grind
def PM.aQ{p:Nat->Vq}(h:PM w pb n p)(a k:Nat):(Instr.lookup 128 (.map<|some pb) (gS 2 a k) false).run prog w=.ok (wv<|p a k) w:=by let⟨g,D,C⟩:=h;let⟨l,E⟩:=Oq 2 a k wq;rw[D.aQ D5 OT xu E];have:=C a k;unfold wv at this;grind[dK]
def PM.store{p:Nat->Vq}(h:PM w pb n p)(hn:n<maxLen)(a k v:Nat):∃y,(Instr.mapUpdate 128 (.map<|some pb) (gS 2 a k)<|wv v).run prog w=.ok () y/\PM y pb (n+1) (λb q=>if b%M=a%M/\q%M=k%M then v else p b q)/\w.mapTurned y pb:=by
 let⟨g,E,C⟩:=h;let⟨l,L⟩:=Oq 2 a k wq;let⟨y,H,P,I,D,G,J⟩:=E.store D5 OT hn (wv v) L;refine⟨y,P,⟨H,I,λb q=>?_⟩,J⟩;by_cases e:b%M=a%M/\q%M=k%M
 .dsimp only;rw[At e,Ed e.1 e.2,D];rfl
 dsimp only;rw[iF e,G _<|λh=>e<|KZ h,C]
def vt(a N:Nat)(w:WD)(h:Tr O U T V w):cP 202 #[pt U,gS 2 a N] w (rT (wv<|T.aP a N) w):=by have C:=h.below<|xe w 2 a N;have D:(Instr.lookup _ _ (.agg #[.int _ 2,.int _ _,.int _ _,.int _ _,.int _ _,.int _ _,.int _ _,.int _ _,.int _ _]) _).run _ _=.ok _ _:=C.aP.aQ a N;have E:=rc C.row 1;rw[show zh V 1=.map _ from W]at E;generalize T.aP a N=r at*;go_enter func202,ntmps202;go_wp2;go_region;go_wp2;refine sp (by simp[results,results202,go_sem]) W ⟨W,(ai (ai (dO _ w) _) _).drew⟩
def Tr.cR{p:Nat->Vq}(h:Tr O U T V w)(H:Kb [V.pb] w w')(hn:V.n<=n')(I:PM w' V.pb n' p):TTo O U T V {T with aP:=p} (n'-V.n) w w':=by
 have C:∀k∈[V.pb],∃E cl,w.heap[k]?=some (.map E cl):=λk H=>by cases(K9:k=V.pb);exact h.aP.is
 refine⟨{V with n:=n'},_,⟨H.row h.row<|λe=>gx h.row (C _ e) W,(h.aw.kb H<|λk H J=>h.pn K9).mono hn,I,H.aD h.ch<|λk e D=>iD h.ch (C k D) e,h.lo.kb H (λk e D=>iD h.lo.2.1 (C k D) e) (λt G k e D=>by let⟨l,I⟩:=h.lo.tv G;exact iD I (C k D) e),h.zr.kb H<|λe=>qA h.zr (C _ e) W,By h.hb H.size,h.aA,h.pn⟩,K9,H,λk H=>A4<|A4<|LZ K9,λk H=>LZ H,W⟩
def TTo.mono(h:TTo O U T V T' m w w')(G:m<=m'):TTo O U T V T' m' w w':=by let⟨C,S,D,H,E⟩:=h;exact⟨C,S,D,wq,E⟩
theorem sX(a N v:Nat)(w:WD)(h:Tr O U T V w)(hn:V.n<900000000000):cP 159 #[pt U,gS 2 a N,wv v] w λe w'=>e=AG/\TTo O U T V (jK T 2 a N v) 2 w w':=by
 have D:=h.below<|nP w 2 a N v;let⟨y,C,E,G⟩:=D.aP.store (by grind[maxLen]) a N v;have C:(Instr.mapUpdate _ _ (.agg #[.int _ 2,.int _ _,.int _ _,.int _ _,.int _ _,.int _ _,.int _ _,.int _ _,.int _ _]) _).run _ _=.ok () y:=C;have L:=rc D.row 1;rw[show zh V 1=.map _ from W]at L;have I:Hd (TTo O U T V (jK T 2 a N v) 2 w y):=by let⟨J,H,t3,t4,t5⟩:=An G;exact((D.cR ⟨J,H,t3,t4,λk L hn=>t5 k L K9⟩ (ZN _) E).pre<|nP w 2 a _ v).mono wq
 go_enter func159,ntmps159;go_wp2;go_region;go_wp2;go_end0;exact⟨W,I⟩
def EZ(v:Nat)(w:WD)(h:Tr O U T V w)(G:T.ch.length<1000000000)(hn:V.n<900000000000):cP 154 #[pt U,gS 2 aj N,wv v] w λe w'=>e=AG/\TTo O U T V (iZ T 2 aj N v) 2 w w':=FD 2 aj N v w h W G (λx C=>vt aj N x C)<|λT' D x C E=>sX aj N v x C wq
end cin
end Go.Proofs.YtohoajjdoihekaaGreatDoor
