import Derived.Test.YtohoajjdoihekaaGreatDoorBz
import Derived.ProofKit
import Derived.OpenShut
import Derived.ChangeOld
import Derived.Below
import Derived.Laws.IdiomArrays
import Derived.Deep.Slices
import Derived.LaidMore
set_option linter.unusedVariables false
set_option linter.unusedSimpArgs false
set_option linter.defProp false
namespace Go.Proofs.YtohoajjdoihekaaGreatDoor
namespace cin
open Go.RowKit Go.Maps Go.Proofs.Tryz Tryz
set_option maxRecDepth 100000
set_option maxHeartbeats 8000000
variable {w y:WD}{bb a b c t O k N g o cp i:Nat}{v u1 u2 u4 u6 u7 u8 u12 sc:VL}{ps:Tn}{hs:List HE}{h:HE}{Q:Y6}
structure OpE where
 kind:Int
 on:Int
 world:List AcE
 fr:Nat
 tgt:Nat
 vl:Nat
 data:BA
 ac:Int
def Hb(e:OpE)(u:VL):Tn:=.int .i64 e.kind::.int .i64 e.on::u::kZ e.fr e.tgt e.vl e.data e.ac
structure OpOk(w:WD)(e:OpE)(u:VL):Prop where
 ac:AcIn w u e.world
 ll:e.world.length<=100000
 ss:∀x∈e.world,x.ar.length<=1000000000
 bm:∀x∈e.world,x.ai<M
 lo: -9223372036854775808<=e.on
 hi:e.on<=9223372036854775807
def SC(w:WD)(v:VL)(l:List OpE):=∃ad c,v=.slice ad l.length c/\(l=[]\/∃g o,ad=some ⟨g,o,none⟩/\g<w.heap.size/\∀(i:Nat) e,l[i]?=some e->∃u,(∀j x,(Hb e u)[j]?=some x->w.cell? ⟨g,o+i*17+j,none⟩=some x)/\OpOk w e u)
section
variable {z:WD}{F:List Rs}{s t:List HE}{G:Nat->VL×Tn}
def SW.lit(S:SW w bb F a b c v [] hs G y)(p:Nat):SW w bb F a b c (sL y.heap.size 1 1) [pt p] hs G (y.alloc<|.cells #[pt p] 55):=by
 have C:Below _ y (y.alloc<|.cells #[pt p] 55):=ai (dO _ y) _;refine⟨?_,S.be.trans<|C.mono S.sp.s,S.ok,S.g4,S.gd⟩;refine(Sep.new (r:=fp 55 1 _ 1 _) S.sp.sw.tl ?_ C λk C=>?_).sw
 .refine⟨W,A4 ⟨_,1,#[pt p],W,In _,?_,DO _,by grind[maxLen],W,W⟩⟩;show(y.heap.push _)[y.heap.size]?=_;simp
 rw[<-hV (show some y.heap.size=some k from C)];omega
def LI(w:WD)(bb:Nat)(F:List Rs)(i:Nat)(v:VL)(y:WD):=∃hs G a b c,SW w bb F a b c v (hs.map λh=>pt h.pb) hs G y/\0<hs.length/\hs.length<=c/\a+b+c<=i+3
theorem SW.bk(S:SW w bb F a b c v ps hs G y)(C:a+b<=47665)(D:c<=47665):cP 21 #[pt bb] y λe z=>e=.returned (.bool true)/\SW w bb F a b c v ps hs G z:=by
 have E:=un C D;refine(D0 S.sp λk=>?_).mono λe z h=>⟨h.1,S.below h.2⟩
 have:=S.gd k;omega
def SW.at(S:SW w bb F a b c v (hs.map λh=>pt h.pb) hs G y)(H:0<hs.length):∃g D,v=sL g hs.length D/\∀j,j<hs.length->∃s h t,hs=s++h::t/\cL y g j (pt h.pb):=by have C:=S.sp.tl.hd;rw[XH]at C;obtain⟨L,D,rfl⟩:=dt C;obtain⟨_,g,rfl,_⟩:=fH C 0 H;refine⟨g,D,W,λj E=>⟨hs.take j,hs[j],hs.drop<|j+1,K2,?_⟩⟩;let⟨_,I,e,_,J,_⟩:=fH C j E;grind
end
section
open Go.ChangeShapes Go.WideShapes Go.ChangeAt Go.RowKit
def aD:ownKnob prog.godebug=none:=N0
def TU:laidOutB prog=true:=N0
def yY:prog.cellsOf 24=4:=N0
def xB:prog.cellsOf 22=1:=N0
def GZ(x0 x1 x2 x3:Nat)(E:x0<18446744073709551616)(D:x1<18446744073709551616)(C:x2<18446744073709551616)(G:x3<18446744073709551616):∃n,wv n=.agg #[iU (x0:Int),iU (x1:Int),iU (x2:Int),iU (x3:Int)]:=by refine⟨x0+18446744073709551616*(x1+18446744073709551616*(x2+18446744073709551616*x3)),?_⟩;unfold wv;rw[(by unfold cX;rw[Je];omega:cX (x0+18446744073709551616*(x1+18446744073709551616*(x2+18446744073709551616*x3))) 0=(x0:Int)),(by unfold cX;rw[LP];omega:cX (x0+18446744073709551616*(x1+18446744073709551616*(x2+18446744073709551616*x3))) 1=(x1:Int)),(by unfold cX;rw[Li];omega:cX (x0+18446744073709551616*(x1+18446744073709551616*(x2+18446744073709551616*x3))) 2=(x2:Int)),(by unfold cX;rw[Ij];omega:cX (x0+18446744073709551616*(x1+18446744073709551616*(x2+18446744073709551616*x3))) 3=(x3:Int))]
def wP{x:Int}(h:(Lit.int .u64 x).wf=true):∃n:Nat,x=(n:Int)/\n<18446744073709551616:=by have C:=bounds_u64 h;exact⟨x.toNat,wq,wq⟩
end
section
open Go.ChangeShapes Go.WideShapes Go.ChangeAt Go.RowKit
section
variable {Hq9:Type} {enc:Vr×VL->Hq9} {W:WD} {fuel:Nat} {cs:Tn} {x:DataW Hq9×List MemPlace}
abbrev tt(enc:Vr×VL->Hq9)(W:WD)(fuel t:Nat)(cs:Tn)(x:DataW Hq9×List MemPlace):=DataW.trod enc prog W 0 (λ_=>true) true fuel t cs=some x
def o8(d:DataW Hq9):1<=Rows.uptoBulk d:=by
 rcases d with l|_|_|_|_|_|_|_
 .cases l<;>simp[Rows.uptoBulk]
 all_goals simp[Rows.uptoBulk]
theorem Lw(c:Nat):∀l:List<|DataW Hq9,(∀d∈l,c<=Rows.uptoBulk d)->c*l.length<=Rows.uptoBulkAll l
 |[],_=>In _
 |d::r,h=>by have D:=h d Xz;have C:=Lw c r λd E=>h d<|IN _ E;grind[Rows.uptoBulkAll,X2,Nat.mul_add]
theorem NR:∀(l:List<|DataW Hq9)(d:DataW Hq9),d∈l->Rows.uptoBulk d<=Rows.uptoBulkAll l
 |[],_,h=>by cases h
 |e::r,d,h=>by
  simp only[Rows.uptoBulkAll];rcases IF.1 h with rfl|h
  .omega
  have:=NR r d h;omega
theorem o7{c0 c1 c2 c3:VL}(h:tt enc W fuel 24 [c0,c1,c2,c3] x):∃n,n<M/\c0=.int .u64 (cX n 0)/\c1=.int .u64 (cX n 1)/\c2=.int .u64 (cX n 2)/\c3=.int .u64 (cX n 3)/\Rows.uptoBulk x.1=5:=by
 obtain⟨y0,y1,y2,y3,m,rfl,hy0,hy1,hy2,hy3⟩:=trod_array4 underlying24 xB h;obtain⟨x0,e0,rfl,w0⟩:=DataW.trod_int underlying22 hy0;obtain⟨x1,e1,rfl,w1⟩:=DataW.trod_int underlying22 hy1;obtain⟨x2,e2,rfl,w2⟩:=DataW.trod_int underlying22 hy2;obtain⟨x3,e3,rfl,w3⟩:=DataW.trod_int underlying22 hy3;simp at e0 e1 e2 e3;subst e0 e1 e2 e3;obtain⟨n0,rfl,l0⟩:=wP w0;obtain⟨n1,rfl,l1⟩:=wP w1;obtain⟨n2,rfl,l2⟩:=wP w2;obtain⟨n3,rfl,l3⟩:=wP w3;obtain⟨n,hn⟩:=GZ n0 n1 n2 n3 l0 l1 l2 l3;unfold wv at hn;injection hn with hn
 have e:=Xl Array.toList hn;simp only[List.cons.injEq,and_true] at e;refine⟨n%M,Xs _ (by decide),?_⟩;simp only[MT,Nat.reduceLT];exact⟨e.1.symm,e.2.1.symm,e.2.2.1.symm,e.2.2.2.symm,rfl⟩
def A6{c:VL}(h:tt enc W fuel 3 [c] x):∃k,c=iI k/\ -9223372036854775808<=k/\k<=9223372036854775807:=by obtain⟨k,e, -,w⟩:=DataW.trod_int underlying3 h;exact⟨k,List.singleton_inj.1 e,bounds_i64 w⟩
def KS{c:VL}(h:tt enc W fuel 9 [c] x):∃s,c=.string s:=by obtain⟨s,e, -⟩:=DataW.trod_string N0 h;grind
def Ck(k m:Nat)(h:tt enc W fuel t cs x)(D:prog.underlying t=some (.struct<|prog.fieldsOf t)/\prog.cellsOf t=k/\(prog.fieldsOf t).size=m:=by exact⟨N0,N0,N0⟩):∃(C:List<|DataW Hq9×List MemPlace)(n:Nat),cs.length=k/\C.length=m/\Rows.uptoBulk x.1=Rows.uptoBulkAll (C.map (·.1))+1/\∀(i u o z:Nat)(G:((prog.fieldsOf t)[i]?).map (λf=>(f.type,f.offset))=some (u,o):=by kernel_rfl)(E:prog.cellsOf u=z:=by kernel_rfl),DataW.trod enc prog W 0 (λ_=>true) true n u ((cs.drop o).take z)=C[i]? :=by obtain⟨C,n, -,rfl,I,H,J⟩:=DataW.trod_struct D.1 h;refine⟨C,n,I.trans D.2.1,H.trans D.2.2,rfl,λi u o z G E=>?_⟩;grind
theorem H2{α:Type}[Inhabited α]{st et z c:Nat}{v:VL}(R:α->Tn->Nat->Prop)(hz:0<z)(each:∀n cs (x:DataW Hq9×List MemPlace),tt enc W n et cs x->c<=Rows.uptoBulk x.1/\∃q,R q cs (Rows.uptoBulk x.1))(h:tt enc W fuel st [v] x)(hu:prog.underlying st=some (.slice et):=by kernel_rfl)(hc:prog.cellsOf et=z:=by kernel_rfl):∃l:List α,c*l.length<=Rows.uptoBulk x.1/\∃ad k,v=.slice ad l.length k/\(l=[]\/∃g o,ad=some ⟨g,o,none⟩/\g<W.heap.size/\∀(i:Nat) q,l[i]? =some q->∃cs m,R q cs m/\m<=Rows.uptoBulk x.1/\∀j,j<z->W.cell? ⟨g,o+i*z+j,none⟩=some (cs[j]!)):=by
 rcases Go.Deep.open_slice hu h with⟨hcs,rfl⟩|⟨a,len,E,m,n,D,Pl,hcs,_,hl,hm,hmm,rfl,hcell⟩
 ·exact⟨[],In _,_,0,List.singleton_inj.1 hcs,Or.inl rfl⟩
 obtain rfl:=List.singleton_inj.1 hcs;have hlm:len<=m:=by rw[hmm];split<;>omega
 have ht:∀d∈(List.range len).map D,Rows.uptoBulk d<=Rows.uptoBulkAll _:=NR _
 have he:∀i,i<len->∃q:α,c<=Rows.uptoBulk (D i)/\∃cs,R q cs (Rows.uptoBulk (D i))/\∀j,j<z->W.cell? _=some (cs[j]!):=λi hi=>by
  obtain⟨cs,h1,h2⟩:=hcell i (by omega);obtain⟨h3,q,h4⟩:=each _ _ _ h2;rw[hc] at h1;refine⟨q,h3,cs,h4,λj hj=>?_⟩;have h5:=(World.cells?_some h1).2.2 j hj;have h6:=(World.cells?_some h1).2.1;rw[Go.Deep.add_add] at h5;rw[h5,List.getElem!_eq_getElem?_getD,iN (by omega)];rfl
 obtain⟨f,hf⟩:=Go.Deep.choose_lt he;have hlen:((List.range len).map f).length=len:=by simp
 have hb:Rows.uptoBulk (.slice ((List.range len).map D) ((List.range (m - len)).map λj=>D (len+j)))=Rows.uptoBulkAll ((List.range len).map D)+Rows.uptoBulkAll ((List.range (m - len)).map λj=>D (len+j))+1:=by simp only[Rows.uptoBulk]
 rw[hb];refine⟨_,?_,_,_,by rw[hlen],?_⟩
 ·have:=Lw c _ λd hd=>by
   obtain⟨i,hi,rfl⟩:=Xq.1 hd;exact(hf i (XS.1 hi)).1
  rw[XH,List.length_range] at this;rw[hlen];omega
 ·by_cases h0:len=0
  ·subst h0;exact Or.inl rfl
  obtain⟨-,_, -,hc0⟩:=hf 0 (by omega);have hc0:=hc0 0 hz;rw[show a.add _=a by simp[Addr.add]] at hc0;have hs:=World.cell?_spot hc0;obtain⟨g,o,sp⟩:=a;obtain rfl:sp=none:=hs;refine Or.inr ⟨g,o,rfl,Yb _ _ hc0,λi q hq=>?_⟩;have hi:i<len:=by rw[<-hlen];exact(Do.1 hq).1
  rw[Xu,ZG hi] at hq;obtain rfl:=hV hq;obtain⟨-,cs,h1,h2⟩:=hf i hi;have h3:=ht _ (Xq.2 ⟨i,XS.2 hi,rfl⟩);refine⟨cs,_,h1,by omega,λj hj=>?_⟩;rw[<-h2 j hj,show(⟨g,o,_⟩:Addr).add _=⟨g,o+i*z+j,none⟩ by simp[Addr.add,ZB]]
def QV(h:tt enc W fuel 54 cs x):∃q:Nat×Nat,cs=eU q.1++eU q.2:=by
 obtain⟨C,n,G,D, -,E⟩:=Ck 8 2 h;match cs,G,C,D with
 |[c0,c1,c2,c3,c4,c5,c6,c7],_,[x0,x1],_=>obtain⟨a, -,rfl,rfl,rfl,rfl, -⟩:=o7<|E 0 24 0 4;obtain⟨b, -,rfl,rfl,rfl,rfl, -⟩:=o7<|E 1 24 4 4;exact⟨(a,b),rfl⟩
def td_ac(h:tt enc W fuel 34 cs x):13<=Rows.uptoBulk x.1/\∃q:AcE,∃L,cs=jL q.aj q.ai q.ae L/\SlIn W L q.ar/\q.ar.length<=Rows.uptoBulk x.1/\q.ai<M:=by
 let⟨E,n,P,G,Q,L⟩:=Ck 10 4 h;match cs,P,E,G with
 |[c0,c1,c2,c3,c4,c5,c6,c7,c8,c9],_,[x0,x1,x2,x3],_=>obtain⟨a, -,rfl,rfl,rfl,rfl,J⟩:=o7<|L 0 24 0 4;obtain⟨b,C,rfl,rfl,rfl,rfl,I⟩:=o7<|L 1 24 4 4;obtain⟨s,rfl⟩:=KS<|L 2 9 8 1;let⟨l,P,D,k,e,H⟩:=H2 (α:=Nat×Nat) (z:=8) (c:=1) (λq cs _=>cs=eU q.1++eU q.2) K3 (λ_ _ _ h=>⟨o8 _,QV h⟩)<|L 3 32 9 1;have b2:=o8 x2.1;have b3:=o8 x3.1;simp only[List.map_cons,List.map_nil,Rows.uptoBulkAll]at Q;refine⟨wq,⟨a,b,s,l⟩,c9,rfl,⟨D,k,e,H.imp_right ?_⟩,K9,C⟩;grind
def td_msg(h:tt enc W fuel 43 cs x):18<=Rows.uptoBulk x.1/\∃(H Z I:Nat)(s:BA)(k:Int),cs=kZ H Z I s k:=by
 let⟨C,n,J,D,I,H⟩:=Ck 14 5 h;match cs,J,C,D with
 |[c0,c1,c2,c3,c4,c5,c6,c7,c8,c9,c10,c11,c12,c13],_,[x0,x1,x2,x3,x4],_=>obtain⟨a, -,rfl,rfl,rfl,rfl,G⟩:=o7<|H 0 24 0 4;obtain⟨b, -,rfl,rfl,rfl,rfl,E⟩:=o7<|H 1 24 4 4;obtain⟨c, -,rfl,rfl,rfl,rfl,b2⟩:=o7<|H 2 24 8 4;obtain⟨s,rfl⟩:=KS<|H 3 9 12 1;obtain⟨k,rfl, -⟩:=A6<|H 4 3 13 1;have b3:=o8 x3.1;have b4:=o8 x4.1;simp only[List.map_cons,List.map_nil,Rows.uptoBulkAll]at I;exact⟨wq,a,b,c,s,k,rfl⟩
def td_op(h:tt enc W fuel 65 cs x):22<=Rows.uptoBulk x.1/\∃q:OpE,∃u,cs=Hb q u/\(Rows.uptoBulk x.1<=1048576->OpOk W q u):=by
 let⟨J,n,X,L,f,Y⟩:=Ck 17 4 h;match cs,X,J,L with
 |[c0,c1,c2,c3,c4,c5,c6,c7,c8,c9,c10,c11,c12,c13,c14,c15,c16],_,[x0,x1,x2,x3],_=>
  obtain⟨k,rfl, -⟩:=A6<|Y 0 3 0 1;obtain⟨on,rfl,j,b⟩:=A6<|Y 1 3 1 1;have:Inhabited _:=⟨MU⟩
  let⟨l,X,I,R,e,H⟩:=H2 (α:=AcE) (z:=10) (c:=13) (λq cs m=>∃X,cs=jL q.aj q.ai q.ae X/\SlIn W X q.ar/\q.ar.length<=m/\q.ai<M) K3 (λ_ _ _ h=>td_ac h)<|Y 2 35 2 1;let⟨b3,d,Z,A,s,g,em⟩:=td_msg<|Y 3 43 3 14;have V:=o8 x0.1;have U:=o8 x1.1;have b2:=o8 x2.1;simp only[List.map_cons,List.map_nil,Rows.uptoBulkAll]at f;have P:∀y∈l,y.ar.length<=Rows.uptoBulk _/\y.ai<M:=λy C=>by
   let⟨i,b⟩:=List.mem_iff_getElem?.1 C;rcases H with rfl|⟨g,o, -, -,G⟩
   .cases C
   obtain⟨cs,m,⟨X, -, -,D,E⟩,Q, -⟩:=G i y b;exact⟨By D Q,E⟩
  refine⟨wq,⟨k,on,l,d,Z,A,s,g⟩,c2,?_,λY=>⟨⟨I,R,e,H.imp_right ?_⟩,(by dsimp only;omega),λy C=>?_,λy C=>(P y C).2,j,b⟩⟩
  .exact Xl (λr=>iI k::iI on::c2::r) em
  .rintro⟨g,o,h1,h2,G⟩;refine⟨g,o,h1,h2,λi p Y=>?_⟩;obtain⟨cs,m,⟨X,rfl,E, -⟩, -,D⟩:=G i p Y;exact⟨X,D,E⟩
  grind
def IR{d:DataW Hq9}{p:List MemPlace}(Q:Value.okWide prog W .any O 61 v)(h:DataW.Trod enc prog W 0 (λ_=>true) true 61 v d p)(Y:Rows.uptoBulk d<=1048576):∃l,SC W v l/\l.length<=47662:=by
 have E:prog.underlying 61=some (.slice 65):=N0
 obtain⟨U,D,C,rfl⟩:=okWide_slice E Q;let⟨fuel,V⟩:=h;have:Inhabited OpE:=⟨⟨0,0,[],0,0,0,⟨#[]⟩,0⟩⟩
 let⟨l,U,J,R,e,P⟩:=H2 (z:=17) (c:=22) (λq cs m=>∃u,cs=Hb q u/\(m<=1048576->OpOk W q u)) K3 (λ_ _ _ h=>td_op h) V E;replace U:22*l.length<=Rows.uptoBulk d:=U;refine⟨l,⟨J,R,e,P.imp_right ?_⟩,wq⟩;rintro⟨g,o,U,V,X⟩;refine⟨g,o,U,V,λi q U=>?_⟩;obtain⟨cs,m,⟨u,rfl,I⟩,L,H⟩:=X i q U;refine⟨u,λj x G=>?_,I<|By L Y⟩;rw[H j<|(Do.1 G).1,List.getElem!_eq_getElem?_getD,G];rfl
end
end
def FrS(sc:VL)(bb:Nat)(v:VL)(i:Nat)(a:Act):=∃u1 u2 u4 u6 u7 u8,Frm [sc,u1,u2,pt bb,u4,.bool true,u6,u7,u8,v,.int .i64 (i:Int)] 122 a
section
variable {F:List Rs}{a:Act}
def pf(A:FrS sc bb v i a)(hi:i<=47661)(E:Hd<|LI w bb F (i+1) v y)(C:Hd (∀b z,FrS sc bb v i b->LI w bb F (i+1) v z->Q .normal b z)):Code.wp prog (zu [true,true,true,true,true,true,true,true,true,false,true,false,false,true,false,false,true,true,true,true,true]<|f5.body.getD .skip) Q a y:=by
 let⟨u1,u2,u4,u6,u7,u8,A⟩:=A;let⟨J,G,D,nb,I,S,r⟩:=E.aa;have H:=cV<|S.bk wq wq;apply A.op;simp only[po,XN,XG];intros;conv=>arg 2;whnf
 go_wp2_with fail
 refine H.mono ?_;rintro e z⟨rfl,S⟩;replace S:=cV S;go_wp2;refine C.aa _ _ ?_ ⟨J,G,D,nb,I,S.aa,r⟩;exact⟨_,_,_,_,_,_,_,W,W⟩
def Q4{L nb O Y:Nat}{s t:List HE}{h:HE}{G:Nat->VL×Tn}{e:OpE}{u:VL}(x:∃p n cp,v=.slice p n cp)(A:Frm [sc,u1,u2,pt bb,u4,.bool true,u6,u7,u8,v,iI (i:Int),pt Y,u12,pt h.pb] 119 a)(hi:i<=47661)(r:Hd<|Zr w/\0<w.heap.size)(l:Hd<|(s++h::t).length<=O/\L+nb+O<=i+3)(d:Hd<|SW w bb F L nb O v ((s++h::t).map λh=>pt h.pb) (s++h::t) G y)(V:Hd<|OpOk w e u)(R:Hd<|rowL y Y 65<|Hb e u)(q:Hd (∀b z J,FrS sc bb J i b->LI w bb F (i+1) J z->Q .normal b z)):Code.wp prog (zu [true,true,true,true,true,true,true,true,true,false,true,false,false,true,false,false,true,true,true,true]<|f5.body.getD .skip) Q a y:=by
 obtain⟨va,vn,vc,rfl⟩:=x;let⟨kind,on,world,x,Z,vl,data,ac⟩:=e;have c0:y.cell? ⟨Y,0,_⟩=some (.int _ kind):=R.aa.cell W;have C:∀J,Hd _:=λJ=>cV λb z=>q.aa b z J;let⟨q,f⟩:=r.aa;have r:(s++h::t).length=s.length+t.length+1:=K9
 have r:=l.aa;apply A.op;simp only[po,XN,XG];intros;conv=>arg 2;whnf
 refine wp_seq_k λK I=>?_;replace I:=cV I;by_cases l:kind=1
 .subst l;have c2:y.cell? ⟨Y,2,_⟩=some u:=R.aa.cell W;obtain⟨T,l,uc,rfl⟩:∃T l uc,u=.slice T l uc:=by let⟨p,c,e,_⟩:=V.aa.ac;grind
  have P:=cV<|d.bS q f wq wq (λz _ l=>V.ac.below l) V.ll V.ss V.bm;go_wp2_with fail
  refine P.mono ?_;rintro e U(⟨-,rfl,H,E⟩|⟨X,H,rfl,E⟩)
  .have D:Hd (LI w bb F (i+1) _ U):=⟨_,H,L,nb,_,E,wq,wq,wq⟩
   go_wp2;refine I _ _<|pf ?_ hi D<|C _;exact⟨_,_,_,_,_,_,_,W,W⟩
  obtain⟨J,l,m,⟨p,cp,rfl⟩,S⟩:=E.cC X.pb K9;have D:Hd (LI w bb F (i+1) _ l):=⟨s++h::t++[X],H,L,nb,_,by simpa using S,K9,K9,wq⟩
  have j:=cV m;go_wp2_with(at_builtin;refine Lib.wpList_append_run _ W _ _ _ _ W _ _ W W _ _ j ?_);refine I _ _<|pf ?_ hi D<|C _;exact⟨_,_,_,_,_,_,_,W,W⟩
 by_cases l:kind=2
 .subst l;have l:=R.aa.cs;simp only[oI,Hb,kZ,wl,XN,XG,Nat.reduceAdd]at l;have P:=cV<|d.sent q f wq wq x Z vl data ac;go_wp2_with fail
  refine P.mono ?_;rintro e U⟨rfl,X,H,l,E⟩;rw[show((s++h::t).map _)=(s++X::t).map λh=>pt h.pb by simp]at E;have D:Hd (LI w bb F (i+1) _ U):=⟨_,H,_,nb,O,E,K9,K9,wq⟩
  go_wp2;refine I _ _<|pf ?_ hi D<|C _;exact⟨_,_,_,_,_,_,_,W,W⟩
 by_cases l:kind=3
 .subst l;have P:=cV<|d.told q f wq wq;go_wp2_with fail
  refine P.mono ?_;rintro e U⟨rfl,H,E⟩;have D:Hd (LI w bb F (i+1) _ U):=⟨_,H,L,_,O,E,wq,r.1,wq⟩
  go_wp2;refine I _ _<|pf ?_ hi D<|C _;exact⟨_,_,_,_,_,_,_,W,W⟩
 have l:(kind==1)=false:=K9
 have l:(kind==2)=false:=K9
 have l:(kind==3)=false:=K9
 have D:Hd (LI w bb F (i+1) _ y):=⟨_,G,L,nb,O,d,wq,r.1,wq⟩
 go_wp2;refine I _ _<|pf ?_ hi D<|C _;exact⟨_,_,_,_,_,_,_,W,W⟩
def Au{E:Nat}{e:OpE}{u:VL}(A:Frm [sc,u1,u2,pt bb,u4,.bool true,u6,u7,u8,v,iI (i:Int),pt E,iI (k:Int)] 120 a)(c:k<=9223372036854775807)(hi:i<=47661)(Y:Hd<|Zr w/\0<w.heap.size)(H:Hd<|LI w bb F i v y)(U:Hd<|OpOk w e u)(R:Hd<|rowL y E 65<|Hb e u)(O:Hd (∀b z L,FrS sc bb L i b->LI w bb F (i+1) L z->Q .normal b z)):Code.wp prog (zu [true,true,true,true,true,true,true,true,true,false,true,false,false,true,false,false,true,true,true]<|f5.body.getD .skip) Q a y:=by
 let⟨c,G,f,nb,T,S,D,P,J⟩:=H.aa;obtain⟨g,cp,rfl,C⟩:=S.at D;have X:=Xs k D;obtain⟨n,V⟩:∃n,n=c.length:=⟨_,W⟩
 rw[<-V]at X C D A H S;have d:n<=47664:=wq
 clear V;obtain⟨r,l⟩:∃r,r=k%n:=⟨_,W⟩
 rw[<-l]at X;obtain⟨s,h,t,rfl,c⟩:=C (n-1-r) wq;have Z:Hd (∀b,Frm [sc,u1,u2,pt bb,u4,.bool _,u6,u7,u8,_,.int _ i,pt E,iI k,pt _] _ b->Code.wp _ _ Q b y):=λb c=>Q4 ⟨_,_,_,W⟩ c hi Y ⟨P,J⟩ S U R O;have j:(k:Int).tmod (n:Int)=r:=K9
 have m:n-1=((n-1:Nat):Int):=wq
 have p:((n-1:Nat))-r=((n-1-r:Nat):Int):=wq
 clear H C S U R Y O l P J;apply A.op;simp only[po,XN,XG];intros;conv=>arg 2;whnf
 refine wp_seq_k λK I=>?_;replace I:=cV I;go_wp2;refine I _ _<|Z _ ?_;exact⟨_,W,W⟩
def Rq{e:OpE}{u:VL}(A:FrS (.slice (some ⟨g,o,none⟩) N cp) bb v i a)(hi:i<=47661)(p:i<N)(V:Hd<|Zr w/\0<w.heap.size)(J:Hd<|LI w bb F i v y)(d:g<w.heap.size)(U:Hd (∀j x,(Hb e u)[j]?=some x->cL w g (o+i*17+j) x))(I:Hd<|OpOk w e u)(P:Hd (∀b z O,FrS (.slice (some ⟨g,o,none⟩) N cp) bb O i b->LI w bb F (i+1) O z->Q .normal b z)):Code.wp prog (zu [true,true,true,true,true,true,true,true,true,false,true,false,false,true,false,false]<|f5.body.getD .skip) Q a y:=by
 let⟨u1,u2,u4,u6,u7,u8,A⟩:=A;let⟨kind,on,world,l,Z,q,data,ac⟩:=e;obtain⟨D,E,uc,rfl⟩:∃D E uc,u=.slice D E uc:=by let⟨m,c,e,_⟩:=I.aa.ac;grind
 have X:∀j x,(Hb _ _)[j]?=some x->y.cell? _=some x:=λj x h=>((by let⟨_,_,_,_,_,S,_⟩:=J.aa;exact S.be:bW w y).cell d).trans<|U j x h;have Y:=AE (z:=17) λj u _=>X j u;simp only[A3,A0,Hb,kZ,wl,XN,XG,Nat.reduceAdd]at Y;have R:=cV<|rowL.al y (Hb ⟨kind,on,world,l,Z,q,data,ac⟩<|.slice D E uc) 65;replace J:Hd (LI w bb F i v _):=(λ⟨n,G,a,b,c,S,r⟩=>⟨n,G,a,b,c,S.below<|ai (dO _ y)<|.cells (Hb ⟨kind,on,world,l,Z,q,data,ac⟩<|.slice D E uc).toArray 65,r⟩) J;have lo:=I.aa.lo;have f:=I.aa.hi;clear X U;apply A.op;simp only[po,XN,XG];intros;conv=>arg 2;whnf
 refine wp_seq_k λK C=>?_;replace C:=cV C;go_wp2;refine C _ _ ?_;change Code.wp _ _ _ _ (y.alloc<|.cells (Hb ⟨kind,on,world,l,Z,q,data,ac⟩<|.slice D E uc).toArray 65);obtain⟨L,H⟩:∃L,L=y.heap.size:=⟨_,W⟩
 rw[<-H]at R⊢;generalize y.alloc (.cells (Hb ⟨kind,on,world,l,Z,q,data,ac⟩<|.slice D E uc).toArray 65)=l at*;have c1:l.cell? ⟨L,1,_⟩=some (.int _ on):=R.aa.cell W;clear H;refine wp_seq_k λK C=>?_;replace C:=cV C;go_wp2;refine C _ _ ?_;refine wp_seq_k λK C=>?_;replace C:=cV C;by_cases T:on<0
 .obtain⟨k,hk⟩:∃k:Nat, -(on+1)=k:=⟨(-(on+1)).toNat,wq⟩
  go_wp2;refine C _ _ ?_;exact Au ⟨_,W,W⟩ wq hi V J I R P
 obtain⟨k,rfl⟩:∃k:Nat,on=k:=⟨on.toNat,wq⟩
 go_wp2;refine C _ _ ?_;exact Au ⟨_,W,W⟩ wq hi V J I R P
end
section
variable {F:List Rs}{a:Act}
def FrS.ten(A:FrS sc bb v i a):nI (a.tmps.getD 10 undef)=i:=by obtain⟨_,_,_,_,_,_,l,rfl,_⟩:=A;rfl
theorem MD{cp:Nat}{ad:Gj}{I:List OpE}{u1 u2 u4 u6 u7 u8:VL}(A:Frm [.slice ad N cp,u1,u2,pt bb,u4,.bool true,u6,u7,u8,v] 123 a)(hN:N<=47662)(HZ:Hd (Zr w/\0<w.heap.size))(HL:Hd (LI w bb F 0 v y))(HI:Hd (N=I.length/\(I=[]\/∃g o,ad=some ⟨g,o,none⟩/\g<w.heap.size/\∀(i:Nat) e,I[i]? =some e->∃u,(∀j x,(Hb e u)[j]? =some x->w.cell? ⟨g,o+i*17+j,none⟩=some x)/\OpOk w e u)))(hQ:Hd (∀b z v',FrS (.slice ad N cp) bb v' N b->LI w bb F N v' z->Q .normal b z)):Code.wp prog (zu [true,true,true,true,true,true,true,true,true,false] (f5.body.getD .skip)) Q a y:=by
 apply A.op;simp only[po,XN,XG]
 intros
 conv=>arg 2;whnf
 refine wp_seq_k λK HK=>?_
 replace HK:=cV HK;go_wp2;refine HK.aa _ _ ?_;refine wp_block (wp_loop (λa y=>∃i v,i<=N/\FrS _ bb v i a/\LI w bb F i v y) (λa _=>N - nI (a.tmps.getD 10 undef)) ⟨0,v,In _,⟨_,_,_,_,_,_,_,rfl,rfl⟩,HL.aa⟩ λa y hI=>?_);obtain⟨i,v,hi,A,HL⟩:=hI;rw[A.ten];obtain⟨Q2,hQ2⟩:∃Q2,Q2=Exit.then (λa' w'=>(∃i v,i<=N/\FrS (.slice ad N cp) bb v i a'/\LI w bb F i v w')/\N - nI (a'.tmps.getD 10 undef)<N - i) (Exit.inBlock 0 Q):=⟨_,rfl⟩
 rw[<-hQ2];replace HL:=cV HL;by_cases hlt:i<N
 ·have HB:Hd (∀(a:Act)(K:K6),FrS (.slice ad N cp) bb v i a->(∀b z v',FrS (.slice ad N cp) bb v' i b->LI w bb F _ v' z->K b z)->Code.wp _ (.block 1 _) (Exit.then K Q2) a y):=λa K hA hK=>by
   obtain⟨hl,h9⟩:=HI.aa;rcases h9 with rfl|⟨g,o,rfl,hg,hcell⟩
   ·grind
   obtain⟨u,hc0,hok⟩:=hcell i I[i] (iN (by omega));exact wp_block (Rq hA (by omega) hlt HZ HL hg hc0 hok λb z v' hb hl=>hK b z v' hb hl)
  have hEq:Hd (∀b z v',FrS _ bb v' _ b->LI w bb F _ v' z->Q2 .normal b z):=λb z v' hb hl=>by
   rw[hQ2];exact⟨⟨_,v',hlt,hb,hl⟩,by rw[hb.ten];omega⟩
  refine wp_seq_k λK HK=>?_
  replace HK:=cV HK;obtain⟨_,_,_,_,_,_,A⟩:=A;apply A.op;simp only[po,XN,XG]
  intros
  go_wp2;refine HK.aa _ _ ?_;refine wp_seq_k λK HK=>?_
  replace HK:=cV HK;refine HB.aa _ K ?_ λb z v' hb hl=>?_
  ·exact⟨_,_,_,_,_,_,_,rfl,rfl⟩
  refine HK.aa _ _ ?_;obtain⟨_,_,_,_,_,_,A⟩:=hb;replace hl:=cV hl;apply A.op;simp only[po,XN,XG]
  intros
  go_wp2;refine hEq.aa _ _ v' ?_ hl.aa;exact⟨_,_,_,_,_,_,_,rfl,rfl⟩
 ·obtain rfl:i=N:=by omega
  have hEq:Hd (∀b,FrS _ bb v i b->Q2 (.exit 0) b y):=λb hb=>by
   rw[hQ2];exact hQ.aa b y v hb HL.aa
  obtain⟨_,_,_,_,_,_,A⟩:=A;apply A.op;simp only[po,XN,XG]
  intros
  go_wp2;refine hEq.aa _ ?_;exact⟨_,_,_,_,_,_,_,rfl,rfl⟩
def KC{E nb H:Nat}{l:List HE}{G:Nat->VL×Tn}(A:FrS sc bb v i a)(U:Hd<|Zr w/\0<w.heap.size)(O:Hd<|0<l.length)(c:E+(nb+l.length)<=47665)(j:H<=47665)(C:Hd<|SW w bb F E nb H v (l.map λh=>pt h.pb) l G y)(V:Hd (∀b z L,FrS sc bb v i b->SW w bb F E (nb+l.length) H v (l.map λh=>pt h.pb) l L z->Q .normal b z)):Code.wp prog (zu [true,true,true,true,true,true,true,true,true,true,false]<|f5.body.getD .skip) Q a y:=by
 obtain⟨c,p,T,c,o,u8,A⟩:=A;obtain⟨g,Y,rfl, -⟩:=C.aa.at O.aa;obtain⟨n,X⟩:∃n,n=l.length:=⟨_,W⟩
 have m:Hd (∀(k:Nat) z G,k<n->SW w bb F E (nb+k) H (sL g n Y) _ l G z->∃pb,z.cell? ⟨g,k,_⟩=some (pt pb)/\Calls _ 19 #[pt pb,pt bb] z λe Z=>e=.returned _/\∃L,SW w bb F E (nb+k+1) H _ (l.map _) l L Z):=λk z G c S=>by let⟨K,d,e,P⟩:=S.at O.aa;injection e with e;injection e with e;injection e with e;subst e;obtain⟨s,h,t,rfl,I⟩:=P k wq;exact⟨_,I,S.told U.1 U.2 wq j⟩
 rw[<-X]at A C V;have f:n<=47665:=wq
 clear X O U;apply A.op;simp only[po,XN,XG];intros;conv=>arg 2;whnf
 go_wp2;go_loopw[5,17] (λt5 D wr=>∃k:Nat,k<=n/\t5=.bool true/\D=iI (k:Int)/\Hd (∃G,SW w bb F E (nb+k) H (sL g n Y) (l.map λh=>pt h.pb) l G wr)) (λ_ D _=>n-nI D);case atStart=>exact⟨0,In _,W,W,_,C⟩
 obtain⟨k,c,rfl,rfl,C⟩:=hrel;let⟨G,S⟩:=C.aa;by_cases J:k<n
 .obtain⟨pb,I,R⟩:=m.aa k wr G J S;replace R:=cV R;go_wp2_with fail
  refine R.mono ?_;rintro e z⟨rfl,C⟩;replace C:=cV C;go_wp2;exact⟨⟨k+1,wq,W,N1,C⟩,by grind[nI]⟩
 cases(wq:k=n)
 replace S:=cV S;go_wp2;refine V.aa _ _ G ?_ S.aa;exact⟨_,_,_,_,_,_,_,W,W⟩
end
def CL{v:VL}(I:List OpE)(w:WD)(l:SC w v I)(hl:I.length<=47662)(hz:Zr w):cP 5 #[v] w (rT (.bool true) w):=by
 obtain⟨c,c,rfl,c⟩:=l;obtain⟨N,m⟩:∃N,Hd (N=I.length):=⟨_,W⟩
 rw[<-m.aa]at hl⊢;have Z:=cV c;have E:=hz.2;have O:=cV hz;obtain⟨R,H⟩:∃R,R=w.alloc (.cells #[dL,dL,dL,dL] 52):=⟨_,W⟩
 have L:Hd (Sep w.heap.size [eH w.heap.size noG] R):=by
  have V:Sep _ [] w:=⟨λr c=>(by cases c),List.Pairwise.nil,DO _⟩
  rw[H];exact V.book
 have P:Hd (bW w R):=by grind[ai,dO]
 go_enter func5,ntmps5;go_wp2_with fail
 change Calls _ _ _ (w.alloc<|.cells #[dL,dL,dL,dL] 52) _;rw[<-H];obtain⟨bb,C⟩:∃bb,bb=w.heap.size:=⟨_,W⟩
 rw[(by rw[C]:eH w.heap.size noG=eH bb noG)]at L;clear H;refine(AL R).mono ?_;rintro e n⟨g,rfl,Y,X,c⟩;obtain⟨F,j⟩:∃F:List Rs,Hd (F=[gj g 34<|jL 5 9 ⟨#[]⟩ dL++jL 7 0 ⟨#[51,95,85]⟩ dL]):=⟨_,W⟩
 have f:Hd (SW w bb F 0 0 0 dL [] [] noG n):=by refine⟨?_,P.trans<|c.mono P.size,λh l=>(by cases l),λk=>W,λk=>In _⟩;rw[j.aa];exact(((L.new (r:=gj g 34<|jL 5 9 ⟨#[]⟩ dL++jL 7 0 ⟨#[51,95,85]⟩ dL) X c λk c=>by rw[(c:k=g)];exact Y).sw).new (Xy _ _ _ _) (dO _ _) λk c=>by cases c).sw
 have p:=cV<|(f.bS O E wq wq (λz u _=>IT (by rw[j.aa]at u;exact u.hd)) K3 (λx T=>by
  have V:x=⟨5,9,⟨#[]⟩,[]⟩\/x=⟨7,0,⟨#[51,95,85]⟩,[]⟩:=by grind[NA]
  grind) (λx T=>by
  have V:x=⟨5,9,⟨#[]⟩,[]⟩\/x=⟨7,0,⟨#[51,95,85]⟩,[]⟩:=by grind[NA]
  grind)).mono λe z t=>t.resolve_left λV=>by grind[AW]
 rw[<-C];replace C:=cV C;replace E:=cV E;go_upto_region 3 with(first|(go_at_call 17;refine p.mono ?_;rintro e c⟨h,c,rfl,S1⟩)|fail);replace S1:=cV S1;go_wp2_with fail
 refine(dx 5 K3 _).mono ?_;rintro e c⟨c,l,rfl,l⟩;replace S1:=cV<|S1.aa.below l;unfold wv;go_wp2_with fail
 refine(dx 7 K3 _).mono ?_;rintro e q⟨q,Q2,rfl,l⟩;replace S1:=cV<|S1.aa.below l;unfold wv;go_wp2_with fail
 refine(dx 2 K3 _).mono ?_;rintro e o⟨U,Q3,rfl,l⟩;replace S1:=cV<|S1.aa.below l;unfold wv;go_wp2_with fail
 have S2:=S1.aa.below<|ai (dO _ o)<|.cells (kZ c q U ⟨#[]⟩ 1000).toArray 43;change Calls _ _ #[pt h.pb,nz c q U ⟨#[]⟩ 1000,pt bb] (o.alloc<|.cells (kZ c q U ⟨#[]⟩ 1000).toArray 43) _;refine(SW.sent S2 O E.aa wq wq c q U _ _).mono ?_;rintro e c⟨rfl,q,c,J,S2⟩;replace S2:=cV S2;rw[<-J];clear J;go_wp2_with fail
 refine(SW.told S2.aa O E.aa wq wq).mono ?_;rintro e c⟨rfl,c,S3⟩;have d:Hd (LI w bb F 0 _ _):=⟨[q],c,_,_,_,S3.lit _,Nat.one_pos,DO _,DO _⟩
 go_upto_region 10 with fail
 rename_i K D;replace D:=cV D;go_wp2;refine D.aa _ _ ?_;refine wp_seq_k λK h=>?_;refine MD ⟨_,W,W⟩ hl ⟨O,E.aa⟩ d ⟨m,Z⟩<|cV λb z v l d=>?_;refine h _ _ ?_;obtain⟨u,G,c,nb,c,S,c,q,q⟩:=d;refine wp_seq_k λK h=>?_;refine KC l ⟨O,E.aa⟩ c wq wq S<|cV λb z G l S=>?_;refine h _ _ ?_;let⟨_,_,_,_,_,_,A⟩:=l;have s:=cV<|S.bk wq wq;apply A.op;simp only[po,XN,XG];intros;go_wp2_with fail
 refine s.mono ?_;rintro e c⟨rfl,S⟩;replace S:=cV S.be;go_wp2;go_ret;exact⟨W,S.aa⟩
end cin
end Go.Proofs.YtohoajjdoihekaaGreatDoor
