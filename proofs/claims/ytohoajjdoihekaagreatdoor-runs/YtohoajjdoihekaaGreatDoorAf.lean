import Derived.Test.YtohoajjdoihekaaGreatDoorSt5
import Derived.Lib.BufferWrite
import Derived.Lib.UnsafeStr
import Derived.Laws.MakeOwn
set_option linter.unusedVariables false
set_option linter.unusedSimpArgs false
set_option linter.defProp false
namespace Go.Proofs.YtohoajjdoihekaaGreatDoor
namespace cin
open Go.RowKit Go.Maps Go.Proofs.Tryz Tryz
set_option maxRecDepth 100000
set_option maxHeartbeats 8000000
variable {n b q a c p1 N t z m i O H Y o p J k j ab e sz by' u d len E gg hb pb g bb st cp:Nat}{w x y w1 wr:WD}{vs:Ys}{s:Act}{pos:String}{af:U9}{gd:U6}{K:K6}{Q:Y6}{R0 tr R:RS}{l L:hZ}{cs sls ys xs:Tn}{v v' v2 pv lv ov slv:VL}{ts:Tl}{P:RW}{run:RS->RS}{wk:Wk}{F F':Fz}{T T':TS}{br:Bool}{A:Nat->Acc}{sb:Vp}{rs:List Rs}{pu:List Pur}
section
variable {r:Nat}
def MA{L:Nat}(J:L<=100000)(hn:Hd (∀j,L<=j->n.testBit j=false))(D:Hd (b<M))(U:Hd (0<b))(V:Hd (q=n/b))(X:Hd (r=n%b))(u:VL)(x:WD)(O:SliceOf L n u x):cP 246 #[u,wv b] x (L2 (.tuple #[wv q,wv r]) x):=by obtain⟨H,Y,c1,I,rfl,E⟩:=O;obtain rfl:=I.aa;refine(CT Y b H L c1 J hn D U x E).mono ?_;rintro e y⟨Q,P,G,C,rfl,U⟩;exact⟨by rw[V.aa,X.aa,G.aa,C.aa],U⟩
def prodS(m n:Nat)(x:WD):cP 213 #[wv m,wv n] x (H3 512 (m%M*(n%M)) x):=(lX m n x).mono λe y h=>by obtain⟨b,r,E,rfl,_,C,D⟩:=h;exact⟨_,W,⟨b,r,512,E,W,C⟩,D⟩
def nX{y:Nat}{J:Int}(h:(J=4\/J=5\/J=6\/J=7)/\b=y\/(J=8\/J=9)/\c=y)(C:y=0):cP 214 #[iB J,wv a,wv b,wv c] w (lI w 0):=by
 have V:decide (y%M=0)=true:=OsQ (by rw[C];rfl);clear C;rcases h with⟨rfl|rfl|rfl|rfl,rfl⟩|⟨rfl|rfl,rfl⟩;all_goals
  have U:=RC.start w a b c;go_enter func214,ntmps214;go_wp2_with fail
  refine(je _ _).mono ?_;rintro e H⟨rfl,Q⟩;replace U:=RC.call (RC.alloc U _) Q;rw[V];clear Q;go_wp2_with fail
  refine(dx 0 (by omega) _).mono ?_;rintro e P⟨s,G,rfl,Q⟩;obtain⟨⟨x0,O,L,I⟩,V,V⟩:=qN s (cY U.rz Q) (eB U.be Q);clear Q;go_wp2;let⟨⟨D,U,X,E⟩,Q⟩:=V _ W;exact sp (v:=wv s) (by simp[results,results214,go_sem,D,U,X,E]) W (dZ (by rw[G.aa]) Q)
theorem RC.set(x:WD)(p:Addr)(v:VL)(C:w.heap.size+1+1+1<p.block)(h:RC w a b c x):RC w a b c (x.setCell p v):=⟨h.ra.setOther (by omega) _,h.rb.setOther (by omega) _,h.rc.setOther (by omega) _,h.rz.setOther (by omega) _,h.be.setCell (by omega) _⟩
def wb{J:Int}{y v:Nat}(ha:Hd (a<M))(G:Hd (b<M))(w:WD)(h:J=4/\b=y/\a=n/\v=n/y\/J=6/\b=y/\a=n/\v=n%y\/J=8/\c=y/\a+b=n/\v=n%y\/J=9/\c=y/\a%M*(b%M)=n/\v=n%y)(hz:y≠0)(H:Hd (y<M)):cP 214 #[iB J,wv a,wv b,wv c] w (lI w v):=by
 have o:decide (y%M=0)=false:=W8 (by rw[WZ H.aa];exact hz);have I:Hd (0<y):=Z0 hz;let⟨q,C⟩:=dP (n/y);let⟨r,E⟩:=dP (n%y);rw[<-C.aa,<-E.aa]at h;clear hz;rcases h with⟨rfl,rfl,rfl,rfl⟩|⟨rfl,rfl,rfl,rfl⟩|⟨rfl,rfl,rfl,rfl⟩|⟨rfl,rfl,rfl,rfl⟩;all_goals
  have j:=RC.start w a b c;go_enter func214,ntmps214;go_wp2_with fail
  refine(je _ _).mono ?_;rintro e Q⟨rfl,m⟩;replace j:=RC.call (RC.alloc j _) m;rw[o];clear m o;go_wp2
 refine qq (Jq9:=RC w a b c) (N:=w.heap.size+1+1+1) (D:=[(5,.pointer _),(6,.pointer _)]) (es:=[(some 33,.v (wv a)),(some 34,.l (sh 256 a)),(some 35,.v (wv b)),(some 36,.v (.tuple #[wv v,wv r])),(some 32,.v (.tuple #[wv v,wv r])),(some 37,.v (wv v)),(some 38,.v (wv r)),(some 11,.l (o0 24 4 (w.heap.size+1+1+1) 0 v)),(some 12,.l (o0 24 4 (w.heap.size+1+1+1) 1 r)),(none,.v undef),(none,.v undef)]) (P:=[9,10]) (loads:=[0,1,2,3]) (news:=[7,8]) [(11,24,4,v),(12,24,4,r)] W W j (λ_ _ h m=>h.call m)
  (L1 W W W W W (by kernel_rfl) RC.set (L1 W W W W W (by kernel_rfl) RC.set True.intro))
  (tu W W W (λ_ _ h=>h.ra) (cl W W W (wB a) (tu W W W (λ_ _ h=>h.rb) (c1v (t:=34) (A:=λu=>#[u,wv b]) W W W W (A4 ⟨_,W,by kernel_rfl⟩) (λ_ _=>by kernel_rfl) (MA (by omega) (vp ha.aa) H I C E) True.intro))))
  (Uf W W W (λ_ _ h=>h.rz.lt) (Uf W W W (λ_ _ h=>h.rz.lt) True.intro))
  (loU (aIn L0 (aIn (Wy W W) (aIn (Wy W W) True.intro)))) ?_
 intro g x j o _;let⟨p,f,e,F,T,z⟩:=o 7 _ _ W;generalize S:g 8=K;rotate_left;refine qq (Jq9:=RC w a b c) (N:=w.heap.size+1+1+1) (D:=[(5,.pointer _),(6,.pointer _),(7,.pointer _)]) (es:=[(some 43,.v (wv a)),(some 44,.l (sh 256 (a))),(some 45,.v (wv b)),(some 46,.v (.tuple #[wv q,wv v])),(some 42,.v (.tuple #[wv q,wv v])),(some 47,.v (wv q)),(some 48,.v (wv v)),(some 13,.l (o0 24 4 (w.heap.size+1+1+1) 0 q)),(some 14,.l (o0 24 4 (w.heap.size+1+1+1) 1 v)),(none,.v undef),(none,.v undef)]) (P:=[9,10]) (loads:=[0,1,2,3]) (news:=[7,8]) [(13,24,4,q),(14,24,4,v)] W W j (λ_ _ h m=>h.call m)
  (L1 W W W W W (by kernel_rfl) RC.set (L1 W W W W W (by kernel_rfl) RC.set True.intro))
  (tu W W W (λ_ _ h=>h.ra) (cl W W W (wB a) (tu W W W (λ_ _ h=>h.rb) (c1v (t:=44) (A:=λu=>#[u,wv b]) W W W W (A4 ⟨_,W,by kernel_rfl⟩) (λ_ _=>by kernel_rfl) (MA (by omega) (vp ha.aa) H I C E) True.intro))))
  (Uf W W W (λ_ _ h=>h.rz.lt) (Uf W W W (λ_ _ h=>h.rz.lt) True.intro))
  (loU (aIn L0 (aIn (Wy W W) (aIn (Wy W W) True.intro)))) ?_
 intro g x j o _;let⟨p,f,e,F,T,z⟩:=o 8 _ _ W;generalize S:g 7=K;rotate_left;refine qq (Jq9:=RC w a b c) (N:=w.heap.size+1+1+1) (D:=[(5,.pointer _),(6,.pointer _),(7,.pointer _)]) (es:=[(some 80,.v (wv a)),(some 81,.l (sh 256 (a))),(some 82,.v (wv b)),(some 83,.l (sh 256 (b))),(some 84,.l (sh 257 (a+b))),(some 85,.v (wv c)),(some 86,.v (.tuple #[wv q,wv v])),(some 79,.v (.tuple #[wv q,wv v])),(some 87,.v (wv q)),(some 88,.v (wv v)),(some 17,.l (o0 24 4 (w.heap.size+1+1+1) 0 q)),(some 18,.l (o0 24 4 (w.heap.size+1+1+1) 1 v)),(none,.v undef),(none,.v undef)]) (P:=[12,13]) (loads:=[0,1,2,3,4,5,6]) (news:=[10,11]) [(17,24,4,q),(18,24,4,v)] W W j (λ_ _ h m=>h.call m)
  (L1 W W W W W (by kernel_rfl) RC.set (L1 W W W W W (by kernel_rfl) RC.set True.intro))
  (tu W W W (λ_ _ h=>h.ra) (cl W W W (wB a) (tu W W W (λ_ _ h=>h.rb) (cl W W W (wB b) (c2s (t:=81) (u:=83) (A:=λu v=>#[u,v,iI 256]) W W W W W (A4 ⟨_,W,by kernel_rfl⟩) (λ_ _=>by kernel_rfl) (addS (xZ ha.aa) (xZ G.aa)) (tu W W W (λ_ _ h=>h.rc) (c1v (t:=84) (A:=λu=>#[u,wv c]) W W W W (A4 ⟨_,W,by kernel_rfl⟩) (λ_ _=>by kernel_rfl) (MA (by omega) (Wc W ha.aa G.aa) H I C E) True.intro)))))))
  (Uf W W W (λ_ _ h=>h.rz.lt) (Uf W W W (λ_ _ h=>h.rz.lt) True.intro))
  (loU (aIn L0 (aIn L0 (aIn L0 (aIn (Wy W W) (aIn (Wy W W) True.intro)))))) ?_
 intro g x j o _;let⟨p,f,e,F,T,z⟩:=o 11 _ _ W;generalize S:g 10=K;rotate_left;refine qq (Jq9:=RC w a b c) (N:=w.heap.size+1+1+1) (D:=[(5,.pointer _),(6,.pointer _),(7,.pointer _)]) (es:=[(some 91,.v (wv a)),(some 92,.v (wv b)),(some 93,.l (sh 512 (a%M*(b%M)))),(some 94,.v (wv c)),(some 95,.v (.tuple #[wv q,wv v])),(some 90,.v (.tuple #[wv q,wv v])),(some 96,.v (wv q)),(some 97,.v (wv v)),(some 19,.l (o0 24 4 (w.heap.size+1+1+1) 0 q)),(some 20,.l (o0 24 4 (w.heap.size+1+1+1) 1 v)),(none,.v undef),(none,.v undef)]) (P:=[10,11]) (loads:=[0,1,2,3,4]) (news:=[8,9]) [(19,24,4,q),(20,24,4,v)] W W j (λ_ _ h m=>h.call m)
  (L1 W W W W W (by kernel_rfl) RC.set (L1 W W W W W (by kernel_rfl) RC.set True.intro))
  (tu W W W (λ_ _ h=>h.ra) (tu W W W (λ_ _ h=>h.rb) (cl W W W (prodS a b) (tu W W W (λ_ _ h=>h.rc) (c1v (t:=93) (A:=λu=>#[u,wv c]) W W W W (A4 ⟨_,W,by kernel_rfl⟩) (λ_ _=>by kernel_rfl) (MA (by omega) (A1 _ a b W) H I C E) True.intro)))))
  (Uf W W W (λ_ _ h=>h.rz.lt) (Uf W W W (λ_ _ h=>h.rz.lt) True.intro))
  (loU (aIn L0 (aIn (Wy W W) (aIn (Wy W W) True.intro)))) ?_
 intro g x j o _;let⟨p,f,e,F,T,z⟩:=o 9 _ _ W;generalize S:g 8=K;rotate_left;all_goals
  obtain rfl:=z (by simp);simp only[n8,sx9];rw[e,S];clear o z e S;let⟨Y,U,d,V⟩:=cW T;let⟨⟨x0,Z,X,R⟩,m,hz⟩:=qN v j.rz j.be;go_wp2;let⟨⟨L,m,o,O⟩,j⟩:=hz _ W;exact sp (v:=wv v) (by simp[results,results214,go_sem,L,m,o,O]) W (dZ W j)
def Mb(a b c:Nat)(ha:Hd (a<M))(C:Hd (b<M))(D:Hd (c<M))(w:WD):cP 214 #[iB 4,wv a,wv b,wv c] w (lI w (ui a b)):=by
 by_cases E:b=0
 .rw[show ui a b=0 by rw[E];exact JB a];exact nX (LZ ⟨LZ W,W⟩) E
 exact wb ha C w (.inl ⟨W,W,W,W⟩) E C
def MX(a b c:Nat)(ha:Hd (a<M))(C:Hd (b<M))(D:Hd (c<M))(w:WD):cP 214 #[iB 6,wv a,wv b,wv c] w (lI w (lM a b)):=by
 by_cases E:b=0
 .rw[show lM a b=0 by rw[E];exact wn a];exact nX (LZ ⟨A4 (A4 (LZ W)),W⟩) E
 exact wb ha C w (.inr (.inl ⟨W,W,W,iF E⟩)) E C
def Dy(a b c:Nat)(ha:Hd (a<M))(C:Hd (b<M))(D:Hd (c<M))(w:WD):cP 214 #[iB 8,wv a,wv b,wv c] w (lI w (tA a b c)):=by
 by_cases E:c=0
 .rw[show tA a b c=0 by rw[E];exact wn _];exact nX (A4 ⟨LZ W,W⟩) E
 exact wb ha C w (.inr (.inr (.inl ⟨W,W,W,iF E⟩))) E D
def DS(a b c:Nat)(ha:Hd (a<M))(C:Hd (b<M))(D:Hd (c<M))(w:WD):cP 214 #[iB 9,wv a,wv b,wv c] w (lI w (sE a b c)):=by
 by_cases E:c=0
 .rw[show sE a b c=0 by rw[E];exact wn _];exact nX (A4 ⟨A4 W,W⟩) E
 exact wb ha C w (.inr (.inr (.inr ⟨W,W,W,by rw[WZ ha.aa,WZ C.aa];exact iF E⟩))) E D
variable {p2:Nat}
def Fi{n:Bool}(h:Hd (neg a=n))(x:WD):cP 248 #[wv a] x (L2 (.bool n) x):=by rw[<-h.aa];exact oL a x
structure RQ(w:WD)(a b c p1 p2 q r:Nat)(x:WD):Prop where
 rc:RC w a b c x
 r1:x.rowIs p1 24 4 (dz (cX q))
 r2:x.rowIs p2 24 4 (dz (cX r))
def RQ.call(h:RQ w a b c p1 p2 q r x)(C:bW x y):RQ w a b c p1 p2 q r y:=⟨h.rc.call C,cY h.r1 C,cY h.r2 C⟩
def RQ.cO(h:RQ w a b c p1 p2 q r x)(C:w.heap.size+1+1+1<p1)(hne:p1≠p2)(n:Nat):RQ w a b c p1 p2 n r (sC (sC (sC (sC x p1 0 (lu n 0)) p1 1 (lu n 1)) p1 2 (lu n 2)) p1 3 (lu n 3)):=⟨h.rc.put C W,di h.r1 (cX n) W W W W,h.r2.of_block (el W _ (λe=>hne e.symm))⟩
def RQ.cL(h:RQ w a b c p1 p2 q r x)(C:w.heap.size+1+1+1<p2)(hne:p1≠p2)(n:Nat):RQ w a b c p1 p2 q n (sC (sC (sC (sC x p2 0 (lu n 0)) p2 1 (lu n 1)) p2 2 (lu n 2)) p2 3 (lu n 3)):=⟨h.rc.put C W,h.r1.of_block (el W _ hne),di h.r2 (cX n) W W W W⟩
def sdiv_n(a b q s:Nat)(D nb:Bool)(ha:neg a=D)(E:neg b=nb)(G:q=gL a/gL b)(H:s=if D !=nb then mV (q%M)else q)(C:q<M):s%M=nQ a b%M:=by unfold nQ ui;rw[ha,E,<-G,H,WZ C]
def smod_n(a b r s:Nat)(E:Bool)(ha:neg a=E)(C:gL b≠0)(G:r=gL a%gL b)(H:s=if E then mV (r%M)else r)(D:r<M):s%M=od a b%M:=by unfold od lM;rw[ha,iF C,<-G,H,WZ D]
def Ev(b:Nat)(C:b<M)(h:0<b):0<gL b:=by
 unfold gL mV;split
 .unfold M at*;omega
 exact h
def Ii(a b c:Nat)(ha:Hd (a<M))(C:Hd (b<M))(hc0:Hd (c<M))(w:WD)(J:Int)(h:J=5/\n=nQ a b\/J=7/\n=od a b):cP 214 #[iB J,wv a,wv b,wv c] w (lI w n):=by
 by_cases hz:b=0
 .rw[show n=0 by rcases h with⟨_,rfl⟩|⟨_,rfl⟩<;>rw[hz];exact L7 a;exact Oc a];exact nX (.inl ⟨by rcases h with⟨rfl,_⟩|⟨rfl,_⟩<;>simp,rfl⟩) hz
 have hd:decide (b%M=0)=false:=W8 (by rw[WZ C.aa];exact hz);have aA:Hd (0<b):=Z0 hz;clear hz;rcases h with⟨rfl,rfl⟩|⟨rfl,rfl⟩;all_goals
   have hs:=RC.start w a b c;go_enter func214,ntmps214;go_wp2_with fail
   refine(je b _).mono ?_;rintro e w1⟨rfl,hb⟩;replace hs:=RC.call (RC.alloc hs _) hb;rw[hd];clear hb hd;obtain⟨U,H⟩:∃m,Hd (m=gL (a%M)):=⟨_,rfl⟩
   obtain⟨R,E⟩:∃m,Hd (m=gL (b%M)):=⟨_,rfl⟩
   have o:Hd (U<M):=by show _<_;rw[H.aa];exact qQ (Xs _ jm)
   have p:Hd (R<M):=by show _<_;rw[E.aa];exact qQ (Xs _ jm)
   have d:Hd (0<R):=by show _<_;rw[E.aa,WZ C.aa];exact Ev b C.aa aA.aa
   let⟨q,F⟩:=dP (U/R);let⟨r,HR⟩:=dP (U%R);have W:Hd (q<M):=by show _<_;rw[F.aa];exact YD (YW _ _) o.aa
   have i:Hd (r<M):=by show _<_;rw[HR.aa];exact Nat.lt_trans (Xs _ d.aa) p.aa
   have HF:Hd (gL b≠0):=Nat.ne_of_gt (Ev b C.aa aA.aa);go_wp2;refine qq (Jq9:=RC w a b c) (N:=w.heap.size+1+1+1) (D:=[(5,.pointer _),(6,.pointer _)]) (es:=[(some 54,.v (wv a)),(some 55,.v (wv U)),(some 56,.l (sh 256 U)),(some 57,.v (wv b)),(some 58,.v (wv R)),(some 59,.v (.tuple #[wv q,wv r])),(some 53,.v (.tuple #[wv q,wv r])),(some 60,.v (wv q)),(some 61,.v (wv r)),(some 15,.l (o0 24 4 (w.heap.size+1+1+1) 0 q)),(some 16,.l (o0 24 4 (w.heap.size+1+1+1) 1 r)),(none,.v undef),(none,.v undef)]) (P:=[11,12]) (loads:=[0,1,2,3,4,5]) (news:=[9,10]) [(15,24,4,q),(16,24,4,r)] rfl rfl hs (λ_ _ h hb=>h.call hb)
    (L1 rfl rfl rfl rfl rfl (by kernel_rfl) RC.set (L1 rfl rfl rfl rfl rfl (by kernel_rfl) RC.set True.intro))
    (tu rfl rfl rfl (λ_ _ h=>h.ra) (cv rfl rfl rfl (rv (Aw a) H) (cl rfl rfl rfl (wB U) (tu rfl rfl rfl (λ_ _ h=>h.rb) (cv rfl rfl rfl (rv (Aw b) E) (c1v (t:=56) (A:=λu=>#[u,wv R]) rfl rfl rfl rfl (A4 ⟨_,rfl,by kernel_rfl⟩) (λ_ _=>by kernel_rfl) (MA (by omega) (vp o.aa) p d F HR) True.intro))))))
    (Uf rfl rfl rfl (λ_ _ h=>h.rz.lt) (Uf rfl rfl rfl (λ_ _ h=>h.rz.lt) True.intro))
    (loU (aIn L0 (aIn (Wy rfl rfl) (aIn (Wy rfl rfl) True.intro)))) ?_
   .intro g x hs hT hD;let⟨p1,f1,T,hp1,Y,z⟩:=hT 9 _ _ rfl;let⟨p2,f2,K,hp2,X,j⟩:=hT 10 _ _ rfl;obtain rfl:=z Nat.two_pos;obtain rfl:=j (YS 1);have V:p1≠p2:=λh=>hD 9 (by simp) 10 (by simp) (by omega) (by rw[T,K,h]);simp only[n8,sx9];rw[T,K];generalize g 2=g2;have hq:RQ w a b c p1 p2 q r x:=⟨hs,Y,X⟩
    clear Y X hs hT hD z j T K;obtain⟨Q,S⟩:∃n,Hd (neg a=n):=⟨_,rfl⟩
    obtain⟨nb,HB⟩:∃n,Hd (neg b=n):=⟨_,rfl⟩
    go_wp2;refine qq (Jq9:=RQ w a b c p1 p2 q r) (N:=0) (D:=[(5,.pointer _),(6,.pointer _)]) (es:=nV 62 [wv a,.bool Q,wv b,.bool nb,.bool (Q !=nb)]) (P:=[]) (loads:=[0,1,2,3]) (news:=[]) [] rfl rfl hq (λ_ _ h hb=>h.call hb) True.intro
     (tu rfl rfl rfl (λ_ _ h=>h.rc.ra) (cv rfl rfl rfl (Fi S) (tu rfl rfl rfl (λ_ _ h=>h.rc.rb) (cv rfl rfl rfl (Fi HB) True.intro)))) True.intro (nl rfl) ?_
    clear hq;rintro-x2 hq - -;simp only[n8,sx9];obtain⟨Z,f⟩:∃t,Hd (t=(Q !=nb)):=⟨_,rfl⟩
    rw[<-f.aa];go_upto_if 66 with fail;go_cut[10] (λL s=>∃G:Nat,L=.bool false/\RQ w a b c p1 p2 G r s/\Hd (G=if Z then mV (q%M)else q));case first=>
     as_aux_lemma=>
     cases Z
     .go_wp2_with fail
      go_meet;case rel=>exact⟨q,rfl,hq,rfl⟩
     let⟨c0,c1,c2,c3⟩:=cW hq.r1;go_wp2_with fail
     refine(it q _).mono ?_;rintro e w2⟨G,I,rfl,hb⟩;replace hq:=hq.call hb;clear hb c0 c1 c2 c3;let⟨c0,c1,c2,c3⟩:=cW hq.r1;have fz:=hq.r1.frozen;go_wp2_with fail
     go_meet;case rel=>exact⟨G,rfl,hq.cO hp1 V G,I⟩
    as_aux_lemma=>
    clear hq;obtain⟨G,rfl,hq,I⟩:=hcut;let⟨a0,a1,a2,a3⟩:=cW hq.rc.ra;go_wp2_with fail
    refine(oL a _).mono ?_;rintro e w3⟨rfl,hb⟩;replace hq:=hq.call hb;clear hb a0 a1 a2 a3;rw[S.aa];go_upto_if 70 with fail;go_cut[10] (λL s=>∃s2:Nat,L=.bool false/\RQ w a b c p1 p2 G s2 s/\Hd (s2=if Q then mV (r%M)else r));case first=>
     as_aux_lemma=>
     cases Q
     .go_wp2_with fail
      go_meet;case rel=>exact⟨r,rfl,hq,rfl⟩
     let⟨c0,c1,c2,c3⟩:=cW hq.r2;go_wp2_with fail
     refine(it r _).mono ?_;rintro e w4⟨s2,O,rfl,hb⟩;replace hq:=hq.call hb;clear hb c0 c1 c2 c3;let⟨c0,c1,c2,c3⟩:=cW hq.r2;have fz:=hq.r2.frozen;go_wp2_with fail
     go_meet;case rel=>exact⟨s2,rfl,hq.cL hp2 V s2,O⟩
    as_aux_lemma=>
    clear hq;obtain⟨s2,rfl,hq,O⟩:=hcut;let⟨d0,d1,d2,d3⟩:=cW hq.r1;let⟨e0,T,K,e3⟩:=cW hq.r2;let⟨x0,x1,x2,x3⟩:=cW hq.rc.rz;have fz:=hq.rc.rz.frozen;go_wp2;first
    |let⟨q0,q1,q2,k⟩:=cW (di hq.rc.rz (cX G) rfl rfl rfl rfl)
     refine sp (v:=wv G) (by simp[results,results214,go_sem,q0,q1,q2,k]) rfl (dZ (sdiv_n a b q G Q nb S HB (by rw[F.aa,H.aa,E.aa,WZ ha.aa,WZ C.aa]) (by rw[I.aa,f.aa]) W) ?_)
    |let⟨q0,q1,q2,k⟩:=cW (di hq.rc.rz (cX s2) rfl rfl rfl rfl)
     refine sp (v:=wv s2) (by simp[results,results214,go_sem,q0,q1,q2,k]) rfl (dZ (smod_n a b r s2 Q S HF (by rw[HR.aa,H.aa,E.aa,WZ ha.aa,WZ C.aa]) O i) ?_)
    exact bd hq.rc.be (by omega)
def Ls(a b c:Nat)(ha:Hd (a<M))(C:Hd (b<M))(D:Hd (c<M))(w:WD):cP 214 #[iB 5,wv a,wv b,wv c] w (lI w (nQ a b)):=Ii a b c ha C D w 5 (.inl ⟨W,W⟩)
def LA(a b c:Nat)(ha:Hd (a<M))(C:Hd (b<M))(D:Hd (c<M))(w:WD):cP 214 #[iB 7,wv a,wv b,wv c] w (lI w (od a b)):=Ii a b c ha C D w 7 (.inr ⟨W,W⟩)
def jq{J:Int}{f:FuncId}(a b c:Nat)(w:WD)(E:Hd (∀x,cP f vs x (lI x n)))(L:Hd (n%M=N%M))(h:(f=214/\vs=#[iB J,wv a,wv b,wv c]/\(J=4\/J=5\/J=6\/J=7\/J=8\/J=9))\/(f=216/\vs=#[iB J,wv a,wv b]/\(J=22\/J=23\/J=24\/J=25\/J=26\/J=27\/J=28\/J=29))\/(vs=#[wv a,wv b]/\(f=120/\J=1\/f=119/\J=3\/f=215/\J=10))):cP 178 #[iB J,wv a,wv b,wv c] w (lN w N 0):=by
 rcases h with⟨rfl,rfl,rfl|rfl|rfl|rfl|rfl|rfl⟩|⟨rfl,rfl,rfl|rfl|rfl|rfl|rfl|rfl|rfl|rfl⟩|⟨rfl,⟨rfl,rfl⟩|⟨rfl,rfl⟩|⟨rfl,rfl⟩⟩;all_goals
  have g:=RC.start w a b c;go_enter func178,ntmps178;go_wp2_with fail
  refine(dx 0 (by omega) _).mono ?_;rintro e O⟨z,Y,rfl,j⟩;replace g:=g.call j;let⟨l,V,X,a3⟩:=cW g.ra;have l:=(g.ra).lt;let⟨R,P,b2,b3⟩:=cW g.rb;have bl:=(g.rb).lt;let⟨l,c1,c2,c3⟩:=cW g.rc;have cl:=(g.rc).lt;go_wp2_with fail
  refine(E.aa _).mono ?_;rintro e d⟨s,I,rfl,j⟩;replace g:=(g.alloc _).call j;have C:=g.rz;have D:=g.be;let⟨x0,Z,U,Q⟩:=cW C;have g:=C.frozen;go_wp2;let⟨G,g,j,H⟩:=cW (di C (cX s) W W W W);refine sp (v:=.tuple #[wv s,iI 0]) (by simp[results,results178,go_sem,G,g,j,H]) W (fV (by rw[I.aa];exact L.aa) ?_);exact bd D (by omega)
def xy(J a b c:Nat)(h:(12<=J/\J<=15)\/30<=J):ep J a b c=0:=by unfold ep;rw[AQ,AQ,AQ,AQ,AQ,AQ,AQ,AQ,AQ,AQ,AQ,AQ,AQ,AQ,AQ,AQ,AQ,AQ,AQ,AQ,AQ,AQ,AQ,AQ,AQ]
def rcalc2(a b c:Nat)(ha:Hd (a<M))(E:Hd (b<M))(J:Hd (c<M))(w:WD):cP 178 #[iB 2,wv a,wv b,wv c] w (lN w (ep 2 a b c) 0):=by
 have g:=RC.start w a b c;go_enter func178,ntmps178;go_wp2_with fail
 refine(dx 0 (by omega) _).mono ?_;rintro e O⟨z,Z,rfl,h⟩;replace g:=g.call h;let⟨j,X,Y,a3⟩:=cW g.ra;have j:=(g.ra).lt;let⟨U,P,b2,b3⟩:=cW g.rb;have bl:=(g.rb).lt;go_wp2_with fail
 refine(lX a b _).mono ?_;rintro e f⟨p,s,G,rfl,_,D,h⟩;replace g:=(g.alloc _).call h;go_wp2_with fail
 refine(lS s _ p _ (by omega) (A1 s a b G) _ D).mono ?_;rintro e Q⟨rfl,h⟩;replace g:=g.call h;have C:=g.rz;have H:=g.be;let⟨x0,d,V,R⟩:=cW C;have g:=C.frozen;go_wp2;let⟨I,g,h,L⟩:=cW (di C (cX s) W W W W);refine sp (v:=.tuple #[wv s,.int _ 0]) (by simp[results,results178,go_sem,I,g,h,L]) W (fV (by rw[G.aa,WZ ha.aa,WZ E.aa];simp[ep,sr]) ?_);grind[bd]
def QZ(a b c:Nat)(ha:Hd (a<M))(D:Hd (b<M))(I:Hd (c<M))(w:WD):cP 178 #[iB 16,wv a,wv b,wv c] w (lN w (ep 16 a b c) 0):=by
 have g:=RC.start w a b c;go_enter func178,ntmps178;go_wp2_with fail
 refine(dx 0 (by omega) _).mono ?_;rintro e O⟨z,Z,rfl,h⟩;replace g:=g.call h;let⟨j,X,Y,a3⟩:=cW g.ra;have j:=(g.ra).lt;let⟨U,P,b2,b3⟩:=cW g.rb;have bl:=(g.rb).lt;let⟨t,E⟩:=dP (iX a b);go_wp2_with fail
 refine(jz a b _).mono ?_;rintro e f⟨rfl,h⟩;rw[<-E.aa];replace g:=(g.alloc _).call h;go_wp2_with fail
 refine(jY t _).mono ?_;rintro e Q⟨s,L,rfl,h⟩;replace g:=g.call h;have C:=g.rz;have G:=g.be;let⟨x0,d,V,R⟩:=cW C;have g:=C.frozen;go_wp2;let⟨H,g,h,J⟩:=cW (di C (cX s) W W W W);refine sp (v:=.tuple #[wv s,.int _ 0]) (by simp[results,results178,go_sem,H,g,h,J]) W (fV (by rw[L.aa,E.aa];unfold iX;rw[WZ ha.aa,WZ D.aa];rfl) ?_);grind[bd]
def SV(a b c:Nat)(ha:Hd (a<M))(D:Hd (b<M))(I:Hd (c<M))(w:WD):cP 178 #[iB 17,wv a,wv b,wv c] w (lN w (ep 17 a b c) 0):=by
 have g:=RC.start w a b c;go_enter func178,ntmps178;go_wp2_with fail
 refine(dx 0 (by omega) _).mono ?_;rintro e O⟨z,Z,rfl,h⟩;replace g:=g.call h;let⟨j,X,Y,a3⟩:=cW g.ra;have j:=(g.ra).lt;let⟨U,P,b2,b3⟩:=cW g.rb;have bl:=(g.rb).lt;let⟨t,E⟩:=dP (iX b a);go_wp2_with fail
 refine(jz b a _).mono ?_;rintro e f⟨rfl,h⟩;rw[<-E.aa];replace g:=(g.alloc _).call h;go_wp2_with fail
 refine(jY t _).mono ?_;rintro e Q⟨s,L,rfl,h⟩;replace g:=g.call h;have C:=g.rz;have G:=g.be;let⟨x0,d,V,R⟩:=cW C;have g:=C.frozen;go_wp2;let⟨H,g,h,J⟩:=cW (di C (cX s) W W W W);refine sp (v:=.tuple #[wv s,.int _ 0]) (by simp[results,results178,go_sem,H,g,h,J]) W (fV (by rw[L.aa,E.aa];unfold iX;rw[WZ ha.aa,WZ D.aa];rfl) ?_);grind[bd]
def Vc(a b c:Nat)(ha:Hd (a<M))(D:Hd (b<M))(I:Hd (c<M))(w:WD):cP 178 #[iB 20,wv a,wv b,wv c] w (lN w (ep 20 a b c) 0):=by
 have g:=RC.start w a b c;go_enter func178,ntmps178;go_wp2_with fail
 refine(dx 0 (by omega) _).mono ?_;rintro e O⟨z,d,rfl,h⟩;replace g:=g.call h;let⟨j,Y,Z,a3⟩:=cW g.ra;have j:=(g.ra).lt;let⟨U,P,b2,b3⟩:=cW g.rb;have bl:=(g.rb).lt;let⟨t,E⟩:=dP (gN a b);have X:∀w,(Op.equalIn _ 24 _ _).run _ w=.ok t w:=λw=>by rw[ig,E.aa]
 go_wp2_with fail
 refine(jY t _).mono ?_;rintro e Q⟨s,L,rfl,h⟩;replace g:=(g.alloc _).call h;have C:=g.rz;have G:=g.be;let⟨x0,f,V,R⟩:=cW C;have g:=C.frozen;go_wp2;let⟨H,g,h,J⟩:=cW (di C (cX s) W W W W);refine sp (v:=.tuple #[wv s,.int _ 0]) (by simp[results,results178,go_sem,H,g,h,J]) W (fV (by rw[L.aa,E.aa];unfold gN;rw[WZ ha.aa,WZ D.aa];rfl) ?_);grind[bd]
def Ud(a b c:Nat)(ha:Hd (a<M))(J:Hd (b<M))(H:Hd (c<M))(w:WD):cP 178 #[iB 21,wv a,wv b,wv c] w (lN w (ep 21 a b c) 0):=by
 have d:=RC.start w a b c;go_enter func178,ntmps178;go_wp2_with fail
 refine(dx 0 (by omega) _).mono ?_;rintro e O⟨z,X,rfl,f⟩;replace d:=d.call f;let⟨g,U,V,a3⟩:=cW d.ra;have g:=(d.ra).lt;let⟨t,D⟩:=dP (decide (a%M=0));go_wp2_with fail
 refine(je a _).mono ?_;rintro e Z⟨rfl,f⟩;rw[<-D.aa];replace d:=(d.alloc _).call f;go_wp2_with fail
 refine(jY t _).mono ?_;rintro e P⟨s,L,rfl,f⟩;replace d:=d.call f;have C:=d.rz;have E:=d.be;let⟨x0,Y,R,Q⟩:=cW C;have d:=C.frozen;go_wp2;let⟨G,d,f,I⟩:=cW (di C (cX s) W W W W);refine sp (v:=.tuple #[wv s,.int _ 0]) (by simp[results,results178,go_sem,G,d,f,I]) W (fV (by rw[L.aa,D.aa,WZ ha.aa];rfl) ?_);grind[bd]
def Tk(a b c:Nat)(ha:Hd (a<M))(J:Hd (b<M))(f:Hd (c<M))(w:WD):cP 178 #[iB 11,wv a,wv b,wv c] w (lN w (ep 11 a b c) 0):=by
 have q:=RC.start w a b c;go_enter func178,ntmps178;go_wp2_with fail
 refine(dx 0 (by omega) _).mono ?_;rintro e l⟨z,s,rfl,l⟩;replace q:=q.call l;let⟨u,k,t,a3⟩:=cW q.ra;have u:=(q.ra).lt;have O:Hd (ec a 31=if a<31 then a else 31):=by show _=_;unfold ec;rw[WZ ha.aa]
 go_wp2_with fail
 refine(ij a 31 (by omega) _).mono ?_;rintro e u⟨rfl,l⟩;replace q:=(q.alloc _).call l;by_cases G:a<31
 .as_aux_lemma=>
  rw[At G]at O;rw[O.aa];let⟨R,V⟩:=dP (ni a b);have X:Hd (∀i,i<256->R.testBit i=if i<8*a+8 then b.testBit i else b.testBit _):=λi Y=>by rw[V.aa];exact LB a b i G J.aa Y
  let⟨y,d,b2,b3⟩:=cW q.rb;go_wp2_with fail
  refine(gw b _).mono ?_;rintro e n⟨p,rfl,g,L,l⟩;have A:=q.rz.lt;replace q:=q.call l;have o:w.heap.size+1+1+1<p:=by omega
  go_wp2;go_loopw[13] (λH wr=>∃i:Nat,8*a+8<=i/\i<=256/\H=iI i/\wr.rowIs (w.heap.size+1+1+1) 24 4 (dz λ_=>0)/\wr.rowIs p 4 256 (dY λj=>if j<i then R.testBit j else b.testBit j)/\bW w wr)
    (λH _=>256-nI H)
  case atStart=>
   refine⟨_,DO _,by omega,by go_num,q.rz,L.congr λj Z=>?_,q.be⟩;simp only[dY];by_cases h:j<8*a+8
   .rw[At h,X.aa j Z,At h]
   grind
  obtain⟨i,F,Y,rfl,C,E,D⟩:=hrel;by_cases I:i<256
  .have T:decide ((i:Int)<256)=true:=by grind
   have u:=E.frozen i;have co:=E.cell I;have u:=E.cell (i:=8*a+7) (by omega);simp only[dY]at u;rw[AV]at u;go_wp2;go_roundw;case rel=>exact⟨i+1,by omega,by omega,by go_num,C.setOther (by grind) _,jQ E (show Hd (R.testBit (8*a+7)=R.testBit i) by show _=_;rw[X.aa i I,AQ,X.aa (8*a+7) (by omega),AV]).aa,kr D (by grind)⟩
   grind[nI]
  obtain rfl:i=256:=by omega
  have Q:wr.rowIs p 4 _ (dY R.testBit):=E.congr λj Z=>by grind[dY]
  go_wp2_with fail
  refine(lS R _ p _ (by omega) (vp (show Hd (R<M) by show _<_;rw[V.aa];exact MC a b J.aa).aa) _ Q).mono ?_;rintro e N⟨rfl,l⟩;replace C:=cY C l;replace D:=eB D l;let⟨x0,K,S,m⟩:=cW C;have r:=C.frozen;go_wp2;let⟨P,l,u,U⟩:=cW (di C (cX R) W W W W);refine sp (v:=.tuple #[wv R,.int _ 0]) (by simp[results,results178,go_sem,P,l,u,U]) W (fV (by rw[V.aa];rfl) ?_);exact bd D (by omega)
 as_aux_lemma=>
 rw[iF G]at O;rw[O.aa];let⟨y,d,b2,b3⟩:=cW q.rb;have C:=q.rz;have D:=q.be;let⟨x0,K,S,m⟩:=cW C;have r:=C.frozen;go_wp2;let⟨P,l,u,U⟩:=cW (di C (cX b) W W W W);refine sp (v:=.tuple #[wv b,.int _ 0]) (by simp[results,results178,go_sem,P,l,u,U]) W (fV (by rw[show ep 11 a b c=ni a b by simp[ep],(show Hd (ni a b=b) by show _=_;unfold ni;rw[iF G]).aa]) ?_);grind[bd]
theorem Sf(a b c:Nat)(J:Nat)(L:J=0)(ha:Hd (a<M))(I:Hd (b<M))(G:Hd (c<M))(w:WD):cP 178 #[iB (J:Int),wv a,wv b,wv c] w (lN w (ep J a b c) 1):=by
 subst L;have Y:=RC.start w a b c;go_enter func178,ntmps178;go_wp2_with fail
 refine(dx 0 (by omega) _).mono ?_;rintro e P⟨z,U,rfl,Z⟩;replace Y:=Y.call Z;go_wp2_with fail
 refine(dx 0 (by omega) _).mono ?_;rintro e X⟨s,O,rfl,Z⟩;replace Y:=(Y.alloc _).call Z;have C:=Y.rz;have D:=Y.be;let⟨x0,V,R,Q⟩:=cW C;have Y:=C.frozen;go_wp2;let⟨E,Y,Z,H⟩:=cW (di C (cX s) W W W W);refine sp (v:=.tuple #[wv s,.int _ 1]) (by simp[results,results178,go_sem,E,Y,Z,H]) W (fV (by rw[O.aa];rfl) ?_);grind[bd]
theorem S7(a b c:Nat)(J:Nat)(R:12<=J)(O:J<=15)(ha:Hd (a<M))(I:Hd (b<M))(G:Hd (c<M))(w:WD):cP 178 #[iB (J:Int),wv a,wv b,wv c] w (lN w (ep J a b c) 1):=by
 have Z:=RC.start w a b c;go_enter func178,ntmps178;go_wp2_with fail
 refine(dx 0 (by omega) _).mono ?_;rintro e P⟨z,V,rfl,d⟩;replace Z:=Z.call d;go_wp2_with fail
 refine(dx 0 (by omega) _).mono ?_;rintro e Y⟨s,L,rfl,d⟩;replace Z:=(Z.alloc _).call d;have C:=Z.rz;have D:=Z.be;let⟨x0,X,U,Q⟩:=cW C;have Z:=C.frozen;go_wp2;let⟨E,Z,d,H⟩:=cW (di C (cX s) W W W W);refine sp (v:=.tuple #[wv s,.int _ 1]) (by simp[results,results178,go_sem,E,Z,d,H]) W (fV (by rw[L.aa,xy J a b c (by omega)]) ?_);grind[bd]
theorem Rg(a b c:Nat)(J:Nat)(R:30<=J)(O:J<=255)(ha:Hd (a<M))(I:Hd (b<M))(G:Hd (c<M))(w:WD):cP 178 #[iB (J:Int),wv a,wv b,wv c] w (lN w (ep J a b c) 1):=by
 have Z:=RC.start w a b c;go_enter func178,ntmps178;go_wp2_with fail
 refine(dx 0 (by omega) _).mono ?_;rintro e P⟨z,V,rfl,d⟩;replace Z:=Z.call d;go_wp2_with fail
 refine(dx 0 (by omega) _).mono ?_;rintro e Y⟨s,L,rfl,d⟩;replace Z:=(Z.alloc _).call d;have C:=Z.rz;have D:=Z.be;let⟨x0,X,U,Q⟩:=cW C;have Z:=C.frozen;go_wp2;let⟨E,Z,d,H⟩:=cW (di C (cX s) W W W W);refine sp (v:=.tuple #[wv s,.int _ 1]) (by simp[results,results178,go_sem,E,Z,d,H]) W (fV (by rw[L.aa,xy J a b c (by omega)]) ?_);grind[bd]
def vT:Nat:=57896044618658097711785492504343953926634992332820282019728792003956564819968
structure RT(w:WD)(a b c t T:Nat)(x:WD):Prop where
 ra:x.rowIs (w.heap.size) 24 4 (dz (cX a))
 rb:x.rowIs (w.heap.size+1) 24 4 (dz (cX b))
 rz:∃f,x.rowIs (w.heap.size+1+1+1) 24 4 (dz f)
 rt:x.rowIs T 24 4 (dz (cX t))
 hT:w.heap.size+1+1+1<T
 be:Below w.heap.size w x
def RT.call{T:Nat}(h:RT w a b c t T x)(C:bW x y):RT w a b c t T y:=⟨cY h.ra C,cY h.rb C,h.rz.elim λf h=>⟨f,cY h C⟩,cY h.rt C,h.hT,eB h.be C⟩
def RT.put{T:Nat}(h:RT w a b c t T x)(n:Nat):RT w a b c t T (sC (sC (sC (sC x (w.heap.size+1+1+1) 0 (lu n 0)) (w.heap.size+1+1+1) 1 (lu n 1)) (w.heap.size+1+1+1) 2 (lu n 2)) (w.heap.size+1+1+1) 3 (lu n 3)):=by have:=h.hT;let⟨f,C⟩:=h.rz;exact⟨eC h.ra _ _ _ _,eC h.rb _ _ _ _,⟨_,di C (cX n) W W W W⟩,eC h.rt _ _ _ _,h.hT,bd h.be (by omega)⟩
def RT.start(c:Nat)(D:RC w a b c w1)(hz:z=0)(C:t=vT):RT w a b c t w1.heap.size (w1.alloc (.cells #[lu z 0,lu z 1,lu z 2,iU 9223372036854775808] 24)):=by subst hz C;refine⟨D.ra.alloc _,D.rb.alloc _,⟨_,D.rz.alloc _⟩,de _ W ?_ ?_ ?_ ?_,D.rz.lt,ai D.be _⟩<;>(unfold cX;decide)
def L3{l:Bool}(h:Hd (l=iX a b))(x:WD):cP 66 #[wv a,wv b] x (L2 (.bool l) x):=by rw[h.aa];exact jz a b x
def SG(a b c:Nat)(ha:Hd (a<M))(C:Hd (b<M))(O:Hd (c<M))(w:WD):cP 178 #[iB 18,wv a,wv b,wv c] w (lN w (ep 18 a b c) 0):=by
 have U:=RC.start w a b c;go_enter func178,ntmps178;go_wp2_with fail
 refine(dx 0 (by omega) _).mono ?_;rintro e w1⟨z,R,rfl,V⟩;replace U:=U.call V;clear V;let⟨T0,E⟩:=dP vT;let⟨X,G⟩:=dP (kQ (a%M) (T0%M));let⟨Y,I⟩:=dP (kQ (b%M) (T0%M));let⟨l,H⟩:=dP (iX X Y);let⟨t,J⟩:=dP (jM l);have P:=RT.start c U R E.aa;clear U;go_wp2;refine sx (Jq9:=RT w a b c T0 w1.heap.size) (Zq9:=w.heap.size+1+1+1) (q:=t) (D:=[(5,.pointer _),(6,.pointer _),(8,.pointer _),(10,.pointer _)]) (es:=nV 91 [wv a,wv T0,wv X,wv b,wv T0,wv Y,.bool l,wv t]++[(none,.v undef),(some 9,.v (iI 0))]) (c:=8) (loads:=[0,1,2,3,4,5,6,7]) W W W W W P (λ_ _ h V=>h.call V) (λ_ h=>h.rz) (λ_ h=>h.put t)
  (tu W W W (λ_ _ h=>h.1.ra) (tu W W W (λ_ _ h=>h.1.rt) (cv W W W (rv (lC a T0) G) (tu W W W (λ_ _ h=>h.1.rb) (tu W W W (λ_ _ h=>h.1.rt) (cv W W W (rv (lC b T0) I) (cv W W W (L3 H) (cv W W W (rv (jY l) J) True.intro)))))))) ?_
 intro g x U V;simp only[n8,sx9];let⟨L,X,Y,Q⟩:=cW V;go_wp2;refine sp (v:=.tuple #[wv t,iI 0]) (by simp[results,results178,go_sem,L,X,Y,Q]) W (fV ?_ U.be);rw[J.aa,H.aa,G.aa,I.aa,E.aa,WZ ha.aa,WZ C.aa,WZ (show vT<M by unfold M vT;decide),vT,ID a b ha.aa C.aa];simp[ep]
def T5(a b c:Nat)(ha:Hd (a<M))(C:Hd (b<M))(O:Hd (c<M))(w:WD):cP 178 #[iB 19,wv a,wv b,wv c] w (lN w (ep 19 a b c) 0):=by
 have U:=RC.start w a b c;go_enter func178,ntmps178;go_wp2_with fail
 refine(dx 0 (by omega) _).mono ?_;rintro e w1⟨z,R,rfl,V⟩;replace U:=U.call V;clear V;let⟨T0,E⟩:=dP vT;let⟨X,G⟩:=dP (kQ (b%M) (T0%M));let⟨Y,I⟩:=dP (kQ (a%M) (T0%M));let⟨l,H⟩:=dP (iX X Y);let⟨t,J⟩:=dP (jM l);have P:=RT.start c U R E.aa;clear U;go_wp2;refine sx (Jq9:=RT w a b c T0 w1.heap.size) (Zq9:=w.heap.size+1+1+1) (q:=t) (D:=[(5,.pointer _),(6,.pointer _),(8,.pointer _),(10,.pointer _)]) (es:=nV 101 [wv b,wv T0,wv X,wv a,wv T0,wv Y,.bool l,wv t]++[(none,.v undef),(some 9,.v (iI 0))]) (c:=8) (loads:=[0,1,2,3,4,5,6,7]) W W W W W P (λ_ _ h V=>h.call V) (λ_ h=>h.rz) (λ_ h=>h.put t)
  (tu W W W (λ_ _ h=>h.1.rb) (tu W W W (λ_ _ h=>h.1.rt) (cv W W W (rv (lC b T0) G) (tu W W W (λ_ _ h=>h.1.ra) (tu W W W (λ_ _ h=>h.1.rt) (cv W W W (rv (lC a T0) I) (cv W W W (L3 H) (cv W W W (rv (jY l) J) True.intro)))))))) ?_
 intro g x U V;simp only[n8,sx9];let⟨L,X,Y,Q⟩:=cW V;go_wp2;refine sp (v:=.tuple #[wv t,iI 0]) (by simp[results,results178,go_sem,L,X,Y,Q]) W (fV ?_ U.be);rw[J.aa,H.aa,G.aa,I.aa,E.aa,WZ ha.aa,WZ C.aa,WZ (show vT<M by unfold M vT;decide),vT,ID b a C.aa ha.aa];simp[ep]
def mg(h:m%M=n%M):gN m n=true:=by grind[gN]
def mm(a:Nat):a%M<M:=Xs _ jm
def md(h:a<M):a%M=a:=WZ h
def KY(J:Nat):J=0\/J=1\/J=2\/J=3\/J=4\/J=5\/J=6\/J=7\/J=8\/J=9\/J=10\/J=11\/(12<=J/\J<=15)\/J=16\/J=17\/J=18\/J=19\/J=20\/J=21\/J=22\/J=23\/J=24\/J=25\/J=26\/J=27\/J=28\/J=29\/30<=J:=by omega
theorem ur(J:Nat)(h:J=0\/(12<=J/\J<=15)\/30<=J):ny J=1:=by grind[ny]
def qC(J:Nat)(G:J<=255)(a b c:Nat):cP 178 #[iB (J:Int),wv a,wv b,wv c] w (lN w (ep J (a%M) (b%M) (c%M)) (ny J)):=by
 rw[<-jJ a,<-jJ b,<-jJ c];have C:Hd (a%M<M):=Xs _ jm;have H:Hd (b%M<M):=Xs _ jm;have D:Hd (c%M<M):=Xs _ jm;generalize a%M=a at*;generalize b%M=b at*;generalize c%M=c at*;rcases KY J with h|h|h|h|h|h|h|h|h|h|h|h|h|h|h|h|h|h|h|h|h|h|h|h|h|h|h|h
 .grind[ur,Sf]
 .subst h;exact jq a b c w (lC a b) (by show _=_;rw[WZ C.aa,WZ H.aa];rfl) (.inr (.inr ⟨W,.inl ⟨W,W⟩⟩))
 .subst h;exact(rcalc2 a b c C H D w)
 .subst h;exact jq a b c w (pP a b) (by show _=_;rw[WZ C.aa,WZ H.aa];rfl) (.inr (.inr ⟨W,.inr (.inl ⟨W,W⟩)⟩))
 .subst h;exact jq a b c w (Mb a b c C H D) W (.inl ⟨W,W,by simp⟩)
 .subst h;exact jq a b c w (Ls a b c C H D) W (.inl ⟨W,W,by simp⟩)
 .subst h;exact jq a b c w (MX a b c C H D) W (.inl ⟨W,W,by simp⟩)
 .subst h;exact jq a b c w (LA a b c C H D) W (.inl ⟨W,W,by simp⟩)
 .subst h;exact jq a b c w (Dy a b c C H D) W (.inl ⟨W,W,by simp⟩)
 .subst h;exact jq a b c w (DS a b c C H D) W (.inl ⟨W,W,by simp⟩)
 .subst h;exact jq a b c w (GU a b) (by show _=_;rw[WZ C.aa,WZ H.aa];rfl) (.inr (.inr ⟨W,.inr (.inr ⟨W,W⟩)⟩))
 .subst h;exact(Tk a b c C H D w)
 .grind[ur,S7]
 .subst h;exact(QZ a b c C H D w)
 .subst h;exact(SV a b c C H D w)
 .subst h;exact(SG a b c C H D w)
 .subst h;exact(T5 a b c C H D w)
 .subst h;exact(Vc a b c C H D w)
 .subst h;exact(Ud a b c C H D w)
 .subst h;exact jq a b c w (ua a b (zdj C.aa) (.inl ⟨W,λi _=>Nat.testBit_and _ _ _⟩)) W (.inr (.inl ⟨W,W,by simp⟩))
 .subst h;exact jq a b c w (ua a b (or_lt C.aa H.aa) (.inr (.inl ⟨W,λi _=>ZM _ _ _⟩))) W (.inr (.inl ⟨W,W,by simp⟩))
 .subst h;exact jq a b c w (ua a b (xor_lt C.aa H.aa) (.inr (.inr (.inr ⟨W,λi _=>JF⟩)))) W (.inr (.inl ⟨W,W,by simp⟩))
 .subst h;exact jq a b c w (ua a b (wE _) (.inr (.inr (.inl ⟨W,λi E=>xV a i C.aa E⟩)))) W (.inr (.inl ⟨W,W,by simp⟩))
 .subst h;exact jq a b c w (Ky a b C H) W (.inr (.inl ⟨W,W,by simp⟩))
 .subst h;exact jq a b c w (BQ a b (Cg) (λi E=>by rw[show ec a _=if a<256 then a else 256 by unfold ec;rw[WZ C.aa]];exact N5 a b i H.aa E) (.inl ⟨W,W,W⟩)) W (.inr (.inl ⟨W,W,by simp⟩))
 .subst h;exact jq a b c w (BQ a b (wo _ H.aa) (λi E=>by rw[show ec a _=if a<256 then a else 256 by unfold ec;rw[WZ C.aa]];exact yX a b i H.aa E) (.inr (.inl ⟨W,W,W⟩))) W (.inr (.inl ⟨W,W,by simp⟩))
 .subst h;exact jq a b c w (BQ a b (JO H.aa) (λi E=>by rw[show ec a _=if a<256 then a else 256 by unfold ec;rw[WZ C.aa]];exact EO a b i H.aa E) (.inr (.inr ⟨W,W,W⟩))) W (.inr (.inl ⟨W,W,by simp⟩))
 grind[ur,Rg]
def vm(h:i<10):i=0\/i=1\/i=2\/i=3\/i=4\/i=5\/i=6\/i=7\/i=8\/i=9:=by omega
def DQ.swap{p q:Nat×Nat×Tn}(h:DQ O H Y R (p::q::l) x):DQ O H Y R (q::p::l) x:=by
 let⟨X,C,V,h,E,D⟩:=h;refine⟨X,C,V,h,λr G=>E r ?_,?_⟩
 .grind
 grind
def DQ.store{P J L a3:VL}(h:DQ O H Y R ((b,24,[P,J,L,a3])::l) x):DQ O H Y R ((b,24,[lu n 0,lu n 1,lu n 2,lu n 3])::l) (lp x b n):=by
 have c:=h.row;let⟨X,C,V,h,Q,E⟩:=h;have Z:=(Q _ Xz).2;let⟨D,I⟩:=X3.1 E;have U:=we x b n;refine⟨X,C,V,h.kb U (λk G=>by grind),λp P=>?_,E⟩;rcases IF.1 P with rfl|P
 .exact⟨(((c.set _).set _).set _).set _,Z⟩
 exact⟨U.row (Q p (IN _ P)).1 λG=>D (Xq.2 ⟨p,P,BY.1 G⟩),(Q p (IN _ P)).2⟩
def EQ(C:O<=b):Below O x (lp x b n):=((((dO _ _).setCell C _).setCell C _).setCell C _).setCell C _
def mM(J a b c:Nat)(R:RS):RS:=if R.ao=0 then eN (ep J (a%M) (b%M) (c%M)) (if ny J=0 then R else fA R)else R
def Nh(J:Nat)(R:RS):RS:=du (dA (dU (if J=10 then 10 else 5) R)) λa R=>du (if J=21\/J=25 then(0,R)else dA R) λb R=>du (if J=8\/J=9 then dA R else(0,R)) λc R=>mM J a b c (if J=10 then dU (10*(GM (pw b)).size) R else R)
def lst_le(s:BA):(GM s).size<=s.size:=by show((bl s).dropWhile (·==0)).toArray.size<=s.size;grind[YU,ik,List.dropWhile_sublist]
def Bn{K:Nat->RS->RS}{Q:Ending->X4}(L:Hd (tr=du (dA R) K))(h:Hd (Sx O H Y x R0 R (bx b n::l) y))(V:O<=b)(k:∀a E C,Hd (tr=K a E)->(∃U I J a3,cL C b 0 U/\cL C b 1 I/\cL C b 2 J/\cL C b 3 a3/\∀i,C.frozen? ⟨b,i,none⟩=false)->Hd (Sx O H Y x R0 E (bx b a::l) (lp C b a))->Q (.returned (wv a)) C):cP 124 #[pt H] y Q:=by
 refine w_tak L h λa E C G D=>k a E C G ?_ ?_
 .obtain⟨c0,c1,c2,c3,P⟩:=D.aa.cs 0 b n W;grind
 exact⟨D.aa.q.store,D.aa.b.trans (EQ V),D.aa.s⟩
def Sx.swap{p q:Nat×Nat×Tn}(h:Sx O H Y x R0 R (p::q::l) y):Sx O H Y x R0 R (q::p::l) y:=⟨h.q.swap,h.b,h.s⟩
def Sx.box(h:Sx O H Y x R0 R l y)(a:Nat):Sx O H Y x R0 R (bx y.heap.size a::l) (y.alloc (wc a)):=⟨h.q.aW _ _ _ _,h.b.trans ((ai (dO _ y) _).mono h.q.hb.1),h.s⟩
theorem VJ(J:Nat)(L:J=21\/J=25)(h:DQ O H Y R l x):cP 121 #[pt H,iI (J:Int)] x (Dp O H Y (Nh J R) (.tuple #[]) l x):=by
 have E:ny J=0:=by rcases L with rfl|rfl<;>decide
 rcases L with rfl|rfl;all_goals
  refine jG (fK (dU 5 R) λR=>du _ λa R=>mM _ a 0 0 R) W h λtr D C=>?_;go_enter func121,ntmps121;go_wp2_with fail
  refine gR 5 D C λu K D C=>?_;go_wp2_with fail
  refine fE D C λa G t D C=>?_;go_wp2_with fail
  refine lT (dx 0 (by omega) _) C λF C=>?_;replace C:=cV (C.box 0);go_wp2_with fail
  refine lT (dx 0 (by omega) _) C λk C=>?_;replace C:=cV (C.box 0);unfold mM at D;have p:=C.aa.c 19 λ_ _=>W;by_cases I:G.ao=0
  .replace D:=cV (D.trans (At I));have j:((G.ao:Int) !=0)=false:=by grind
   let⟨U,T,X,A,m⟩:=C.aa.cs 0 _ _ W;let⟨vm,ze,V,Q,o⟩:=C.aa.cs 1 _ _ W;let⟨P,z,Z,d,g⟩:=C.aa.cs 2 _ _ W;go_wp2_with fail
   refine(qC _ (by decide) a 0 0).mono ?_;rintro e N⟨r,f,rfl,S⟩;rw[<-f.aa]at D;replace C:=cV ((C.below S).box r);rw[E,At W]at D;rw[E];go_wp2_with fail
   refine gf (iq r C.q) D C λy C=>?_;go_wp2;refine bI W W ⟨W,C.1.tail.tail.tail.tail,C.2⟩
  have j:((G.ao:Int) !=0)=true:=Zp.2 (by omega);replace C:=C.aa.aZ (cV (D.trans (iF I)));go_wp2;refine bI W W ⟨W,C.1.tail.tail.tail,C.2⟩
theorem Vt(J:Nat)(d:J=8\/J=9)(h:DQ O H Y R l x):cP 121 #[pt H,iI (J:Int)] x (Dp O H Y (Nh J R) (.tuple #[]) l x):=by
 have L:ny J=0:=by rcases d with rfl|rfl<;>decide
 rcases d with rfl|rfl;all_goals
  refine jG (fK (dU 5 R) λR=>du _ λa R=>du (dA R) λb R=>du (dA R) λc R=>mM _ a b c R) W h λtr D C=>?_;go_enter func121,ntmps121;go_wp2_with fail
  refine gR 5 D C λu u D C=>?_;go_wp2_with fail
  refine fE D C λa u u D C=>?_;go_wp2_with fail
  refine lT (dx 0 (by omega) _) C λu C=>?_;have I:=cV C.q.hb.1;replace C:=cV (C.box 0);go_wp2_with fail
  refine lT (dx 0 (by omega) _) C λu C=>?_;have G:=cV C.q.hb.1;replace C:=cV (C.box 0);replace C:=cV C.swap;go_wp2_with fail
  refine Bn D C I λb u u D E C=>?_;let⟨A,k,s2,s,U,X,P,Q,sf⟩:=E;unfold lp at C;replace C:=cV C.swap;go_wp2_with fail
  refine Bn D C G λc V u D E C=>?_;let⟨A,k,s2,s,U,X,P,Q,sf⟩:=E;unfold lp at C;unfold mM at D;have u:=C.aa.c 19 λ_ _=>W;by_cases Z:V.ao=0
  .replace D:=cV (D.trans (At Z));have K:((V.ao:Int) !=0)=false:=by grind
   let⟨j,u,o,i,F⟩:=C.aa.cs 0 _ _ W;let⟨vm,ze,m,g,N⟩:=C.aa.cs 1 _ _ W;let⟨f,t,p,z,S⟩:=C.aa.cs 2 _ _ W;go_wp2_with fail
   refine(qC _ (by decide) a b c).mono ?_;rintro e u⟨r,T,rfl,u⟩;rw[<-T.aa]at D;replace C:=cV ((C.below u).box r);rw[L,At W]at D;rw[L];go_wp2_with fail
   refine gf (iq r C.q) D C λy C=>?_;go_wp2;refine bI W W ⟨W,C.1.tail.tail.tail.tail,C.2⟩
  have K:((V.ao:Int) !=0)=true:=Zp.2 (by omega);replace C:=C.aa.aZ (cV (D.trans (iF Z)));go_wp2;refine bI W W ⟨W,C.1.tail.tail.tail,C.2⟩
theorem TT(J:Nat)(p:J=10)(h:DQ O H Y R l x):cP 121 #[pt H,iI (J:Int)] x (Dp O H Y (Nh J R) (.tuple #[]) l x):=by
 have I:ny J=0:=by subst p;decide
 subst p;refine jG (fK (dU 10 R) λR=>du _ λa R=>du (dA R) λb R=>fK (dU (10*(GM (pw b)).size) R) λR=>mM 10 a b 0 R) W h λtr D C=>?_;go_enter func121,ntmps121;go_wp2_with fail
 refine gR 10 D C λu u D C=>?_;go_wp2_with fail
 refine fE D C λa u u D C=>?_;go_wp2_with fail
 refine lT (dx 0 (by omega) _) C λu C=>?_;have G:=cV C.q.hb.1;replace C:=cV (C.box 0);go_wp2_with fail
 refine lT (dx 0 (by omega) _) C λu C=>?_;replace C:=cV (C.box 0);replace C:=cV C.swap;go_wp2_with fail
 refine Bn D C G λb u u D f C=>?_;obtain⟨u,u,s2,u,k,u,K,N,sf⟩:=f;unfold lp at C;replace C:=cV C.swap;let⟨vm,ze,X,Q,d⟩:=C.aa.cs 1 _ _ W;go_wp2_with fail
 refine vK (qk b) C λu C=>?_;let⟨P,L⟩:=dP (pw b);have U:P.size<=32:=by rw[L.aa];exact DO 32
 rw[<-L.aa]at D⊢;go_wp2_with fail
 refine(Lh P (by omega)).mono ?_;rintro e u⟨rfl,rfl⟩;have V:=By (lst_le P) U;let⟨o,g⟩:=dP (GM P);rw[<-g.aa]at D V⊢;let⟨n9,E⟩:=dP (10*o.size);have j:n9<=10000000:=by have:=E.aa;omega
 rw[<-E.aa]at D;have u:10*(o.size:Int)=n9:=by have:=E.aa;omega
 go_wp2_with fail
 refine gR n9 (hn:=j) D C λZ u D C=>?_;unfold mM at D;have u:=C.aa.c 19 λ_ _=>W;by_cases m:Z.ao=0
 .replace D:=cV (D.trans (At m));have s:((Z.ao:Int) !=0)=false:=by grind
  obtain⟨A,u,S,u,i⟩:=C.aa.cs 0 _ _ W;let⟨vm,ze,X,Q,d⟩:=C.aa.cs 1 _ _ W;let⟨z,u,T,F,t⟩:=C.aa.cs 2 _ _ W;go_wp2_with fail
  refine(qC 10 (by decide) a b 0).mono ?_;rintro e u⟨r,u,rfl,v⟩;rw[<-u.aa]at D;replace C:=cV ((C.below v).box r);rw[I,At W]at D;rw[I];go_wp2_with fail
  refine gf (iq r C.q) D C λy C=>?_;go_wp2;refine bI W W ⟨W,C.1.tail.tail.tail.tail,C.2⟩
 have s:((Z.ao:Int) !=0)=true:=Zp.2 (by omega);replace C:=C.aa.aZ (cV (D.trans (iF m)));go_wp2;refine bI W W ⟨W,C.1.tail.tail.tail,C.2⟩
theorem Vi(J:Nat)(u:J<=29/\J≠21/\J≠25/\J≠8/\J≠9/\J≠10)(h:DQ O H Y R l x):cP 121 #[pt H,iI (J:Int)] x (Dp O H Y (Nh J R) (.tuple #[]) l x):=by
 have v:((J:Int)==10)=false:=Xb.2 (by omega);have g:((J:Int) !=21)=true:=Zp.2 (by omega);have A:((J:Int) !=25)=true:=Zp.2 (by omega);have v:((J:Int)==8)=false:=Xb.2 (by omega);have v:((J:Int)==9)=false:=Xb.2 (by omega);have N:=u.1;refine jG (fK _ λR=>du _ λa R=>du (dA R) λb R=>mM J a b 0 R) (by unfold Nh;simp only[iF (show¬J=10 by omega),iF (show¬(J=21\/J=25) by omega),iF (show¬(J=8\/J=9) by omega)];rfl) h λtr D C=>?_;go_enter func121,ntmps121;go_wp2_with fail
 refine gR 5 D C λu u D C=>?_;go_wp2_with fail
 refine fE D C λa u u D C=>?_;go_wp2_with fail
 refine lT (dx 0 (by omega) _) C λu C=>?_;have E:=cV C.q.hb.1;replace C:=cV (C.box 0);go_wp2_with fail
 refine lT (dx 0 (by omega) _) C λu C=>?_;replace C:=cV (C.box 0);replace C:=cV C.swap;go_wp2_with fail
 refine Bn D C E λb P u D V C=>?_;obtain⟨u,u,s2,u,T,i,o,z,sf⟩:=V;unfold lp at C;replace C:=cV C.swap;unfold mM at D;have t:=C.aa.c 19 λ_ _=>W;by_cases Z:P.ao=0
 .replace D:=cV (D.trans (At Z));have F:((P.ao:Int) !=0)=false:=by grind
  let⟨G,X,I,U,Q⟩:=C.aa.cs 0 _ _ W;let⟨vm,ze,j,f,k⟩:=C.aa.cs 1 _ _ W;let⟨d,s,m,p,K⟩:=C.aa.cs 2 _ _ W;go_wp2_with fail
  refine(qC J (by omega) a b 0).mono ?_;rintro e u⟨r,S,rfl,u⟩;rw[<-S.aa]at D;replace C:=cV ((C.below u).box r);obtain⟨k9,L⟩:∃k9,ny J=k9:=⟨_,W⟩
  rw[L]at D⊢;by_cases u:k9=0
  .subst u;rw[At W]at D;go_wp2_with fail
   refine gf (iq r C.q) D C λy C=>?_;go_wp2;refine bI W W ⟨W,C.1.tail.tail.tail.tail,C.2⟩
  rw[iF u]at D;have v:=Zp.2 u;replace D:Hd (tr=fK _ λR=>eN r R):=D;go_wp2_with fail
  refine TX (jh C.q C.q.ac) D C (hM _) λu u D C=>?_;let⟨G,X,I,U,Q⟩:=C.aa.cs 0 _ _ W;go_wp2_with fail
  refine gf (iq r C.q) D C λy C=>?_;go_wp2;refine bI W W ⟨W,C.1.tail.tail.tail.tail,C.2⟩
 have F:((P.ao:Int) !=0)=true:=Zp.2 (by omega);replace C:=C.aa.aZ (cV (D.trans (iF Z)));go_wp2;refine bI W W ⟨W,C.1.tail.tail.tail,C.2⟩
def DQ.bh{D:hZ}(h:DQ O H Y R l x)(p:l.Perm D):DQ O H Y R D x:=by let⟨X,C,V,h,G,E⟩:=h;exact⟨X,C,V,h,λq I=>G q (p.mem_iff.2 I),(p.map _).nodup_iff.1 E⟩
def DQ.bt{T:Nat}(h:DQ O H Y R ((b,T,cs)::l) x):DQ O H Y R ((b,T,cs.set o v)::l) (x.setCell ⟨b,o,none⟩ v):=by
 have c:=h.row;let⟨X,C,V,h,Q,G⟩:=h;have U:=(Q _ Xz).2;let⟨E,I⟩:=X3.1 G;have Z:Kb [b] x (x.setCell ⟨b,o,none⟩ v):=(Kb.refl _ _).setCell AI v;refine⟨X,C,V,h.kb Z (λk D=>by rw[BY.1 D];exact U),λp J=>?_,G⟩;rcases IF.1 J with rfl|J
 .exact⟨c.set v,U⟩
 exact⟨Z.row (Q p (IN _ J)).1 λD=>E (Xq.2 ⟨p,J,BY.1 D⟩),(Q p (IN _ J)).2⟩
def Tps(O:Nat)(t:VL)(ts:Tl)(L:hZ):=(∀k,t.ownBlock=some k->∃p∈L,p.1=k)/\∀y:WD,(∀p∈L,rowL y p.1 p.2.1 p.2.2)->Wds y O t ts
def Tps.nil(O:Nat):Tps O (.slice none 0 0) [] []:=⟨λk C=>(by cases C),λy _=>Xy y _ _ _⟩
def DQ.tps{t:VL}(h:DQ O H Y R (L++l) x)(D:Tps O t ts L):Wds x O t ts:=by let⟨X,C,V,h,G,E⟩:=h;exact D.2 x λp I=>(G p (Xw _ I)).1
def DQ.cS{t U:VL}{E:Tl}(h:DQ O H Y R (L++l) x)(f:Tps O t ts L)(j:x.grownBy y t.ownBlock)(m:Wds y O U E)(T:Fresh x t U):∃D,Tps O U E D/\DQ O H Y R (D++l) y:=by
 let⟨X,C,V,h,S,Q⟩:=h;let⟨D,d,s2,z,g⟩:=wL m;rw[XP,X5]at Q;have K:=iM j;have I:∀k∈t.ownBlock.toList,∃p∈L,p.1=k:=λk J=>f.1 k (by simpa using J);have Z:∀q∈l,q.1∉t.ownBlock.toList:=λq u J=>by let⟨p,c,e⟩:=I _ J;exact Q.2.2 _ (Xq.2 ⟨p,c,W⟩) _ (Xq.2 ⟨q,u,W⟩) e
 have G:∀p∈D,(∃q∈L,q.1=p.1)\/x.heap.size<=p.1:=λp c=>by
  rcases T with e|e
  .exact LZ (f.1 _ (e▸(d p c).1))
  exact A4 (e _ (d p c).1)
 refine⟨D,⟨s2,g⟩,X,C,V,h.kb K (λk J=>?_),λp c=>?_,?_⟩
 .obtain⟨p,c,rfl⟩:=I k J;exact(S p (Xw _ c)).2
 .rcases Xr.1 c with c|c
  .refine⟨(d p c).2.2,λT=>?_⟩;rcases G p c with⟨q,u,e⟩|e
   .exact(S q (Xw _ u)).2 (e▸T)
   have:=h.lt T;omega
  exact⟨K.row (S p (Xn _ c)).1 (Z p c),(S p (Xn _ c)).2⟩
 rw[XP,X5];refine⟨z,Q.2.1,λa A b T e=>?_⟩;obtain⟨p,c,rfl⟩:=Xq.1 A;obtain⟨q,u,rfl⟩:=Xq.1 T;rcases G p c with⟨r,T,c⟩|c
 .exact Q.2.2 _ (Xq.2 ⟨r,T,W⟩) _ (Xq.2 ⟨q,u,W⟩) (c.trans e)
 have:=World.rowIs.lt (S q (Xn _ u)).1;omega
def WQ.lg1{V:DV}{t:VL}{e:LogE}(h:DW O Y P V x)(A:(∀p∈L++l,rowL x p.1 p.2.1 p.2.2/\¬vu Y V p.1)/\((L++l).map (·.1)).Nodup)(hb:O<=x.heap.size)(X:Tps O t e.aM L)(S:Kb (Y::V.gv.ownBlock.toList) x y)(z:rowL y Y 146 [V.pv,V.lv,v'])(K:y.ownsRow O 112 6 v' (P.lg++[e]).length (qM (P.lg++[e]) (V.tv++[t])))(Q:Fresh x V.gv v'):WQ O Y {P with lg:=P.lg++[e]} l y:=by
 have c:∀k∈Y::V.gv.ownBlock.toList,∀T,Ty x k T->T=146\/T=112:=λk G T c=>by
  rcases IF.1 G with rfl|G
  .exact LZ (c.aF (Ty.aB h.row))
  exact A4 (c.aF (Ty.az h.lg (by simpa using G)))
 have I:∀{b f size n:Nat}{v:VL}{xs:Tn},f≠146->f≠112->x.ownsRow b f size v n xs->y.ownsRow b f size v n xs:=λj g I=>S.aD I λk hb G=>(c k G _ (Ty.az I hb)).elim j g;have m:∀k∈Y::V.gv.ownBlock.toList,vu Y V k:=λk G=>by
  rcases IF.1 G with rfl|G
  .exact LZ W
  exact A4 (A4 (A4 (LZ (by simpa using G))))
 have U:=A.2;rw[XP,X5]at U;refine⟨{V with gv:=v',tv:=V.tv++[t]},⟨z,I (by decide) (by decide) h.pu,I (by decide) (by decide) h.sl,K,by simp[h.tl],λi d u c E=>?_,h.hb⟩,λp z=>⟨S.row (A.1 p (Xn _ z)).1 λG=>(A.1 p (Xn _ z)).2 (m _ G),λK=>?_⟩,U.2.1,By hb S.size⟩
 .by_cases Z:i<P.lg.length
  .rw[Xv Z]at c;rw[Xv (by rw[h.tl];exact Z)]at E;exact I (by decide) (by decide) (h.tp i d u c E)
  rw[Xx (by omega)]at c;rw[Xx (by rw[h.tl];omega),h.tl]at E;have S:i-P.lg.length=0:=by have:=(Do.1 c).1;simp at this;omega
  rw[S]at c E;obtain rfl:e=d:=by simpa using c
  obtain rfl:t=u:=by simpa using E
  exact fO (I (by decide) (by decide) (X.2 x λp z=>(A.1 p (Xw _ z)).1)) (In _)
 have C:=A.1 p (Xn _ z);rcases K with D|D|D|D|⟨u,E,D⟩
 .exact C.2 (LZ D)
 .exact C.2 (A4 (LZ D))
 .exact C.2 (A4 (A4 (LZ D)))
 .rcases Q with J|J
  .exact C.2 (A4 (A4 (A4 (LZ (J▸D)))))
  have:=J _ D;have:=World.rowIs.lt C.1;omega
 rcases Xr.1 E with E|E
 .exact C.2 (A4 (A4 (A4 (A4 ⟨u,E,D⟩))))
 rw[BY.1 E]at D;let⟨q,c,J⟩:=X.1 _ D;exact U.2.2 _ (Xq.2 ⟨q,c,W⟩) _ (Xq.2 ⟨p,z,W⟩) J
def nR:Nat->Tl->RS->Tl×RS
 |0,ts,R=>(ts,R)
 |k+1,ts,R=>nR k (ts++[(dA R).1]) (dA R).2
def DH(q:Nat×Nat)(ts:Tl)(R:RS):RS:=if R.ao=0 then{R with w:={R.w with lg:=R.w.lg++[⟨R.ak,ts,dI (dM R.mem q.1 q.2)⟩]}}else R
def hd_rd(R:RS):pV (QO R)=pV R:=(E8 R).hd
def Gf(n:Nat)(R:RS):RS:=du (dA (QO (dU 300 R))) λa R=>du (dA R) λs R=>du (dJ a s (dU (8*ec s 70000) R)) λq R=>du (nR n [] R) (DH q)
end
def uS(J:Nat)(R:RS):Nat×RS:=if J=241 then dA R else(0,R)
def vV(v:Nat)(R:RS):RS:=if v%M=0 then R else QO (dU 900 R)
def kB(g:Nat)(R:RS):Nat:=if ec g 200000<R.ac-R.ac/64 then ec g 200000 else R.ac-R.ac/64
def uT(J Z v:Nat)(q:Nat×Nat)(g:Nat)(R:RS)(c:BA)(P:RW):RS:=⟨c,dI (dM R.mem q.1 q.2),⟨#[]⟩,if J=244 then R.ak else Z,if J=244 then R.ax else R.ak,if J=244 then R.value else v,g,R.depth+1,0,0,R.aR||J==250,[],[],⟨#[]⟩,P⟩
def FR(o:Nat×Nat)(G R:RS):RS:=if G.ao=3 then eN 0 R else
 eN (jM (G.ao==1)) (if G.ao=1 then{gT o.1 (dI (dH G.aa 0 (min o.2 G.aa.size))) {R with ac:=R.ac+G.ac,aI:=G.aa}with w:=G.w}else gT o.1 (dI (dH G.aa 0 (min o.2 G.aa.size))) {R with ac:=R.ac+G.ac,aI:=G.aa})
def ow(J Z v:Nat)(R:RS):Bool×RW:=if J=241 then fP R.ak Z v (bc Z R.w).2 else(true,(bc Z R.w).2)
def D3(run:RS->RS)(J Z v:Nat)(q o:Nat×Nat)(g:Nat)(R:RS):RS:=if (ow J Z v R).1=true then FR o (run (uT J Z v q g R (mB (bc Z R.w).2 (bc Z R.w).1).ae (ow J Z v R).2)) {R with ac:=R.ac-g}else eN 0 R
def Bu(run:RS->RS)(J gs Z v:Nat)(q o:Nat×Nat)(R:RS):RS:=if R.ao=0 then(if R.depth=16 then eN 0 {R with aI:=⟨#[]⟩}else D3 run J Z v q o (kB gs R) {R with aI:=⟨#[]⟩})else R
def calA(J:Nat)(R:RS)(K:Nat->Nat->Nat->Nat×Nat->Nat×Nat->RS->RS):RS:=du (dA (dU 100 R)) λgs R=>du (dA R) λZ R=>du (uS J R) λv R=>du (dA (vV v R)) λa R=>du (dA R) λn R=>du (dA R) λoa R=>du (dA R) λon R=>du (dJ a n R) λq R=>du (dJ oa on R) λo R=>K gs Z v q o R
def RR(run:RS->RS)(J:Nat)(R:RS):RS:=calA J R (Bu run J)
def FL(R:RS):Nat:=((bl R.ae).getD R.pc 0).toNat
def eE(run:RS->RS)(J p:Nat)(R:RS):RS:=
 if J=0 then{R with ao:=1}
 else if J<30 then Nh J R
 else if J<63 then lU J R
 else if J=80 then(dA (dU 2 R)).2
 else if J=81 then AD R
 else if J=82 then va 32 R
 else if J=83 then va 1 R
 else if J=84\/J=85\/J=92\/J=93 then rK J R
 else if 86<=J/\J<=91 then I1 J p R
 else if J=94 then lA ⟨#[]⟩ true false R
 else if 95<=J/\J<=159 then uI J R
 else if 160<=J/\J<=164 then Gf (J-160) R
 else if J=241\/J=244\/J=250 then RR run J R
 else if J=243 then yi 1 R
 else if J=253 then yi 2 R
 else fA R
def lH(run:RS->RS):Nat->RS->RS
 |0,R=>R
 |k+1,R=>if R.ao=0 then lH run k (eE run (FL R) R.pc {R with pc:=R.pc+1})else R
def EH(R:RS):RS:=if R.ao=3 then{R with ac:=0,aa:=⟨#[]⟩}else R
def iR:Nat->RS->RS
 |0,R=>R
 |d+1,R=>EH (lH (iR d) (R.ac+1) R)
theorem tS:∀(k:Nat)(C:Tl)(R:RS),Sm R (nR k C R).2
 |0,_,R=>Sm.refl R
 |k+1,C,R=>(ee R).trans (tS k _ _)
def nK{c:Prop}[Decidable c]{A B:RS}(D:Sm R A)(C:Sm R B):Sm R (if c then A else B):=by grind
def Gt(J:Nat)(R:RS):Sm R (uS J R).2:=by grind[uS,ee,Sm.refl]
def GI(v:Nat)(R:RS):Sm R (vV v R):=nK (Sm.refl R) ((kI 900 R).trans (E8 _))
def Sm.bT{S:RS}(h:Sm (dU n R) S)(C:S.ao≠3):S.ac+n<=R.ac:=by
 have D:=h.ac;by_cases E:R.ac<n
 .exact absurd (h.ov (by unfold dU;rw[At E];rfl)) C
 grind[dU]
def skey(s:Slt):Bool×Nat×Nat:=(s.br,s.aj,s.key)
def Cd(P:RW):=(∀p∈P.pu,p.ae.size<=1000)/\(P.pu.map (·.aj)).Pairwise (λa b=>gN a b=false)/\(P.sl.map skey).Pairwise (λq r=>ly r.1 r.2.1 r.2.2 ⟨q.2.1,q.2.2,0,q.1⟩=false)
def yc(p:Pur):Bool:= !decide (p.mo%M=0)|| !decide (p.ae.size=0)
def gF(P:RW):Nat:=P.pu.countP yc+P.sl.countP (λs=> !s.br)
structure Pot(R S:RS):Prop where
 ae:S.ae=R.ae
 data:S.data=R.data
 depth:S.depth=R.depth
 ac:S.ac<=R.ac
 pu:50*S.w.pu.length+S.ac<=50*R.w.pu.length+R.ac
 sl:100*S.w.sl.length+S.ac<=100*R.w.sl.length+R.ac
 lg:S.w.lg.length+S.ac<=R.w.lg.length+R.ac
 bp:Cd R.w->Cd S.w
 ct:200*gF S.w+S.ac<=200*gF R.w+R.ac
 aI:R.aI.size<=70000->S.aI.size<=70000
 aa:R.aa.size<=70000->S.aa.size<=70000
theorem Pot.refl(R:RS):Pot R R:=⟨W,W,W,DO _,DO _,DO _,DO _,id,DO _,id,id⟩
theorem Pot.trans{S T:RS}(h:Pot R S)(k:Pot S T):Pot R T:=⟨k.ae.trans h.ae,k.data.trans h.data,k.depth.trans h.depth,By k.ac h.ac,By k.pu h.pu,By k.sl h.sl,By k.lg h.lg,λe=>k.bp (h.bp e),By k.ct h.ct,λe=>k.aI (h.aI e),λe=>k.aa (h.aa e)⟩
def Sm.bj{S:RS}(h:Sm R S):Pot R S:=by have D:=hdw h.hd;have C:=h.ac;refine⟨ul h.hd,Pl h.hd,by have:=Xl RS.depth h.hd;exact this,C,by grind,by grind,by grind,by grind,by grind,by rw[hdb h.hd];exact id,by rw[h.aa];exact id⟩
structure Stp(R S:RS):Prop where
 bj:Pot R S
 dn:S.ao=0->S.ac<R.ac
 pc:S.ao=0->S.pc<=R.pc+32\/S.pc<=R.ae.size
theorem Sm.bk{S:RS}(h:Sm (dU n R) S)(hn:1<=n):Stp R S:=⟨((kI n R).trans h).bj,λC=>by have:=h.bT (by omega);omega,λC=>LZ (by have:=Xl RS.pc (h.hd.trans (vb n R));replace this:S.pc=R.pc:=this;omega)⟩
def Sm.cA{S T:RS}(h:Sm (dU n R) S)(hn:100<=n)(U:S.ao=0)(H:P.pu.length<=S.w.pu.length+2)(E:P.sl.length<=S.w.sl.length+1)(O:P.lg.length<=S.w.lg.length+1)(G:Cd S.w->Cd P)(I:200*gF P<=200*gF S.w+n)(X:Sm {S with w:=P} T):Stp R T:=by
 have Y:=h.bT (by omega);have C:=((kI n R).trans h)
 have Y:=hdw X.hd;replace Y:T.w=P:=Y;have V:T.ac<=S.ac:=X.ac;rw[hdw C.hd]at H E O G I;have Q:T.ae=S.ae:=ul (S:={S with w:=P}) X.hd;have hd:T.data=S.data:=Pl (S:={S with w:=P}) X.hd;have L:T.pc=S.pc:=by have:=Xl RS.pc X.hd;exact this
 have D:S.pc=R.pc:=by have:=Xl RS.pc C.hd;exact this
 refine⟨⟨Q.trans (ul C.hd),hd.trans (Pl C.hd),(show T.depth=S.depth by have:=Xl RS.depth X.hd;exact this).trans (show S.depth=R.depth by have:=Xl RS.depth C.hd;exact this),by omega,by grind,by grind,by grind,by grind,by grind,by rw[hdb (S:={S with w:=P}) X.hd,hdb C.hd];exact id,by rw[X.aa,C.aa];exact id⟩,λ_=>by omega,λ_=>LZ (by omega)⟩
def Stp.cM{S:RS}(h:Stp R S)(C:S.ao=0->p<=R.pc+32\/p<=R.ae.size):Stp R {S with pc:=p}:=⟨⟨h.bj.ae,h.bj.data,h.bj.depth,h.bj.ac,h.bj.pu,h.bj.sl,h.bj.lg,h.bj.bp,h.bj.ct,h.bj.aI,h.bj.aa⟩,h.dn,C⟩
theorem GX(ae:BA)(n:Nat):∀(f i:Nat),CC ae n f i=true->n<ae.size
 |0,_,h=>by cases h
 |f+1,i,h=>by
  unfold CC at h;split at h
  .rename_i C;split at h
   .omega
   exact GX _ n f _ h
  grind
theorem Ff{S:RS}(h:Sm (dU n R) S)(hn:1<=n):Stp R (ek a S):=by
 unfold ek;split
 .rename_i C;refine(h.bk hn).cM λ_=>A4 ?_;have:=GX _ _ _ _ C.2;rw[ul (h.hd.trans (vb n R))]at this;omega
 exact(h.trans (hM _)).bk hn
def qp(h:Cd P):Cd (bc a P).2:=by
 unfold bc;cases G:CE a P.pu with
 |some i=>exact h
 |none=>
  refine⟨λp D=>?_,?_,h.2.2⟩
  .rcases Xr.1 D with D|D
   .exact h.1 p D
   rw[BY.1 D];exact In _
  show((P.pu++[_]).map _).Pairwise _;rw[XP];refine XW.2 ⟨h.2.1,XO _ _,λb E c C=>?_⟩;obtain⟨p,D,rfl⟩:=Xq.1 E;rw[BY.1 C];exact Bool.eq_false_iff.2 (by simpa using Y9.1 G p D)
theorem lh(a:Nat)(P:RW):gF (bc a P).2=gF P:=by
 unfold bc;cases CE a P.pu with
 |some i=>rfl
 |none=>show(P.pu++[_]).countP yc+_=_;rw[List.countP_append,List.countP_singleton,show yc _=false by rfl];rfl
theorem kK(a:Nat)(P:RW):(bc a P).2.sl=P.sl/\(bc a P).2.lg=P.lg:=by grind[bc]
theorem Jp(h:Cd P):(mB P i).ae.size<=1000:=by
 by_cases C:i<P.pu.length
 .rw[sd C];exact h.1 _ (Ya C)
 unfold mB;rw[If,Ym (by omega)];exact In _
theorem map_set{α β:Type}{f:α->β}{l:List α}{a d:α}(h:f a=f (l.getD i d)):(l.set i a).map f=l.map f:=by refine List.ext_getElem? λj=>?_;grind
def Ux{v:Nat}(h:Cd P):Cd (gX i v P):=by
 refine⟨λp C=>?_,?_,h.2.2⟩
 .rcases List.mem_or_eq_of_mem_set C with C|rfl
  .exact h.1 p C
  grind[Jp]
 have e:(P.pu.set i {mB P i with mo:=v}).map (·.aj)=P.pu.map _:=map_set W;show((P.pu.set i _).map _).Pairwise _;rw[e];exact h.2.1
def JL{v:Nat}(C:i<P.pu.length):gF (gX i v P)<=gF P+1/\((v%M≠0->(mB P i).mo%M≠0)->gF (gX i v P)<=gF P):=by
 have D:0<P.pu.countP yc\/yc P.pu[i]=false:=by grind
 have e:gF (gX i v P)=P.pu.countP yc-(if yc P.pu[i]=true then 1 else 0)+(if yc {mB P i with mo:=v}=true then 1 else 0)+P.sl.countP (λs=> !s.br):=by show(P.pu.set i _).countP yc+_=_;rw[List.countP_set C];rfl
 rw[e];unfold gF;refine⟨by grind,λh=>?_⟩;cases D:yc P.pu[i]with
 |true=>grind
 |false=>simp_all[yc,mB,M]
def Sd(a:Nat)(P:RW):=∃p∈P.pu,gN p.aj a=true
theorem VS(h:Sd a P):(bc a P).2.pu.length=P.pu.length:=by let⟨p,C,e⟩:=h;grind[bc,CE]
theorem qT(a b:Nat)(h:Sd a P\/a=b):Sd a (bc b P).2:=by
 unfold bc;cases D:CE b P.pu with
 |some i=>
  rcases h with h|rfl
  .exact h
  let⟨C,e,_⟩:=YE.1 D;exact⟨_,Ya C,e⟩
 |none=>
  rcases h with⟨p,D,e⟩|rfl
  .exact⟨p,Xw _ D,e⟩
  exact⟨_,Xn _ (YL _),jg W⟩
theorem Tc{v:Nat}(h:Sd a P):Sd a (gX i v P):=by
 let⟨p,E,e⟩:=h;obtain⟨j,D,rfl⟩:=XU E;refine⟨_,Ya (show j<(P.pu.set i {mB P i with mo:=v}).length by rw[XE];exact D),?_⟩;rw[List.getElem_set];split
 .rename_i C;subst C;rwa[sd D]
 exact e
structure Mvd(P Q:RW):Prop where
 sl:Q.sl=P.sl
 lg:Q.lg=P.lg
 bp:Cd P->Cd Q
theorem Mvd.trans{Q S:RW}(h:Mvd P Q)(k:Mvd Q S):Mvd P S:=⟨k.sl.trans h.sl,k.lg.trans h.lg,λe=>k.bp (h.bp e)⟩
theorem mr(a:Nat)(P:RW):Mvd P (bc a P).2:=⟨(kK a P).1,(kK a P).2,qp⟩
def Ie(v:Nat):Mvd P (gX i v P):=⟨W,W,Ux⟩
def wW(f t v:Nat)(P:RW):Mvd P (fP f t v P).2/\(fP f t v P).2.pu.length<=P.pu.length+2/\(Sd t P->(fP f t v P).2.pu.length<=P.pu.length+1)/\gF (fP f t v P).2<=gF P+if v%M=0 then 0 else 1:=by
 let⟨G,L⟩:=iG f P;unfold fP;split
 .grind[mr,bc,gF,lh]
 rename_i C;have C:¬(mB _ _).mo%M<v%M:=λh=>C (OsQ h);generalize Q:ku ((mB (bc f P).2 (bc f P).1).mo%M) (v%M)=m;have Q:(gX (bc f P).1 m _).pu.length=(bc f P).2.pu.length:=XE;let⟨H,I⟩:=iG t (gX (bc f P).1 m (bc f P).2);refine⟨(((mr f P).trans (Ie m)).trans (mr t _)).trans (Ie _),?_,λO=>?_,?_⟩
 .show(List.set _ _ _).length<=_;grind
 .show(List.set _ _ _).length<=_;grind[XE,VS,Tc,qT]
 have c1:gF (gX (bc f P).1 m (bc f P).2)<=gF P:=by
  rw[<-lh f P];refine(JL G).2 λD e=>D ?_;have E:v%M=0:=by omega
  grind[ku]
 let⟨c2,c3⟩:=JL (v:=kQ ((mB (bc t (gX (bc f P).1 m (bc f P).2)).2 (bc t (gX (bc f P).1 m (bc f P).2)).1).mo%M) (v%M)) H;rw[lh]at c2 c3;show gF (gX _ _ _)<=_;split
 .rename_i E;refine By (c3 λD e=>D ?_) c1;rw[e,E];rfl
 omega
def Iq(J Z v:Nat)(R:RS):Mvd R.w (ow J Z v R).2/\(ow J Z v R).2.pu.length<=R.w.pu.length+2/\gF (ow J Z v R).2<=gF R.w+if v%M=0 then 0 else 1:=by
 have G:=(iG Z R.w).2;unfold ow;split
 .obtain⟨D,_,E,C⟩:=wW R.ak Z v (bc Z R.w).2;rw[lh]at C;exact⟨(mr Z _).trans D,By (E (qT Z Z (A4 W))) (by omega),C⟩
 grind[mr,bc,gF,lh]
def TJ(g:Nat)(R:RS):kB g R<=R.ac:=by grind[kB]
def paid2{A S:RS}{v:Nat}(G:Sm (dU 100 R) A)(C:Sm (vV v A) S)(E:S.ao≠3):S.ac+(if v%M=0 then 100 else 1000)<=R.ac:=by
 have H:=G.bT λe=>E (((GI v A).trans C).ov e);unfold vV at C;split
 .rename_i D;rw[At D]at C;have:=C.ac;omega
 rename_i D;rw[iF D]at C;have:=((E8 _).trans C).bT E;omega
def Ui{K:Nat->Nat->Nat->Nat×Nat->Nat×Nat->RS->RS}{Cq9:RS->Prop}(h:∀C Z v q o S,Sm (dU 100 R) S->q.1<=70000/\q.2<=70000->(S.ao≠3->S.ac+(if v%M=0 then 100 else 1000)<=R.ac)->Cq9 (K C Z v q o S)):Cq9 (calA J R K):=h _ _ _ _ _ _ (((((((((ee _).trans (ee _)).trans (Gt J _)).trans (GI _ _)).trans (ee _)).trans (ee _)).trans (ee _)).trans (ee _)).trans (gy _ _ _) |>.trans (gy _ _ _)) (uC _ _ _) (paid2 (((ee _).trans (ee _)).trans (Gt J _)) ((((((ee _).trans (ee _)).trans (ee _)).trans (ee _)).trans (gy _ _ _)).trans (gy _ _ _)))
def Px(x:∀G,Pot G (run G)):Stp R (RR run J R):=by
 refine Ui λC Z v q o S g hq H=>?_;unfold Bu;split;case isFalse=>exact g.bk (by omega)
 rename_i h0;have O:=(kI _ R).trans g;have hp:=g.bT (by omega);have u:=hdw O.hd;have t:S.pc=R.pc:=by have:=Xl RS.pc O.hd;exact this
 have Bp:S.depth=R.depth:=by have:=Xl RS.depth O.hd;exact this
 have Q:200*gF S.w+S.ac<=200*gF R.w+R.ac:=by grind
 have H:=H (by omega)
 -- a frame that has been given nothing aI
 have N:∀T:RS,T.ae=S.ae->T.data=S.data->T.depth=S.depth->T.pc=S.pc->T.ac<=S.ac->50*T.w.pu.length+T.ac<=50*S.w.pu.length+S.ac+100->100*T.w.sl.length+T.ac<=100*S.w.sl.length+S.ac->T.w.lg.length+T.ac<=S.w.lg.length+S.ac->(Cd S.w->Cd _)->200*gF _+T.ac<=200*gF _+R.ac->T.aI.size<=70000->T.aa=S.aa->Stp R T:=λT A s b k4 k5 k6 F k8 j f V d=>by rw[u]at k6 F k8 j;exact⟨⟨A.trans (ul O.hd),s.trans (Pl O.hd),b.trans Bp,by omega,by omega,by omega,by omega,j,f,λ_=>V,λe=>by rw[d,O.aa];exact e⟩,λ_=>by omega,λ_=>LZ (by omega)⟩
 have D:∀(n:Nat)(T:RS),T.ae=S.ae->T.data=S.data->T.depth=S.depth->T.pc=S.pc->T.ac<=S.ac->50*T.w.pu.length+T.ac<=50*S.w.pu.length+S.ac+100->100*T.w.sl.length+T.ac<=100*S.w.sl.length+S.ac->T.w.lg.length+T.ac<=S.w.lg.length+S.ac->(Cd S.w->Cd T.w)->200*gF T.w+T.ac<=200*gF R.w+R.ac->T.aI.size<=70000->T.aa=S.aa->Stp R (eN n T):=λn T=>by grind[eN,fA]
 split
 .exact D 0 _ W W W W (DO _) (by simp) (DO _) (DO _) id Q (In _) W
 generalize c:({S with aI:=⟨#[]⟩}:RS)=S2;have m:S2.w=S.w:=by rw[<-c]
 have e2:S2.ac=S.ac:=by rw[<-c]
 have e3:S2.depth=R.depth:=by rw[<-c];exact Bp
 have r:=TJ C S;unfold D3;let⟨L,X,E⟩:=Iq J Z v S2;split;case isFalse=>subst c;exact D 0 _ W W W W (DO _) (by show 50*S.w.pu.length+S.ac<=_;omega) (DO _) (DO _) id Q (In _) W
 generalize l:uT J Z v q (kB C S) S2 (mB (bc Z S2.w).2 (bc Z S2.w).1).ae (ow J Z v S2).2=G;have Y:G.ac=kB C S:=by rw[<-l];rfl
 have g2:G.w=(ow J Z v S2).2:=by rw[<-l];rfl
 have z:G.aa.size<=70000:=by rw[<-l];exact In _
 have I:=x G;have k:=I.ac;have p2:=I.pu;have U:=I.sl;have p4:=I.lg;rw[g2,Y]at p2 U p4;rw[Y]at k;rw[L.sl]at U;rw[L.lg]at p4;rw[m]at X E U p4;have K:=I.ct;rw[g2,Y]at K;have p7:200*gF (run G).w+(S.ac-kB C S+(run G).ac)<=200*gF R.w+R.ac:=by
  rw[u]at E;by_cases y:v%M=0
  .rw[At y]at E H;omega
  rw[iF y]at E H;omega
 unfold FR;split
 .subst c;exact D 0 _ W W W W (by show S.ac-_<=_;omega) (by show 50*S.w.pu.length+(S.ac-_)<=_;omega) (by show 100*S.w.sl.length+(S.ac-_)<=_;omega) (by show S.w.lg.length+(S.ac-_)<=_;omega) id (by show 200*gF S.w+(S.ac-_)<=_;omega) (In _) W
 split
 .subst c;exact D _ _ W W W W (by show S.ac-kB C S+(run G).ac<=_;omega) (by show 50*(run G).w.pu.length+(S.ac-kB C S+(run G).ac)<=_;omega) (by show 100*(run G).w.sl.length+(S.ac-kB C S+(run G).ac)<=_;omega) (by show(run G).w.lg.length+(S.ac-kB C S+(run G).ac)<=_;omega) (λh=>I.bp (by rw[g2];exact L.bp (by rw[m];exact h))) p7 (I.aa z) W
 subst c;exact D _ _ W W W W (by show S.ac-kB C S+(run G).ac<=_;omega) (by show 50*S.w.pu.length+(S.ac-kB C S+(run G).ac)<=_;omega) (by show 100*S.w.sl.length+(S.ac-kB C S+(run G).ac)<=_;omega) (by show S.w.lg.length+(S.ac-kB C S+(run G).ac)<=_;omega) id (by show 200*gF S.w+(S.ac-kB C S+(run G).ac)<=_;omega) (I.aa z) W
def VR(h:jj wk J F T=some (T',F')):T'=T\/∃D Z v data G,Fx F G/\G.ac<=F.ac/\data.size<=65536/\jV G T v=true/\(F.ro=true->v%M=0)/\T'=(wk (eu J D Z v data G T) T v G.ak Z).2:=by
 unfold jj at h;let⟨f,h⟩:=eS h;let⟨g,h⟩:=eS h;let⟨r3,h⟩:=eS h;let⟨V,h⟩:=eS h;let⟨Y,h⟩:=eS h;let⟨U,h⟩:=eS h;let⟨X,h⟩:=eS h;have j:P5 F (eb (eb (oK J F))):=((eQ F).next f).trans (((eQ _).next g).trans (((I7 J).next r3).trans (((eQ _).next V).trans (((eQ _).next Y).trans (((eQ _).next U).trans ((eQ _).next X))))));generalize eb (eb (oK J F))=g at*;unfold CP at h;cases f:pd (dV (eZ J (eb F))) g with
 |none=>rw[f]at h;cases h
 |some y=>
  let⟨u,F8⟩:=y;rw[f]at h;have l:F.ro=true->dV (eZ J (eb F))%M=0:=λP=>by
   unfold pd at f;split at f
   .assumption
   rw[At (j.fx.ro.trans P)]at f;cases f
  have L:P5 F F8:=by
   refine j.trans ?_;unfold pd at f;split at f
   .exact PF5.ak g () _ _ f
   split at f
   .cases f
   exact AJ g _ _ f
  dsimp only at h;unfold mF at h;split at h
  .cases h
  rename_i a b E R;split at h
  .cases h
  rename_i c d F10 Q;have H:P5 F F10:=L.trans ((iH _ _ _ _ R).trans (iH _ _ _ _ Q));have O:(dI (dM E.mem a b)).size<=65536:=By (mQ) (ux R);have C:=H.fx;unfold um at h;split at h
  .rename_i I;refine A4 ⟨eP F,eV F,dV (eZ J (eb F)),dI (dM E.mem a b),{F10 with ret:=⟨#[]⟩},⟨C.ae,C.data,C.depth,C.ak,C.ax,C.value,C.ro⟩,H.bB.1,O,I,l,?_⟩;match ji {({F10 with ret:=⟨#[]⟩}:Fz)with ac:=F10.ac-eA {F10 with ret:=⟨#[]⟩} (eP F)} (wk (eu J (eP F) (eV F) (dV (eZ J (eb F))) (dI (dM E.mem a b)) {F10 with ret:=⟨#[]⟩} T) T (dV (eZ J (eb F))) F10.ak (eV F)).1.st (wk (eu J (eP F) (eV F) (dV (eZ J (eb F))) (dI (dM E.mem a b)) {F10 with ret:=⟨#[]⟩} T) T (dV (eZ J (eb F))) F10.ak (eV F)).1.ac (wk (eu J (eP F) (eV F) (dV (eZ J (eb F))) (dI (dM E.mem a b)) {F10 with ret:=⟨#[]⟩} T) T (dV (eZ J (eb F))) F10.ak (eV F)).1.aa c d,h with
   |none,h=>cases h
   |some y,h=>exact((Xi (hV h)).1).symm
  refine LZ ?_;match dB 0 {F10 with ret:=⟨#[]⟩},h with
  |none,h=>cases h
  |some y,h=>exact((Xi (hV h)).1).symm
def SW(h:mh wk F T=some (F',T')):T'=T\/(F.ro=false/\((∃l c,(l=1\/l=2)/\(l=1->kv F=85)/\T'=iZ T l F.ak (eP (eG F c)) (eV (eG F c)))\/∃L,T'={T with ay:=T.ay++[L]}/\L.aM.length<=4))\/∃D Z v data G,Fx F G/\G.ac+100<=F.ac/\data.size<=65536/\jV G T v=true/\(F.ro=true->v%M=0)/\T'=(wk (eu (kv F) D Z v data G T) T v G.ak Z).2:=by
 unfold mh at h;cases q:eF (kv F)with
 |none=>rw[q]at h;cases h
 |some c=>
  rw[q]at h;dsimp only at h;split at h
  .cases h
  rename_i V;have V:c<=F.ac:=by omega
  unfold vW at h;have H:∀l,(l=1\/l=2)->(l=1->kv F=85)->iP l (eG F c) T=some (F',T')->(F.ro=false/\((∃l c,(l=1\/l=2)/\(l=1->kv F=85)/\T'=iZ T l F.ak (eP (eG F c)) (eV (eG F c)))\/∃L,T'={T with ay:=T.ay++[L]}/\L.aM.length<=4)):=by
   intro l Q R h;unfold iP at h;split at h
   .cases h
   rename_i C;have C:¬F.ro=true:=C;have C:F.ro=false:=by simpa using C
   refine⟨C,LZ ⟨l,c,Q,R,?_⟩⟩;match dX (db (eG F c)) (dX (db (da (db (eG F c)))) (some ((),eb (eG F c)))),h with
   |none,h=>cases h
   |some y,h=>exact((Xi (hV h)).2).symm
  split at h
  .exact LZ (fI h).2
  split at h
  .exact LZ (fI h).2
  split at h
  .exact LZ (fI h).2
  split at h
  .unfold xz at h;split at h
   .rename_i P;exact A4 (LZ (H 1 (LZ W) (λ_=>P) h))
   split at h
   .exact A4 (LZ (H 2 (A4 W) (λe=>by cases e) h))
   exact LZ (fI h).2
  split at h
  .exact LZ (fI h).2
  split at h
  .exact LZ (fI h).2
  split at h
  .exact LZ (fI h).2
  split at h
  .rename_i U;have h:=tP h;unfold rJ at h;split at h
   .cases h
   rename_i C;have C:¬F.ro=true:=C;have C:F.ro=false:=by simpa using C
   refine A4 (LZ ⟨C,A4 ?_⟩);let⟨u,h⟩:=eS h;let⟨z,h⟩:=eS h;have l:P5 (eG F c) (eb (eG F c)):=((eQ _).next u).trans ((eQ _).next z);unfold xL at h;split at h
   .cases h
   rename_i m p E;unfold yP at h;split at h
   .cases h
   rename_i a b o I;split at h
   .cases h
   obtain⟨rfl,rfl⟩:=Xi (hV h);have f:=l.trans (wH _ _ _ _ E);exact⟨_,W,by show m.length<=4;rw[lj E];omega⟩
  split at h
  .rename_i O;have X:c=100:=by rcases O with e|e|e<;>(rw[e]at q;exact(hV q).symm)
   rcases VR (tP h)with e|⟨D,Z,v,data,G,E,I,g,Y,d,j⟩
   .exact LZ e
   have I:G.ac<=F.ac-c:=I;exact A4 (A4 ⟨D,Z,v,data,G,⟨E.ae,E.data,E.depth,E.ak,E.ax,E.value,E.ro⟩,by omega,g,Y,d,j⟩)
  exact LZ (fI h).2
def ks(a:Nat)(P:RW):Pur:=((P.pu.find? λp=>gN p.aj a).getD ⟨a,0,⟨#[]⟩⟩)
theorem xP(h:a%M=b%M):gN c a=gN c b:=by grind[gN]
theorem iw:gN a b=true↔a%M=b%M:=by grind[gN]
theorem AU{p:Pur->Bool}:∀(l:List Pur)(d:Pur),(∃i,l.findIdx? p=some i/\i<l.length/\l.find? p=some (l.getD i d))\/(l.findIdx? p=none/\l.find? p=none)
 |[],_=>A4 ⟨W,W⟩
 |q::l,d=>by
  rw[Z1,X0];cases C:p q with
  |true=>simp
  |false=>
   rcases AU (p:=p) l d with⟨i,C,D,E⟩|⟨C,D⟩
   .grind
   grind
structure RelW(T:TS)(P:RW):Prop where
 ai:∀a,(T.aw a).ai=(ks a P).mo
 ae:∀a,(T.aw a).ae=(ks a P).ae
 aK:∀a k,(T.aw a).ar k=fu false a k P
 aP:∀a k,T.aP a k=fu true a k P
 lg:T.ay=P.lg
 lt:∀a,(T.aw a).ai<M
def qG(a b:Nat)(P:RW):(ks b (bc a P).2).mo=(ks b P).mo/\(ks b (bc a P).2).ae=(ks b P).ae:=by grind[bc,CE,gN,ks]
def mi(a:Nat)(P:RW):(mB (bc a P).2 (bc a P).1)=ks a P:=by
 unfold bc CE mB ks;rcases AU (p:=λp=>gN p.aj a) P.pu ⟨0,0,⟨#[]⟩⟩with⟨i,C,D,E⟩|⟨C,D⟩
 .grind
 grind
def RelW.bX(h:RelW T P)(a:Nat):RelW T (bc a P).2:=by
 let⟨C,s2⟩:=kK a P;refine⟨λb=>by rw[(qG a b P).1];exact h.ai b,λb=>by rw[(qG a b P).2];exact h.ae b,λb k=>?_,λb k=>?_,by rw[s2];exact h.lg,h.lt⟩
 .unfold fu;rw[C];exact h.aK b k
 unfold fu;rw[C];exact h.aP b k
theorem Ar{p:Pur->Bool}{m:Nat}(E:∀(q:Pur),p {q with mo:=m}=p q):∀(l:List Pur)(i:Nat)(d:Pur),l.findIdx? p=some i->(l.set i {l.getD i d with mo:=m}).find? p=(l.find? p).map λq=>{q with mo:=m}
 |[],i,_,h=>by cases h
 |q::l,i,d,h=>by
  rw[Z1]at h;cases G:p q with
  |true=>grind
  |false=>
   rw[G]at h;obtain⟨j,C,rfl⟩:∃j,l.findIdx? p=some j/\j+1=i:=by simp_all
   have D:=Ar E l j d C;grind
theorem yu{p r:Pur->Bool}{m:Nat}(H:∀(q:Pur),r {q with mo:=m}=r q)(E:∀s,p s=true->r s=false):∀(l:List Pur)(i:Nat)(d:Pur),l.findIdx? p=some i->(l.set i {l.getD i d with mo:=m}).find? r=l.find? r
 |[],i,_,h=>by cases h
 |q::l,i,d,h=>by
  rw[Z1]at h;cases G:p q with
  |true=>grind
  |false=>
   rw[G]at h;obtain⟨j,C,rfl⟩:∃j,l.findIdx? p=some j/\j+1=i:=by simp_all
   have D:=yu H E l j d C;grind
def Ir(a n b:Nat)(P:RW):ks b (gX (bc a P).1 n (bc a P).2)=if a%M=b%M then{ks a P with mo:=n}else ks b (bc a P).2:=by
 have C:CE a (bc a P).2.pu=some (bc a P).1:=by
  unfold bc;cases h:CE a P.pu with
  |some i=>exact h
  |none=>show CE a (P.pu++[_])=_;unfold CE at h⊢;rw[List.findIdx?_append,h];simp[jg,Z1]
 have H:(bc a P).2.pu.find? (λp=>gN p.aj a)=some (ks a P):=by
  rcases AU (p:=λp=>gN p.aj a) (bc a P).2.pu ⟨0,0,⟨#[]⟩⟩with⟨i,D,E,G⟩|⟨D,E⟩
  .rw[G];have:i=(bc a P).1:=by grind[CE]
   rw[this];exact Xl _ (mi a P)
  grind[CE]
 show(((bc a P).2.pu.set (bc a P).1 {(bc a P).2.pu.getD (bc a P).1 ⟨0,0,⟨#[]⟩⟩with mo:=n}).find? λp=>gN p.aj b).getD ⟨b,0,⟨#[]⟩⟩=_;by_cases e:a%M=b%M
 .rw[At e,funext λp=>xP e.symm,Ar (λ_=>W) _ _ _ C,H];rfl
 rw[iF e,yu (λ_=>W) (λs D=>?_) _ _ _ C]
 .rfl
 rw[Bool.eq_false_iff];grind[iw]
def RelW.pay(h:RelW T P)(E:fB T)(a n:Nat)(hn:n<M):RelW (iZ T 0 a 0 n) (gX (bc a P).1 n (bc a P).2):=by
 let⟨D,s2⟩:=kK a P;have C:∀m,(iZ T 0 a 0 n).aw m=if m%M=a%M then{T.aw a with ai:=n}else T.aw m:=λm=>W;refine⟨λb=>?_,λb=>?_,λb k=>?_,λb k=>?_,?_,λb=>?_⟩
 .rw[Ir,C];by_cases e:b%M=a%M
  .grind
  rw[iF e,iF (λh=>e h.symm),(qG a b P).1];exact h.ai b
 .rw[Ir,C];by_cases e:b%M=a%M
  .rw[At e,At e.symm];exact h.ae a
  rw[iF e,iF (λh=>e h.symm),(qG a b P).2];exact h.ae b
 .rw[C];show _=fu false b k {(bc a P).2 with pu:=_};unfold fu;show _=(match(bc a P).2.sl.find? (ly false b k)with|some s=>s.val|none=>0);rw[D];by_cases e:b%M=a%M
  .rw[At e];show(T.aw a).ar k=_;rw[<-E b a e];exact h.aK b k
  rw[iF e];exact h.aK b k
 .show T.aP b k=_;unfold fu;show _=(match(bc a P).2.sl.find? (ly true b k)with|some s=>s.val|none=>0);rw[D];exact h.aP b k
 .show T.ay=(bc a P).2.lg;rw[s2];exact h.lg
 rw[C];split
 .exact hn
 exact h.lt b
def RelW.move(h:RelW T P)(G:fB T)(fr Z v:Nat):(fP fr Z v P).1=decide (v%M<=(T.aw fr).ai%M)/\((fP fr Z v P).1=true->RelW (fU T v fr Z) (fP fr Z v P).2):=by
 unfold fP;rw[(show(mB (bc fr P).2 (bc fr P).1).mo=(T.aw fr).ai by rw[mi,h.ai])];by_cases E:iX (T.aw fr).ai v=true
 .grind[iX]
 rw[iF E];unfold iX at E;have E:¬((T.aw fr).ai%M<v%M):=λh=>E (OsQ h);refine⟨(OsQ (by omega)).symm,λ_=>?_⟩;have C:=h.pay G fr (ku ((T.aw fr).ai%M) (v%M)) (TN);have D:(mB (bc Z (gX (bc fr P).1 (ku ((T.aw fr).ai%M) (v%M)) (bc fr P).2)).2 (bc Z (gX (bc fr P).1 (ku ((T.aw fr).ai%M) (v%M)) (bc fr P).2)).1).mo=((nN T v fr).aw Z).ai:=by rw[mi Z (gX (bc fr P).1 (ku ((T.aw fr).ai%M) (v%M)) (bc fr P).2)];exact(C.ai Z).symm
 rw[D];exact C.pay ((qS G 0 fr 0 _).2) Z _ (Rw)
def Dk(C:fB T)(a:Nat)(hn:n=(T.aw a).ai):(iZ T 0 a 0 n).aw=T.aw:=by
 funext m;show(if m%M=a%M then{T.aw a with ai:=n}else T.aw m)=_;by_cases e:m%M=a%M
 .rw[At e,hn,C m a e]
 grind
def RelW.move0(h:RelW T P)(G:fB T)(fr Z v:Nat)(E:v%M=0):RelW (fU T v fr Z) P:=by
 have H:ep 3 ((T.aw fr).ai%M) (v%M) 0=(T.aw fr).ai:=by show ku _ _=_;unfold ku;rw[E,Nat.sub_zero,Nat.add_mod_right,Yu,WZ (h.lt fr)]
 have D:(nN T v fr).aw=T.aw:=Dk G fr H;have H:ep 1 (((nN T v fr).aw Z).ai%M) (v%M) 0=((nN T v fr).aw Z).ai:=by show kQ _ _=_;unfold kQ;rw[E,Ye,Yu,D,WZ (h.lt Z)]
 have C:(fU T v fr Z).aw=T.aw:=(Dk ((qS G 0 fr 0 _).2) Z H).trans D;refine⟨λa=>by rw[C];exact h.ai a,λa=>by rw[C];exact h.ae a,λa k=>by rw[C];exact h.aK a k,h.aP,h.lg,λa=>by rw[C];exact h.lt a⟩
def zq(p:Slt->Bool)(v:Nat)(s0:Slt):List Slt->List Slt
 |[]=>[s0]
 |s::l=>if p s=true then{s with val:=v}::l else s::zq p v s0 l
theorem MG(p:Slt->Bool)(v:Nat)(s0:Slt):∀l:List Slt,(match l.findIdx? p with|some i=>l.set i {l.getD i ⟨0,0,0,false⟩with val:=v}|none=>l++[s0])=zq p v s0 l
 |[]=>rfl
 |s::l=>by
  rw[Z1,zq];cases h:p s with
  |true=>rfl
  |false=>rw[<-MG p v s0 l];grind
theorem Fp{p:Slt->Bool}{v:Nat}{s0:Slt}(C:p s0=true/\s0.val=v)(G:∀(s:Slt),p {s with val:=v}=p s):∀l:List Slt,∃s,(zq p v s0 l).find? p=some s/\s.val=v
 |[]=>⟨s0,by grind[zq],C.2⟩
 |s::l=>by
  rw[zq];by_cases h:p s=true
  .grind
  rw[iF h];let⟨r,E,D⟩:=Fp C G l;grind
theorem zD{p q:Slt->Bool}{v:Nat}{s0:Slt}(C:q s0=false)(E:∀(s:Slt),q {s with val:=v}=q s)(D:∀s,p s=true->q s=false):∀l:List Slt,(zq p v s0 l).find? q=l.find? q
 |[]=>by grind[zq]
 |s::l=>by
  rw[zq];by_cases h:p s=true
  .grind
  rw[iF h,X0,X0,zD C E D l]
def IP(br:Bool)(a k v:Nat)(P:RW):mT br a k v P={P with sl:=zq (ly br a k) v ⟨a,k,v,br⟩ P.sl}:=by grind[mT,MG,ly]
theorem tw(C:a%M=b%M)(D:k%M=j%M):ly br a k=ly br b j:=by grind[ly,xP]
def fl(br c:Bool)(a k v b j:Nat)(P:RW):fu c b j (mT br a k v P)=if c=br/\b%M=a%M/\j%M=k%M then v else fu c b j P:=by
 rw[IP];unfold fu;dsimp only;by_cases h:c=br/\b%M=a%M/\j%M=k%M
 .rw[At h];obtain⟨rfl,D,C⟩:=h;rw[tw D C];let⟨s,E,J⟩:=Fp (p:=ly c a k) (v:=v) (s0:=⟨a,k,v,c⟩) ⟨by simp[ly,jg],W⟩ (λ_=>W) P.sl;grind
 rw[iF h];have L:∀s,ly br a k s=true->ly c b j s=false:=λs L=>by unfold ly at*;simp at L;let⟨D,C,E⟩:=L;rw[Bool.eq_false_iff];intro G;simp at G;let⟨H,I,n3⟩:=G;exact h ⟨H.symm.trans D,(iw.1 I).symm.trans (iw.1 C),(iw.1 n3).symm.trans (iw.1 E)⟩
 grind[zD,ly,jg]
def qt(a k v b:Nat)(P:RW):ks b (mT br a k v P)=ks b P/\(mT br a k v P).lg=P.lg:=by rw[IP];exact⟨W,W⟩
structure CongX(T:TS):Prop where
 aw:fB T
 aK:∀a k j,k%M=j%M->(T.aw a).ar k=(T.aw a).ar j
 aP:∀a b k j,a%M=b%M->k%M=j%M->T.aP a k=T.aP b j
def RelW.aO(h:RelW T P)(E:fB T):CongX T:=⟨E,λa k j e=>by rw[h.aK,h.aK];grind[fu,tw],λa b k j C D=>by rw[h.aP,h.aP];grind[fu,tw]⟩
def RelW.put(h:RelW T P)(E:fB T)(br:Bool)(a k v:Nat):RelW (iZ T (if br=true then 2 else 1) a k v) (mT br a k v P):=by
 cases br with
 |true=>
  show RelW (iZ T 2 a k v) _;refine⟨λb=>by rw[(qt a k v b P).1];exact h.ai b,λb=>by rw[(qt a k v b P).1];exact h.ae b,λb j=>?_,λb j=>?_,by rw[(qt a k v 0 P).2];exact h.lg,h.lt⟩
  .rw[fl,iF (λh=>by cases h.1)];exact h.aK b j
  rw[fl];show(if b%M=a%M/\j%M=k%M then v else T.aP b j)=_;by_cases e:b%M=a%M/\j%M=k%M
  .grind
  rw[iF e,iF (λh=>e h.2)];exact h.aP b j
 |false=>
  have C:∀m,(iZ T 1 a k v).aw m=if m%M=a%M then{T.aw a with ar:=lE (T.aw a).ar k v}else T.aw m:=λm=>W;show RelW (iZ T 1 a k v) _;refine⟨λb=>?_,λb=>?_,λb j=>?_,λb j=>?_,by rw[(qt a k v 0 P).2];exact h.lg,λb=>?_⟩
  .rw[(qt a k v b P).1,C];by_cases e:b%M=a%M
   .rw[At e,<-h.ai b,E b a e]
   rw[iF e];exact h.ai b
  .rw[(qt a k v b P).1,C];by_cases e:b%M=a%M
   .rw[At e,<-h.ae b,E b a e]
   rw[iF e];exact h.ae b
  .rw[fl,C];by_cases e:b%M=a%M
   .rw[At e];show(if j%M=k%M then v else(T.aw a).ar j)=_;by_cases D:j%M=k%M
    .grind
    rw[iF D,iF (λh=>D h.2.2),<-E b a e];exact h.aK b j
   rw[iF e,iF (λh=>e h.2.1)];exact h.aK b j
  .rw[fl,iF (λh=>by cases h.1)];exact h.aP b j
  rw[C];by_cases e:b%M=a%M
  .rw[At e];exact h.lt a
  rw[iF e];exact h.lt b
def Un(T T':TS):=∃l l',T'.ch=T.ch++l/\T'.ay=T.ay++l'/\(jo l T').aw=T.aw/\(jo l T').aP=T.aP
theorem Un.refl(T:TS):Un T T:=⟨[],[],by simp,by simp,W,W⟩
def Qa{C V:TS}(E:C.aw=V.aw)(D:C.aP=V.aP)(k a N v:Nat):(jK C k a N v).aw=(jK V k a N v).aw/\(jK C k a N v).aP=(jK V k a N v).aP:=by grind[jK]
theorem uL:∀(l:List Chg){C V:TS},C.aw=V.aw->C.aP=V.aP->(jo l C).aw=(jo l V).aw/\(jo l C).aP=(jo l V).aP
 |[],_,_,h1,h2=>⟨h1,h2⟩
 |c::r,_,_,h1,h2=>Qa (uL r h1 h2).1 (uL r h1 h2).2 c.kind c.aj c.key c.bA
theorem wT:∀(l C:List Chg)(T:TS),jo (l++C) T=jo l (jo C T)
 |[],_,_=>rfl
 |c::r,C,T=>Xl (λD=>jK D c.kind c.aj c.key c.bA) (wT r C T)
theorem Un.trans{C V:TS}(h:Un T C)(k:Un C V):Un T V:=by let⟨l,m,O,J,Q,L⟩:=h;let⟨E,G,H,I,D,k4⟩:=k;have R:=uL l D k4;exact⟨l++E,m++G,by grind,by grind,by grind[wT],by grind[wT]⟩
theorem Un.set(E:CongX T)(k a N v:Nat):Un T (iZ T k a N v):=by
 refine⟨_,[],(uh k a v).1,by rw[YQ];exact(tq T k a _ v).2,?_,?_⟩
 .funext m;show(jK (iZ T k a N v) k a N (xX T k a N)).aw m=_;unfold iZ jK xX;by_cases k0:k=0
  .simp only[At k0];show fQ (fQ T.aw a _) a _ m=_;by_cases e:m%M=a%M
   .rw[jC e,jC W,E.aw m a e]
   grind[iV]
  simp only[iF k0];by_cases C:k=1
  .simp only[At C];show fQ (fQ T.aw a _) a _ m=_;by_cases e:m%M=a%M
   .rw[jC e,jC W,E.aw m a e];show({T.aw a with ar:=lE (lE (T.aw a).ar N v) N ((T.aw a).ar N)}:Acc)=T.aw a;have:lE (lE (T.aw a).ar N v) N ((T.aw a).ar N)=(T.aw a).ar:=by
     funext q;unfold lE;by_cases D:q%M=N%M
     .rw[At D];exact E.aK a _ q D.symm
     grind
    rw[this]
   grind[iV]
  grind
 funext b q;show(jK (iZ T k a N v) k a N (xX T k a N)).aP b q=_;unfold iZ jK xX;by_cases k0:k=0
 .grind
 simp only[iF k0];by_cases C:k=1
 .grind
 simp only[iF C];by_cases e:b%M=a%M/\q%M=N%M
 .rw[At e];exact E.aP _ _ _ _ e.1.symm e.2.symm
 rw[iF e,iF e]
def Un.aI(h:Un T T'):CY T' T.ch.length T.ay.length=T:=by let⟨l,m,E,C,G,D⟩:=h;simp_all[CY,jo]
def NG:prog.cellsOf 5=1:=by kernel_rfl
def Su:(prog.info? 5).map (·.size)=some 1:=by kernel_rfl
def ty_u8s:prog.underlying 26=some (.slice 5):=by kernel_rfl
def ty_pu8:prog.underlying 253=some (.pointer 5):=by kernel_rfl
def Dx(s:BA)(J:s.size≠0)(V:s.size<=100000)(w:WD):cP 146 #[.string s] w (rT (.string s) w):=by
 have O:=oE s.size (by omega);have R:(madeCells #[iB 0] s.size).size=s.size:=by simp[size_madeCells]
 generalize madeCells #[iB 0] s.size=V at*;have D:=Lib.run_copy_row_string (P:=prog) (w.alloc (.cells V 5)) 26 9 3 5 w.heap.size 0 s.size s.size s V 5 ty_u8s Su (qae w _) (DO _) (by omega);have C:(V.toList.take 0++Lib.byteCells s.data.toList++V.toList.drop (0+s.size)).toArray=(Lib.byteCells s.data.toList).toArray:=by rw[Y3,XG,Y0 (by rw[ZI];omega),YQ]
 rw[C]at D;have I:(Lib.byteCells s.data.toList).toArray.size=s.size:=by rw[YU,Lib.byteCells_length,<-Lib.size_eq]
 have E:=qab (w.alloc (.cells V 5)) w.heap.size V (Lib.byteCells s.data.toList).toArray 5 (0,0) (qae w _);have G:=Lib.run_unsafeString_row (P:=prog) ((w.alloc (.cells V 5)).setRow w.heap.size (Lib.byteCells s.data.toList).toArray) 253 3 9 5 ty_pu8 NG w.heap.size (Lib.byteCells s.data.toList).toArray.size (by unfold World.shape?;rw[E]) s.data.toList (λe=>J (by rw[Lib.size_eq,e];rfl)) (by rw[<-Lib.size_eq];omega) (by rw[<-Lib.size_eq];omega)
  (λj x Q=>Lib.cells_of_row E (Lib.byteCells s.data.toList).toArray.size j _ (by rw[XA (by simp)];simp[Lib.byteCells,Q]))
 rw[<-Lib.size_eq]at G;have H:bW w ((w.alloc (.cells V 5)).setRow w.heap.size (Lib.byteCells s.data.toList).toArray):=(ai (dO _ w) _).trans ⟨W,W,W,by simp,λk V=>setRow_other _ _ _ _ (by omega)⟩;have L:=cV (Lib.below_freeze H (p:=⟨w.heap.size,0,none⟩) (DO _) s.size);have U:((s.size:Int)==0)=false:=by rw[Xb];omega
 clear H E C;generalize(Lib.byteCells s.data.toList).toArray=Yq9 at*;go_enter func146,ntmps146;go_wp2;go_ret;exact⟨W,L⟩
def J2{s:BA}(H:s.size<=100000):cP 82 #[.string s] w (rT (.string s) w):=by
 have D:Hd (cP 146 #[.string s] w (rT (.string s) w)):=by
  by_cases C:s.size=0
  .obtain rfl:s=⟨#[]⟩:=ByteArray.ext (Array.eq_empty_of_size_eq_zero C);show Calls _ _ _ _ _;go_enter func146,ntmps146;go_wp2;go_ret;exact⟨W,dO _ _⟩
  exact Dx s C H w
 go_enter func82,ntmps82;go_wp2_with fail
 refine D.mono ?_;rintro e G⟨rfl,H⟩;have E:=cV H;clear H D;go_wp2;go_ret;exact⟨W,E⟩
def noA:Nat->Acc:=λ_=>⟨0,⟨#[]⟩,λ_=>0⟩
def A7(m:Nat):(noA m).no:=⟨W,W,λ_=>W⟩
def J1(w:WD):Accs w.heap.size 0 noA (λ_=>.map none) (w.alloc (.map #[] 0)):=⟨⟨_,AM.bS w,λm=>⟨λ_=>W,λh=>absurd (A7 m) h⟩⟩,λm h=>absurd (A7 m) h,λm C b h=>absurd (A7 m) h,λm C e=>⟨W,W⟩⟩
def pe(l:List (Nat×Nat)):Vq:=l.foldl (λs p=>lE s p.1 p.2) (λ_=>0)
def ri(a:AcE):Acc:=⟨a.ai,a.ae,pe a.ar⟩
def jO(l:List AcE):Nat->Acc:=l.foldl (λA a=>fQ A a.aj (ri a)) noA
def FQ{l:List (Nat×Nat)}(h:j<l.length):pe (l.take (j+1))=lE (pe (l.take j)) l[j].1 l[j].2:=by rw[XR h];unfold pe;rw[List.foldl_append];rfl
def EB{l:List AcE}(h:j<l.length):jO (l.take (j+1))=fQ (jO (l.take j)) l[j].aj (ri l[j]):=by rw[XR h];unfold jO;rw[List.foldl_append];rfl
def PhK(R:X4)(w:WD):Nat->X4
 |0,x=>bW w x
 |_+1,x=>R x
def wt{R:X4}(h:PhK R w k x)(C:k<=0):bW w x:=by
 obtain rfl:k=0:=by omega
 exact h
def Sc{R:X4}(C:∀x x',R x->bW x x'->R x')(k:Nat)(x x':WD)(h:PhK R w k x)(D:bW x x'):PhK R w k x':=by
 match k,h with
 |0,h=>exact(h).trans (D.mono (h).size)
 |_+1,h=>exact C x x' h D
def vD(ab n:Nat)(A:Nat->Acc)(w y:WD):=(∃sb,Accs ab n A sb y/\∀k,fZ ab A sb k->ab<=k)/\bW w y
def Oi{D:Nat}{C:WD}(V:ab=w.heap.size)(O:Accs ab n A sb C)(I:∀k,fZ ab A sb k->ab<=k/\k<D)(H:bW w C)(a:AcE)(Q:AM C D n (gh (pe a.ar)))(X:ab<D)(hn:n<=100)(hz:Zr w)(U:bW C x):cP 81 #[.map (some ab),wv a.aj,iu a.ai a.ae (.map (some D))] x λe w'=>e=AG/\vD ab (n+1) (fQ A a.aj (ri a)) w w':=by
 have G:=H.trans (U.mono H.size);have R:=Kb.h (S:=[]) U;refine(BT (ri a) _ x ((O.kb R (by simp)).x _) (A4 ⟨_,W,by omega,Q.kb R (by simp)⟩) (λm b _ P J E=>?_) (by omega) (hz.below G)).mono ?_
 .injection E with E;injection E with E;have:=(I b (A4 ⟨m,P,J⟩)).2;omega
 rintro e y⟨P,J,E⟩;refine⟨P,⟨_,J,λk Z=>?_⟩,?_⟩
 .rcases Z with e|⟨m,q1,q2⟩
  .omega
  unfold fQ at q1 q2;split at q2
  .grind
  rename_i L;rw[iF L]at q1;exact(I k (A4 ⟨m,q1,q2⟩)).1
 exact((Kb.h G).trans E (λi Y=>A4 (by grind))).bK
def O9(l:List AcE)(w:WD)(h:AcIn w v l)(hz:Zr w)(hl:l.length<=8)(hr:∀a∈l,a.ae.size<=1000/\a.ar.length<=20/\∀p∈a.ar,p.2%M≠0):Calls prog 56 #[v] w λe w'=>e=.returned (.map (some w.heap.size))/\∃n,n<=40/\vD w.heap.size n (jO l) w w':=by
 obtain⟨ad,cp,rfl,h2⟩:=h;obtain⟨L,HL⟩:=dP l.length;rw[<-HL.aa];have hl8:L<=8:=by rw[HL.aa];exact hl
 have hmm:=@run_makeMap prog;have HS:=cV h2;have HZ:=cV hz;have HR:=cV hr;clear h2 hz hr hl;go_enter func56,ntmps56;go_wp2
 go_loopw[12] (λd8 wr=>∃i:Nat,i<=L/\d8=.int .i64 (i:Int)/\Hd (vD w.heap.size (20+i) (jO (l.take i)) w wr)/\Hd (w.heap.size<wr.heap.size)) (λd8 _=>L-nI d8)
 case atStart=>exact⟨0,In _,W,⟨⟨_,(J1 w).mono (by omega),λk r=>by
  rcases r with e|⟨m,z,_⟩
  .omega
  .exact absurd (A7 m) z⟩,ai (dO _ w) _⟩,by show _<_;simp⟩
 case round=>
  obtain⟨i,hi,rfl,HK,d9⟩:=hrel;obtain⟨D,rfl⟩:=hJ wr;by_cases a7:i<L
  .have hd2:=dN i L;obtain⟨g,o,rfl,a6,f⟩:=HS.aa.resolve_left (λe=>by rw[HL.aa,e]at a7;exact absurd a7 (by simp));have t:i<l.length:=by rw[<-HL.aa];exact a7
   obtain⟨a,HA⟩:∃a,Hd (a=l[i]):=⟨_,cV W⟩;obtain⟨sl,hc,e5⟩:=f i l[i] (iN t);rw[<-HA.aa]at hc e5;obtain⟨I,J,rfl,a5⟩:=e5;have T:=cV (HR.aa _ (Ya t));rw[<-HA.aa]at T;have e3:=cV (EB t);rw[<-HA.aa]at e3;obtain⟨a9,C,E,u⟩:=a;obtain⟨n2,Y⟩:=dP u.length;dsimp only at hc a5 T e3;rw[<-Y.aa]at hc;have hn20:n2<=20:=by rw[Y.aa];exact T.aa.2.1
   have Z:∀j,j<10->D.cell? ⟨g,o+i*10+j,none⟩=some ((jL a9 C E (.slice I n2 J))[j]!):=λj hj=>(HK.aa.2.cell a6).trans (hc j hj)
   have c0:D.cell? ⟨g,o+i*10,_⟩=some (.int _ _):=Z 0 (by omega);have c1:D.cell? ⟨g,o+i*10+1,none⟩=some (.int _ _):=Z 1 (by omega);have c2:D.cell? ⟨g,o+i*10+2,none⟩=some (.int _ (cX a9 2)):=Z 2 (by omega);have c3:D.cell? ⟨g,o+i*10+3,none⟩=some (.int _ _):=Z 3 (by omega);have c4:D.cell? ⟨g,o+i*10+4,none⟩=some (.int _ _):=Z 4 (by omega);have c5:D.cell? ⟨g,o+i*10+5,none⟩=some (.int _ _):=Z 5 (by omega);have c6:D.cell? ⟨g,o+i*10+6,none⟩=some (.int _ _):=Z 6 (by omega);have c7:D.cell? ⟨g,o+i*10+7,none⟩=some (.int _ _):=Z 7 (by omega);have c8:D.cell? ⟨g,o+i*10+8,none⟩=some (.string _):=Z 8 (by omega);have c9:D.cell? ⟨g,o+i*10+9,none⟩=some (.slice _ n2 _):=Z 9 (by omega);have HGL:=cV a6;have HSS:=cV a5;have HIL:=cV t;clear Z hc f a6 a5;go_wp2;have F:Below _ D ((D.alloc (.cells #[.int .u64 (cX a9 0),.int .u64 (cX a9 1),.int .u64 (cX a9 2),.int .u64 (cX a9 3),.int .u64 (cX C 0),.int .u64 (cX C 1),.int .u64 (cX C 2),.int .u64 (cX C 3),.string E,.slice I n2 J] 34)).alloc (.map #[] 0)):=ai (ai (dO _ _) _) _;obtain⟨w4,V⟩:=hJ ((D.alloc (.cells #[.int .u64 (cX a9 0),.int .u64 (cX a9 1),.int .u64 (cX a9 2),.int .u64 (cX a9 3),.int .u64 (cX C 0),.int .u64 (cX C 1),.int .u64 (cX C 2),.int .u64 (cX C 3),.string E,.slice I n2 J] 34)).alloc (.map #[] 0))
   have a4:AM w4 (D.heap.size+1) 0 (gh (pe (u.take 0))):=by
    have z:=AM.bS (D.alloc (.cells #[.int .u64 (cX a9 0),.int .u64 (cX a9 1),.int .u64 (cX a9 2),.int .u64 (cX a9 3),.int .u64 (cX C 0),.int .u64 (cX C 1),.int .u64 (cX C 2),.int .u64 (cX C 3),.string E,.slice I n2 J] 34));rw[show(D.alloc (.cells #[.int .u64 (cX a9 0),.int .u64 (cX a9 1),.int .u64 (cX a9 2),.int .u64 (cX a9 3),.int .u64 (cX C 0),.int .u64 (cX C 1),.int .u64 (cX C 2),.int .u64 (cX C 3),.string E,.slice I n2 J] 34)).heap.size=D.heap.size+1 by simp]at z;rw[V];exact z.congr (λm=>W)
   have f0:w4.heap.size=D.heap.size+1+1:=by simp_all
   have f3:∀j,j<10->w4.cell? ⟨D.heap.size,j,_⟩=some ((#[.int .u64 (cX a9 0),.int .u64 (cX a9 1),.int .u64 (cX a9 2),.int .u64 (cX a9 3),.int .u64 (cX C 0),.int .u64 (cX C 1),.int .u64 (cX C 2),.int .u64 (cX C 3),.string E,.slice I n2 J]:Ys)[j]!):=λj hj=>by
    have hB5:Below (D.alloc (.cells #[.int .u64 (cX a9 0),.int .u64 (cX a9 1),.int .u64 (cX a9 2),.int .u64 (cX a9 3),.int .u64 (cX C 0),.int .u64 (cX C 1),.int .u64 (cX C 2),.int .u64 (cX C 3),.string E,.slice I n2 J] 34)).heap.size (D.alloc (.cells #[.int .u64 (cX a9 0),.int .u64 (cX a9 1),.int .u64 (cX a9 2),.int .u64 (cX a9 3),.int .u64 (cX C 0),.int .u64 (cX C 1),.int .u64 (cX C 2),.int .u64 (cX C 3),.string E,.slice I n2 J] 34)) w4:=by rw[V];exact ai (dO _ _) _
    refine(hB5.cell (by simp)).trans ?_;have z:=fJ D #[.int .u64 (cX a9 0),.int .u64 (cX a9 1),.int .u64 (cX a9 2),.int .u64 (cX a9 3),.int .u64 (cX C 0),.int .u64 (cX C 1),.int .u64 (cX C 2),.int .u64 (cX C 3),.string E,.slice I n2 J] 34 j;rw[show(⟨D.heap.size,0,none⟩:Addr).add j=⟨D.heap.size,j,none⟩ by simp[Addr.add,qag]]at z;refine z _ ?_;rcases(show j=0\/j=1\/j=2\/j=3\/j=4\/j=5\/j=6\/j=7\/j=8\/j=9 by omega)with rfl|rfl|rfl|rfl|rfl|rfl|rfl|rfl|rfl|rfl<;>rfl
   rw[<-V]at F;have HB4:=cV F;have e8:=cV a4;have e7:=cV f0;have HC4:=cV f3;have b9:=cV (HK.aa.2.trans (F.mono HK.aa.2.size));clear F a4 f0 f3;rw[<-V];clear V c0 c1 c2 c3 c4 c5 c6 c7 c8 c9
   go_loopw[20] (λe2 wr=>∃j:Nat,j<=n2/\e2=.int .i64 (j:Int)/\Hd (AM wr (D.heap.size+1) j (gh (pe (u.take j))))/\Hd (Kb [D.heap.size+1] w4 wr)) (λe2 _=>n2-nI e2)
   case atStart=>exact⟨0,In _,W,e8.aa,Kb.h (dO _ _)⟩
   case round=>
    obtain⟨j,hj,rfl,HM,R⟩:=hrel;by_cases e1:j<n2
    .have hd3:=dN j n2;obtain⟨g2,N,rfl,d,Q⟩:=HSS.aa.resolve_left (λe=>by rw[Y.aa,e]at e1;exact absurd e1 (by simp));have e4:j<u.length:=by rw[<-Y.aa];exact e1
     obtain⟨U,e9⟩:∃U:Nat,Hd (U=u[j].1):=⟨u[j].1,cV W⟩;obtain⟨v9,a8⟩:∃v9:Nat,Hd (v9=u[j].2):=⟨u[j].2,cV W⟩;have ul:=Q j u[j] (iN e4);rw[<-e9.aa,<-a8.aa]at ul;have f1:=Xg d b9.aa.size;have a2:g2∉[D.heap.size+1]:=λhm=>by have:=BY.1 hm;have:=d9.aa;omega
     have dd:∀q,q<8->wr.cell? ⟨g2,N+j*8+q,none⟩=some _:=λq hq=>(Xc (w:=w4) (R.aa.block g2 f1 a2)).trans ((b9.aa.cell d).trans (ul q hq))
     have d0:wr.cell? ⟨g2,N+j*8,_⟩=some (.int _ _):=dd 0 (by omega);have d1:wr.cell? ⟨g2,N+j*8+1,none⟩=some (.int _ _):=dd 1 (by omega);have d2:wr.cell? ⟨g2,N+j*8+2,none⟩=some (.int _ _):=dd 2 (by omega);have d3:wr.cell? ⟨g2,N+j*8+3,none⟩=some (.int _ _):=dd 3 (by omega);have d4:wr.cell? ⟨g2,N+j*8+4,none⟩=some (.int _ (cX v9 0)):=dd 4 (by omega);have d5:wr.cell? ⟨g2,N+j*8+5,none⟩=some (.int _ _):=dd 5 (by omega);have d6:wr.cell? ⟨g2,N+j*8+6,none⟩=some (.int _ (cX v9 2)):=dd 6 (by omega);have d7:wr.cell? ⟨g2,N+j*8+7,none⟩=some (.int _ (cX v9 3)):=dd 7 (by omega);have HVZ:Hd (v9%M≠0):=by show v9%M≠0;rw[a8.aa];exact T.aa.2.2 u[j] (Ya _)
     have e6:=cV (FQ e4);rw[<-e9.aa,<-a8.aa]at e6;have HMA:Hd (AM (wr.alloc (.cells #[.int .u64 (cX U 0),.int .u64 (cX U 1),.int .u64 (cX U 2),.int .u64 (cX U 3),.int .u64 (cX v9 0),.int .u64 (cX v9 1),.int .u64 (cX v9 2),.int .u64 (cX v9 3)] 54)) _ j (gh (pe (u.take j)))):=HM.aa.kb (Kb.h (S:=[]) (ai (dO _ _) _)) (by simp);have HML:Hd (j<maxLen):=by show j<maxLen;unfold maxLen;omega
     have HKA:Hd (Kb _ w4 (wr.alloc (.cells #[.int .u64 (cX U 0),.int .u64 (cX U 1),.int .u64 (cX U 2),.int .u64 (cX U 3),.int .u64 (cX v9 0),.int .u64 (cX v9 1),.int .u64 (cX v9 2),.int .u64 (cX v9 3)] 54))):=R.aa.trans (Kb.h (S:=[]) (ai (dO _ _) _)) (by simp);clear dd ul Q d f1 a2;go_wp2_with(first|(at_mapUpdate;refine gH rfl 93 rfl oq _ j _ rfl HMA.aa HML.aa U (wv v9) rfl rfl ?_;intro w1 hA hT)|go_in)
     have HA1:Hd (AM w1 (D.heap.size+1) (j+1) (gh (pe (u.take (j+1))))):=by
      refine hA.congr λm=>?_
      rw[e6.aa];unfold gh lE;by_cases e:m%M=U%M
      .rw[At e,At e,iF HVZ.aa]
      .rw[iF e,iF e]
     have HT1:Hd (Kb [D.heap.size+1] w4 w1):=HKA.aa.trans (jx hT) (λi hi=>LZ hi);clear hA hT d0 d1 d2 d3 d4 d5 d6 d7;go_wp2;exact⟨⟨j+1,by omega,by simp,HA1.aa,HT1.aa⟩,by simp[nI];omega⟩
    .have hd3:=dG j n2;obtain rfl:j=n2:=by omega
     obtain⟨⟨sb,e0,f4⟩,hbw⟩:=HK.aa;have K:∀k,fZ _ _ sb k->k<D.heap.size:=λk r=>e0.lt r
     have G:Hd (D.heap.size<wr.heap.size):=by show D.heap.size<wr.heap.size;have:=R.aa.size;have:=e7.aa;omega
     have b:∀q,q<10->wr.cell? _=_:=λq hq=>(Xc (w:=w4) (R.aa.block D.heap.size (by have:=e7.aa;omega) (by simp))).trans (HC4.aa q hq)
     have b0:wr.cell? _=some (.int _ _):=b 0 (by omega);have b1:wr.cell? _=some (.int _ _):=b 1 (by omega);have b2:wr.cell? _=some (.int _ _):=b 2 (by omega);have b3:wr.cell? _=some (.int _ _):=b 3 (by omega);have b4:wr.cell? _=some (.int _ _):=b 4 (by omega);have b5:wr.cell? _=some (.int _ _):=b 5 (by omega);have b6:wr.cell? _=some (.int _ _):=b 6 (by omega);have b7:wr.cell? _=some (.int _ _):=b 7 (by omega);have b8:wr.cell? _=some (.string _):=b 8 (by omega);have f2:E.size<=100000:=by have:=T.aa.1;omega
     have a3:Accs w.heap.size (20+i) (jO (l.take i)) sb wr:=(e0.kb (Kb.h (S:=[]) HB4.aa) (by simp)).kb R.aa (λk r hf=>by have:=K k hf;have:=BY.1 r;omega);have a1:=((Kb.h (S:=[]) b9.aa).trans R.aa (λi hi=>A4 (by have:=BY.1 hi;have:=d9.aa;omega))).bK
     have a0:AM wr (D.heap.size+1) (20+i) (gh (pe u)):=by
      have z:=HM.aa.mono (show j<=20+i by omega);rwa[Y.aa,ZK]at z
     have X:∀x,Below _ wr x->_:=λx O=>Oi (w:=w) W a3 (λk r=>⟨f4 k r,by have:=K k r;omega⟩) a1 ⟨a9,C,E,u⟩ a0 (by have:=d9.aa;omega) (by omega) HZ.aa O
     have s:∀x x',vD w.heap.size (20+i+1) (fQ (jO (l.take i)) a9 (ri ⟨a9,C,E,u⟩)) w x->Below x.heap.size x x'->vD w.heap.size (20+i+1) (fQ (jO (l.take i)) a9 (ri ⟨a9,C,E,u⟩)) w x':=by
      rintro x x'⟨⟨sb,q1,q2⟩,q3⟩hb;exact⟨⟨sb,q1.kb (Kb.h (S:=[]) hb) (by simp),q2⟩,q3.trans (hb.mono q3.size)⟩
     clear b;go_wp2
     refine dy (PhK (λy=>vD _ _ (fQ (jO (l.take i)) a9 (ri ⟨a9,C,E,u⟩)) w y) wr) (λ_ _ _=>True) [(3,(.map _)),(5,(pt D.heap.size)),(6,(.map _))] (nV 30 [.map (some w.heap.size),pt D.heap.size,wv a9,pq D.heap.size 4,wv _,pq D.heap.size 8,.string _,.string _,.map (some (D.heap.size+1)),.agg #[.int .u64 (cX C 0),.int .u64 (cX C 1),.int .u64 (cX C 2),.int .u64 (cX C 3),.string E,.map (some (D.heap.size+1))],.tuple _]) [10] [2,4,6,7] ((dO _ _).drew) (Sc s)
       ⟨(λH hv c=>by
        have O:Below _ wr _:=H;refine em @hv (X _ O) (λv y h=>?_) (λl y h=>absurd h.1 (by simp)) (λy h=>absurd h.1 (by simp));obtain⟨e,hR⟩:=h;injection e with e
        subst e;exact c _ y hR AF nn1 W),AF⟩
       ⟨(λP H hv c=>by
        have O:=wt H (P 0 10);exact dD (n:=a9) (hv W) ((O.cell G.aa).trans b0) ((O.cell G.aa).trans b1) ((O.cell G.aa).trans b2) ((O.cell G.aa).trans b3) (kx c)),(λP H hv c=>by
        have O:=wt H (P 0 10);exact dD (n:=C) (hv W) ((O.cell G.aa).trans b4) ((O.cell G.aa).trans b5) ((O.cell G.aa).trans b6) ((O.cell G.aa).trans b7) (kx c)),(λP H hv c=>by
        have O:=wt H (P 0 10);exact dm (hv W) ((O.cell G.aa).trans b8) (kx c)),(λP H hv c=>by
        have O:=wt H (P 0 10);refine em @hv (J2 f2) (λv y h=>?_) (λl y h=>absurd h.1 (by simp)) (λy h=>absurd h.1 (by simp));obtain⟨e,hb⟩:=h;injection e with e
        subst e;exact c _ y hb nn1 W),AF⟩
       (nl W) (nl W) ?_
     intro gg x H _;have HR:Hd (vD w.heap.size _ (fQ (jO (l.take i)) a9 (ri ⟨a9,C,E,u⟩)) w x):=H
     have HSX:Hd (w.heap.size<x.heap.size):=by
      obtain⟨⟨sb,q1,q2⟩,q3⟩:=HR.aa;exact q1.lt (LZ W)
     clear H X s b0 b1 b2 b3 b4 b5 b6 b7 b8 K f4 e0 a3 hbw a1 a0;simp only[n8,sx9];go_wp2;refine⟨⟨i+1,by omega,by simp,?_,HSX.aa⟩,by simp[nI];omega⟩;rw[e3.aa,show 20+(i+1)=20+i+1 by omega];exact HR.aa
  .have hd2:=dG i L
   have HK2:Hd (vD w.heap.size (20+i) (jO l) w D):=by
    have z:=HK.aa;rwa[show i=l.length by rw[<-HL.aa];omega,ZK,show l.length=i by rw[<-HL.aa];omega]at z
   clear HK;go_wp2;go_ret;exact⟨W,20+i,by omega,HK2.aa⟩
def pY{l:List AcE}(h:jt l=true):l.length<=8/\∀a∈l,a.ae.size<=1000/\a.ar.length<=20/\∀p∈a.ar,p.2%M≠0:=by unfold jt at h;let⟨O,J⟩:=(Xo _ _).mp h;refine⟨Xd O,λa U=>?_⟩;obtain⟨i,G,rfl⟩:=XU U;have D:=Xp.1 J i (XS.2 G);unfold rA at D;rw[gE l MU G]at D;let⟨_,L⟩:=(Xo _ _).mp D;let⟨Q,H⟩:=(Xo _ _).mp L;unfold kA at H;let⟨P,R⟩:=(Xo _ _).mp H;refine⟨Xd Q,Xd P,λp V e=>?_⟩;obtain⟨j,I,rfl⟩:=XU V;have E:=Xp.1 R j (XS.2 I);unfold rS at E;rw[gE l[i].ar (0,0) I]at E;let⟨_,C⟩:=(Xo _ _).mp E;rw[OsQ e]at C;cases C
def RM(A:Nat->Acc)(w:WD)(gb:Nat)(w':WD):=∃ab n sb,n<=40/\HostAt gb ab n A sb w'/\bW w w'/\w.heap.size<=gb/\∀k,fZ ab A sb k->w.heap.size<=k
def Rh(l:List AcE)(w:WD)(h:AcIn w v l)(hz:Zr w)(b:jt l=true):cP 29 #[v] w λe w'=>∃X,e=.returned (.tuple #[pt X,iI 0])/\RM (jO l) w X w':=by
 have P:=cV (Fh l w h hz);rw[b]at P;let⟨H,I⟩:=pY b;have Y:=cV h;have f:=cV hz;have m:=cV H;have V:=cV I;obtain⟨p,y,rfl,_⟩:=h;let⟨L,Q⟩:=dP l.length;rw[<-Q.aa]at Y P⊢;clear hz H I b;go_enter func29,ntmps29;go_wp2_with fail
 refine P.mono ?_;rintro e E⟨rfl,b⟩;have Z:=cV (O9 l E (Y.below b) (f.below b) m V);have D:=cV b;clear b P;go_wp2_with fail
 refine Z.mono ?_;rintro e w2⟨rfl,n,d,⟨b,G,O⟩,J⟩;have C:bW w w2:=D.aa.trans (J.mono D.size);have o:Hd (HostAt w2.heap.size E.heap.size n (jO l) b (w2.alloc (.cells #[.int .i32 0,.int .u32 0,.map (some E.heap.size)] 91))):=by refine⟨World.rowIs_alloc w2 _ _ _ (λi U=>?_),G.kb (Kb.h (S:=[]) (ai (dO _ w2) _)) (by simp),(f.below C).below (ai (dO _ w2) _)⟩;have U:i<3:=U;rcases ltq3 U with rfl|rfl|rfl<;>rfl
 have g:Hd (w.heap.size<=w2.heap.size/\∀k,fZ E.heap.size (jO l) b k->w.heap.size<=k):=⟨C.size,λk c=>By D.size (O k c)⟩
 clear O;have j:=cV d;have R:=cV (ai C (.cells #[.int .i32 0,.int .u32 0,.map (some E.heap.size)] 91));clear d G J C Z D;go_wp2;refine Kg W W ⟨_,W,_,n,b,j,o,R,g⟩
def rD:List AcE->Tn->Tn
 |a::r,sl::t=>jL a.aj a.ai a.ae sl++rD r t
 |_,_=>[]
theorem E6:∀(l:List AcE)(C:Tn),C.length=l.length->∀a D,rD (l++[a]) (C++[D])=rD l C++jL a.aj a.ai a.ae D
 |[],[],_,a,D=>by rfl
 |[],_::_,h,_,_=>by cases h
 |_::_,[],h,_,_=>by cases h
 |b::r,s::t,h,a,D=>by show jL b.aj b.ai b.ae s++rD (r++[a]) (t++[D])=jL b.aj b.ai b.ae s++rD r t++_;rw[E6 r t (by grind) a D,XL]
theorem Bg:∀(l:List AcE)(C:Tn),C.length=l.length->∀(i:Nat) a sl,l[i]?=some a->C[i]?=some sl->∀j,j<10->(rD l C)[i*10+j]?=some ((jL a.aj a.ai a.ae sl)[j]!)
 |[],_,_,i,a,sl,h,_,_,_=>by simp at h
 |_::_,[],h,_,_,_,_,_,_,_=>by cases h
 |b::r,s::t,h,0,a,sl,h1,h2,j,hj=>by obtain rfl:=hV h1;obtain rfl:=hV h2;show(jL b.aj b.ai b.ae s++rD r t)[0*10+j]?=_;rw[YB,XF,Xv hj,Zj _ j hj,iN hj]
 |b::r,s::t,h,i+1,a,sl,h1,h2,j,hj=>by show(jL b.aj b.ai b.ae s++rD r t)[(i+1)*10+j]?=_;rw[Xx (by show 10<=_;omega),show(i+1)*10+j-(jL _ _ _ s).length=i*10+j by show _-10=_;omega];exact Bg r t (by simpa using h) i a sl h1 h2 j hj
def io(l:List (Nat×Nat)):Tn:=l.flatMap λp=>eU p.1++eU p.2
theorem qi:∀(l:List (Nat×Nat))(i:Nat) p,l[i]?=some p->∀j,j<8->(io l)[i*8+j]?=some ((eU p.1++eU p.2)[j]!)
 |[],i,p,h,_,_=>by simp at h
 |b::r,0,p,h1,j,hj=>by grind[eU,io]
 |b::r,i+1,p,h1,j,hj=>by show(eU b.1++eU b.2++io r)[(i+1)*8+j]?=_;rw[Xx (by show 8<=_;omega),show(i+1)*8+j-(eU _++eU _).length=i*8+j by show _-8=_;omega];exact qi r i p h1 j hj
def SD{x:WD}{l:List (Nat×Nat)}(C:x.ownsRow O 54 8 v l.length (io l)):SlIn x v l:=by
 rcases C.2 with⟨e,J⟩|⟨g,E,I,e,I,I,_⟩
 .exact⟨none,0,by grind,LZ (YM.1 J)⟩
 refine⟨_,_,e,A4 ⟨g,0,W,(WY.1 I).1,λi a D j G=>?_⟩⟩;have H:=(Do.1 D).1;subst e;rw[XF,XX C _ (by omega)];grind[qi]
structure AcOwn(O:Nat)(v:VL)(l:List AcE)(x:WD):Prop where
 ex:∃sls:Tn,sls.length=l.length/\x.ownsRow O 34 10 v l.length (rD l sls)/\∀(i:Nat) a sl,l[i]?=some a->sls[i]?=some sl->x.ownsRow O 54 8 sl a.ar.length (io a.ar)
def AcOwn.is{l:List AcE}{x:WD}(h:AcOwn O v l x):AcIn x v l:=by
 let⟨C,J,G,H⟩:=h.ex;rcases G.2 with⟨e,U⟩|⟨g,E,P,e,P,P,_⟩
 .exact⟨none,0,by grind,LZ (YM.1 U)⟩
 refine⟨_,_,e,A4 ⟨g,0,W,(WY.1 P).1,λi a D=>?_⟩⟩;have L:=(Do.1 D).1;have P:C[i]?=some _:=iN (by omega);refine⟨_,λj I=>?_,SD (H i a _ D P)⟩;subst e;rw[XF,XX G _ (by omega)];grind[Bg]
structure IsList(A:Nat->Acc)(l:List AcE):Prop where
 ex:∃ts,qn A ts/\l.length=ts.length/\∀(i:Nat) k a,ts[i]?=some k->l[i]?=some a->a.aj=k/\a.ai=(A k).ai%M/\a.ae=(A k).ae/\∃us,SortedKeys (gh (A k).ar) us/\a.ar=us.map λm=>(m,(A k).ar m%M)
structure EqA(A B:Nat->Acc):Prop where
 ai:∀a,(B a).ai%M=(A a).ai%M
 ae:∀a,(B a).ae=(A a).ae
 aK:∀a k,(B a).ar k%M=(A a).ar k%M
def EqA.no{B:Nat->Acc}(h:EqA A B)(m:Nat):(B m).no↔(A m).no:=by
 unfold Acc.no;rw[h.ai,h.ae];constructor
 .rintro⟨C,D,E⟩;exact⟨C,D,λk=>(h.aK m k).symm.trans (E k)⟩
 rintro⟨C,D,E⟩;exact⟨C,D,λk=>(h.aK m k).trans (E k)⟩
def IsList.bU{B:Nat->Acc}{l l':List AcE}(h:IsList A l)(I:IsList B l')(he:EqA A B):l=l':=by
 let⟨ts,G,o,U⟩:=h.ex;let⟨ts',D,p,J⟩:=I.ex;obtain rfl:ts=ts':=ry G.1 D.1 λm=>by rw[G.2,D.2,he.no m]
 refine List.ext_getElem (by omega) λi V C=>?_;have E:ts[i]?=some ts[i]:=iN (by omega);let⟨Z,P,d,Y,j,H⟩:=U i ts[i] l[i] E (iN V);let⟨L,X,f,us',g,Q⟩:=J i ts[i] l'[i] E (iN C);have R:Y=us':=j.bU g λm _=>by
  unfold gh;rw[he.aK];by_cases e:(A ts[i]).ar m%M=0
  .rw[At e,At e]
  rw[iF e,iF e];rfl
 have q:l[i].ar=l'[i].ar:=by rw[H,Q,R];refine Zh λm _=>?_;rw[he.aK]
 have c:l[i].ai=l'[i].ai:=by rw[P,X,he.ai]
 have z:l[i].ae=l'[i].ae:=by rw[d,f,he.ae]
 have y:l[i].aj=l'[i].aj:=by rw[Z,L]
 generalize l[i]=a at*;generalize l'[i]=b at*;cases a;cases b;simp_all
theorem oJ(n i:Nat)(h:i<4:=by omega):cX (n%M) i=cX n i:=by have e:=iL (m:=n%M) (n:=n) (Yu n M);unfold wv at e;injection e with e;have e:=Xl Array.toList e;simp only[List.cons.injEq]at e;rcases(show i=0\/i=1\/i=2\/i=3 by omega)with rfl|rfl|rfl|rfl<;>simp_all
def zbQ(n:Nat):eU (n%M)=eU n:=by unfold eU;rw[oJ n 0,oJ n 1,oJ n 2,oJ n 3]
theorem IU(s:Vq):∀C:Tl,io (C.map λm=>(m,s m%M))=CH s C
 |[]=>rfl
 |m::r=>by show eU m++eU (s m%M)++io (r.map λm=>(m,s m%M))=eU m++eU (s m)++CH s r;rw[zbQ,IU s r]
def Told.list(h:Told O A ts v sls w)(c:qn A ts):∃l,IsList A l/\AcOwn O v l w:=by
 have U:∀i,∃E:Tl,∀(C:i<ts.length),SortedKeys (gh (A ts[i]).ar) E/\w.ownsRow O 54 8 (sls[i]'(by rw[h.len];exact C)) E.length (CH (A ts[i]).ar E):=λi=>by
  by_cases C:i<ts.length
  .obtain⟨E,_,J,R⟩:=h.sl i ts[i] (sls[i]'(by rw[h.len];exact C)) (iN C) (iN (by rw[h.len];exact C));exact⟨E,λ_=>⟨J,R⟩⟩
  exact⟨[],λh=>absurd h C⟩
 let⟨f,b⟩:=Classical.axiomOfChoice U;let mk:Nat->AcE:=λi=>⟨ts.getD i 0,(A (ts.getD i 0)).ai%M,(A (ts.getD i 0)).ae,(f i).map λm=>(m,(A (ts.getD i 0)).ar m%M)⟩
 have Z:((List.range ts.length).map mk).length=ts.length:=by simp
 have P:∀(i:Nat) a,((List.range ts.length).map mk)[i]?=some a->i<ts.length/\a=mk i:=λi a H=>by
  have C:i<ts.length:=by rw[<-Z];exact(Do.1 H).1
  refine⟨C,?_⟩;rw[Xu,ZG C]at H;exact(hV H).symm
 refine⟨(List.range ts.length).map mk,⟨ts,c,Z,λi k a D H=>?_⟩,⟨sls,by rw[Z];exact h.len,?_,λi a sl H c=>?_⟩⟩
 .obtain⟨C,rfl⟩:=P i a H;have e:ts.getD i 0=k:=by rw[If,D];rfl
  have Q:ts[i]=k:=by rw[iN C]at D;exact hV D
  have I:=(b i C).1;rw[Q]at I;refine⟨e,?_,?_,f i,I,?_⟩<;>(show _=_;dsimp only[mk];rw[e])
 .rw[Z];have e:rD ((List.range ts.length).map mk) sls=Jl A ts sls:=by
   have N:∀(E:Tl)(G:List AcE)(ss:Tn),G.length=E.length->(∀(i:Nat) k a,E[i]?=some k->G[i]?=some a->a.aj=k/\a.ai=(A k).ai%M/\a.ae=(A k).ae)->rD G ss=Jl A E ss:=by
    intro E;induction E with
    |nil=>intro G ss L _;obtain rfl:=YM.1 L;cases ss<;>rfl
    |cons k r Y=>
     intro G ss L J;cases G with
     |nil=>cases L
     |cons a G=>
      cases ss with
      |nil=>rfl
      |cons s ss=>let⟨d,g,X⟩:=J 0 k a W W;show jL a.aj a.ai a.ae s++rD G ss=jL k (A k).ai (A k).ae s++Jl A r ss;rw[Y G ss (by simpa using L) (λi k a R V=>J (i+1) k a R V),d,g,X];unfold jL;rw[oJ _ 0,oJ _ 1,oJ _ 2,oJ _ 3]
   refine N ts _ sls Z λi k a D H=>?_;obtain⟨C,rfl⟩:=P i a H;have e:ts.getD i 0=k:=by rw[If,D];rfl
   refine⟨e,?_,?_⟩<;>(show _=_;dsimp only[mk];rw[e])
  rw[e];exact h.aD
 obtain⟨C,rfl⟩:=P i a H;have I:=(b i C).2;have e:ts.getD i 0=ts[i]:=by rw[If,iN C];rfl
 have Q:sls[i]'(by rw[h.len];exact C)=sl:=by have:=c;rw[iN (by rw[h.len];exact C)]at this;exact hV this
 rw[Q]at I;show w.ownsRow O 54 8 sl ((f i).map λm=>(m,(A (ts.getD i 0)).ar m%M)).length (io ((f i).map λm=>(m,(A (ts.getD i 0)).ar m%M)));rwa[IU,XH,e]
def nA{α:Type}(lt:α->Bool)(x:α):List α->List α
 |[]=>[x]
 |a::l=>if lt a=true then a::nA lt x l else x::a::l
section
variable {α β:Type} {lt:α->Bool} {x y:α}
theorem wQ:∀{l:List α},y∈nA lt x l↔y=x\/y∈l
 |[]=>by simp[nA]
 |a::l=>by
  unfold nA;split
  .simp only[IF,wQ (l:=l)];constructor
   .rintro(h|h|h)<;>simp[h]
   rintro(h|h|h)<;>simp[h]
  simp
theorem Gl:∀{l:List α}{n:Nat},(∀(j:Nat) a,j<n->l[j]?=some a->lt a=true)->(∀a,l[n]?=some a->lt a=false)->n<=l.length->nA lt x l=l.take n++x::l.drop n
 |[],n,_,_,h=>by
  obtain rfl:n=0:=by simpa using h
  rfl
 |a::l,0,_,h2,_=>by unfold nA;rw[iF (by rw[h2 a W];decide)];rfl
 |a::l,n+1,h1,h2,h3=>by unfold nA;rw[At (h1 0 a (by omega) W),Gl (l:=l) (n:=n) (λj b C D=>h1 (j+1) b (by omega) D) (λb D=>h2 b D) (by simpa using h3)];rfl
theorem Ih{N:α->Nat}(C:∀a,lt a=decide (N a<N x)):∀{l:List α},l.Pairwise (λa b=>N a<N b)->(∀a∈l,N a≠N x)->(nA lt x l).Pairwise (λa b=>N a<N b)
 |[],_,_=>XO _ _
 |a::l,h,hn=>by
  let⟨D,E⟩:=XT.1 h;unfold nA;rw[C a];by_cases e:N a<N x
  .rw[At (OsQ e)];refine XT.2 ⟨λb H=>?_,Ih C E λb H=>hn b (IN _ H)⟩;rcases wQ.1 H with rfl|H
   .exact e
   exact D b H
  rw[iF (by rw[W8 e];decide)];have G:N x<N a:=by have:=hn a Xz;omega
  refine XT.2 ⟨λb H=>?_,h⟩;rcases IF.1 H with rfl|H
  .exact G
  have:=D b H;omega
theorem tK{N:β->Nat}{skip:α->Prop}[DecidablePred skip]{f:α->β}{lt:α->β->Bool}(D:∀x a,lt x a=decide (N a<N (f x))):∀(l:List α)(I:List β),I.Pairwise (λa b=>N a<N b)->l.Pairwise (λx y=>¬skip x->¬skip y->N (f x)≠N (f y))->(∀x∈l,¬skip x->∀a∈I,N a≠N (f x))->(l.foldl (λI x=>if skip x then I else nA (lt x) (f x) I) I).Pairwise (λa b=>N a<N b)/\∀y,y∈l.foldl (λI x=>if skip x then I else nA (lt x) (f x) I) I↔y∈I\/∃x∈l,¬skip x/\y=f x
 |[],I,h,_,_=>⟨h,λy=>by simp⟩
 |x::l,I,h,hp,hn=>by
  let⟨H,p2⟩:=XT.1 hp;rw[Xa];by_cases O:skip x
  .rw[At O];let⟨Q,U⟩:=tK D l I h p2 λy E=>hn y (IN _ E);refine⟨Q,λy=>(U y).trans (or_congr Iff.rfl ?_)⟩;constructor
   .rintro⟨z,J,C,L⟩;exact⟨z,IN _ J,C,L⟩
   rintro⟨z,J,C,L⟩;rcases IF.1 J with rfl|J
   .exact absurd O C
   exact⟨z,J,C,L⟩
  rw[iF O];let⟨Q,U⟩:=tK D l (nA (lt x) (f x) I) (Ih (D x) h (hn x Xz O)) p2 λy E C a G=>by
   rcases wQ.1 G with rfl|G
   .exact H y E O C
   exact hn y (IN _ E) C a G
  refine⟨Q,λy=>(U y).trans ?_⟩;rw[wQ];constructor
  .rintro((rfl|C)|⟨z,J,C,L⟩)
   .exact A4 ⟨x,Xz,O,W⟩
   .exact LZ C
   exact A4 ⟨z,IN _ J,C,L⟩
  rintro(C|⟨z,J,C,L⟩)
  .exact LZ (A4 C)
  rcases IF.1 J with rfl|J
  .exact LZ (LZ L)
  exact A4 ⟨z,J,C,L⟩
theorem uF{p:α->Bool}:∀{l:List α},l.Pairwise (λs t=>p s=true->p t=true->False)->x∈l->p x=true->l.find? p=some x
 |a::l,h,C,hp=>by
  let⟨E,D⟩:=XT.1 h;rw[X0];cases G:p a with
  |true=>
   rcases IF.1 C with rfl|C
   .rfl
   exact(E x C G hp).elim
  |false=>
   rcases IF.1 C with rfl|C
   .rw[G]at hp;cases hp
   exact uF D C hp
end
abbrev xJ(a:Nat)(s:Slt):=s.br=true\/s.val%M=0\/s.aj%M≠a%M
def Hn(a:Nat)(aw:List (Nat×Nat))(s:Slt):List (Nat×Nat):=if xJ a s then aw else nA (λq=>iX q.1 s.key) (s.key,s.val) aw
def EP(l:List Slt)(a:Nat):List (Nat×Nat):=l.foldl (Hn a) []
def Sz(P:RW)(p:Pur):AcE:=⟨p.aj,p.mo,p.ae,EP P.sl p.aj⟩
abbrev Dd(P:RW)(p:Pur):=p.mo%M=0/\p.ae.size=0/\EP P.sl p.aj=[]
def CD(P:RW)(aa:List AcE)(p:Pur):List AcE:=if Dd P p then aa else nA (λq=>iX q.aj p.aj) (Sz P p) aa
def nW(P:RW)(l:List Slt):RW:=l.foldl (λQ s=>(bc s.aj Q).2) P
def uJ(P:RW):List AcE:=(nW P P.sl).pu.foldl (CD (nW P P.sl)) []
def Er(a:AcE):AcE:=⟨a.aj%M,a.ai%M,a.ae,a.ar.map λq=>(q.1%M,q.2%M)⟩
def uA(h:Cd P)(a:Nat):(EP P.sl a).Pairwise (λq r=>q.1%M<r.1%M)/\∀q,q∈EP P.sl a↔∃s∈P.sl,¬xJ a s/\q=(s.key,s.val):=by
 let⟨D,C⟩:=tK (N:=λq:Nat×Nat=>q.1%M) (skip:=xJ a) (f:=λs:Slt=>(s.key,s.val)) (lt:=λs q=>iX q.1 s.key) (λs q=>W) P.sl [] List.Pairwise.nil ((YJ.1 h.2.2).imp λ{s t} D C E e=>by
  unfold xJ at C E;have I:s.aj%M=t.aj%M:=by omega
  have G:s.br=false:=by simpa using λe=>C (LZ e)
  have b2:t.br=false:=by simpa using λe=>E (LZ e)
  have:ly t.br t.aj t.key ⟨s.aj,s.key,0,s.br⟩=true:=by unfold ly;rw[G,b2,mg I,mg e];rfl
  rw[show ly t.br t.aj t.key ⟨s.aj,s.key,0,s.br⟩=false from D]at this;cases this) (λ_ _ _ _ H=>by cases H)
 exact⟨D,λq=>(C q).trans (by simp)⟩
def UK(h:Cd P){s:Slt}(H:s∈P.sl)(E:ly br a k s=true):fu br a k P=s.val:=by
 unfold fu;rw[uF ((YJ.1 h.2.2).imp λ{s t} G C D=>?_) H E];unfold ly at C D;simp only[Xo,X1]at C D;have:ly t.br t.aj t.key ⟨s.aj,s.key,0,s.br⟩=true:=by unfold ly;rw[show s.br=t.br from C.1.trans D.1.symm,mg ((iw.1 C.2.1).trans (iw.1 D.2.1).symm),mg ((iw.1 C.2.2).trans (iw.1 D.2.2).symm)];simp
 rw[show ly t.br t.aj t.key ⟨s.aj,s.key,0,s.br⟩=false from G]at this;cases this
def My(h:fu br a k P≠0):∃s∈P.sl,ly br a k s=true/\fu br a k P=s.val:=by
 unfold fu at h⊢;cases C:P.sl.find? (ly br a k)with
 |none=>rw[C]at h;exact absurd W h
 |some s=>exact⟨s,Zt C,List.find?_some C,W⟩
def Jz(h:Cd P){p:Pur}(H:p∈P.pu)(C:p.aj%M=a%M):ks a P=p:=by
 unfold ks;rw[uF ((YJ.1 h.2.1).imp λ{s t} E D G=>?_) H (mg C)]
 .rfl
 have:=mg ((iw.1 D).trans (iw.1 G).symm);rw[show gN s.aj t.aj=false from E]at this;cases this
theorem M3{T:TS}:∀(l:List Slt)(P:RW),Cd P->RelW T P->Cd (nW P l)/\RelW T (nW P l)/\(nW P l).sl=P.sl/\(nW P l).pu.length<=P.pu.length+l.length/\(∀a,Sd a P->Sd a (nW P l))/\∀s∈l,Sd s.aj (nW P l)
 |[],P,h,hr=>⟨h,hr,W,DO _,λ_ h=>h,λ_ h=>by cases h⟩
 |s::l,P,h,hr=>by
  let⟨I,G,J,L,D,E⟩:=M3 l (bc s.aj P).2 (qp h) (hr.bX s.aj);have O:=(iG s.aj P).2;refine⟨I,G,J.trans (kK s.aj P).1,by show(nW (bc s.aj P).2 l).pu.length<=_;rw[X2];omega,λa H=>D a (qT a s.aj (LZ H)),λt C=>?_⟩;rcases IF.1 C with rfl|C
  .exact D _ (qT _ _ (A4 W))
  exact E t C
def FI(l:Cd P)(u:RelW (T0 A) P):IsList A ((uJ P).map Er):=by
 obtain⟨U,I,T,r,r,F⟩:=M3 P.sl P l u;unfold uJ;generalize nW P P.sl=Q at*;have E:∀a k:Nat,fu false a k Q%M≠0->∃s∈Q.sl,¬xJ a s/\s.key%M=k%M/\s.val=fu false a k Q:=λa k h=>by
  obtain⟨s,l,J,z⟩:=My (λe=>h (by rw[e];exact ZS _));unfold ly at J;simp only[Xo,X1]at J;refine⟨s,l,λC=>?_,iw.1 J.2.2,z.symm⟩;rcases C with C|C|C
  .rw[J.1]at C;cases C
  .exact h (z▸C)
  exact C (iw.1 J.2.1)
 have D:∀{a:Nat}{s:Slt},s∈Q.sl->¬xJ a s->∀{b k:Nat},b%M=a%M->k%M=s.key%M->fu false b k Q=s.val:=λ{a s} l r {b k} hb h=>UK U l (by
  have H:s.br=false:=by simpa using λe=>r (LZ e)
  have G:s.aj%M=b%M:=by apply YA;intro e;exact r (A4 (A4 (by rw[<-hb];exact e)))
  unfold ly;rw[H,mg G,mg h.symm];rfl)
 have X:∀p∈Q.pu,Dd Q p↔(A (p.aj%M)).no:=λp u=>by
  have R:=I.ai (p.aj%M);have O:=I.ae (p.aj%M);rw[Jz U u (Yu _ _).symm]at R O;unfold Dd Acc.no;rw[show(A (p.aj%M)).ai=p.mo from R,show(A (p.aj%M)).ae=p.ae from O];refine and_congr Iff.rfl (and_congr ⟨λh=>?_,λh=>by rw[h];rfl⟩ ⟨λh k=>?_,λh=>?_⟩)
  .generalize p.ae=v at h;obtain⟨c⟩:=v;exact Xl _ (Array.eq_empty_of_size_eq_zero h)
  .apply YA;intro e;rw[show(A (p.aj%M)).ar k=_ from I.aK (p.aj%M) k]at e;obtain⟨s,l,H,G,g⟩:=E _ _ e;have:(s.key,s.val)∈EP Q.sl p.aj:=((uA U p.aj).2 _).2 ⟨s,l,λC=>H (by unfold xJ at C⊢;rw[Yu];exact C),W⟩;rw[h]at this;cases this
  refine List.eq_nil_iff_forall_not_mem.2 λq w=>?_;obtain⟨s,l,H,rfl⟩:=((uA U p.aj).2 _).1 w;have G:=h s.key;rw[show(A (p.aj%M)).ar s.key=_ from I.aK (p.aj%M) s.key,D l H (Yu _ _) W]at G;exact H (A4 (LZ G))
 obtain⟨Z,Y⟩:=tK (N:=λa:AcE=>a.aj%M) (skip:=Dd Q) (f:=Sz Q) (lt:=λp a=>iX a.aj p.aj) (λp a=>W) Q.pu [] List.Pairwise.nil ((YJ.1 U.2.1).imp λ{s t} H _ _ e=>by have:=mg (m:=s.aj) (n:=t.aj) e;rw[show gN s.aj t.aj=false from H]at this;cases this) (λ_ _ _ _ V=>by cases V);replace Y:∀y,y∈Q.pu.foldl (CD Q) []↔∃p∈Q.pu,¬Dd Q p/\y=Sz Q p:=λy=>(Y y).trans (by simp);replace Z:(Q.pu.foldl (CD Q) []).Pairwise (λa b=>a.aj%M<b.aj%M):=Z;generalize Q.pu.foldl (CD Q) []=L at*;refine⟨L.map (·.aj%M),⟨YJ.2 Z,λm=>?_⟩,by simp,λi k a r V=>?_⟩
 .constructor
  .intro h;obtain⟨a,V,rfl⟩:=Xq.1 h;obtain⟨p,u,H,rfl⟩:=(Y a).1 V;exact⟨Xs _ jm,λC=>H ((X p u).2 C)⟩
  rintro⟨J,v⟩;obtain⟨p,u,e⟩:∃p∈Q.pu,p.aj%M=m%M:=by
   apply YA;intro o;have hf:Q.pu.find? (λp=>gN p.aj m)=none:=Zn.2 λp u C=>o ⟨p,u,iw.1 C⟩;have d:ks m Q=⟨m,0,⟨#[]⟩⟩:=by unfold ks;rw[hf];rfl
   have R:=I.ai m;have O:=I.ae m;rw[d]at R O;refine v ⟨by rw[show(A m).ai=0 from R];exact ZS _,O,λk=>?_⟩;apply YA;intro e;rw[show(A m).ar k=_ from I.aK m k]at e;obtain⟨s,l,H,G,g⟩:=E _ _ e;obtain⟨p,u,S⟩:=F s (T▸l);refine o ⟨p,u,(iw.1 S).trans ?_⟩;apply YA;intro e;exact H (A4 (A4 e))
  have j:p.aj%M=m:=by rw[e];exact WZ J
  exact Xq.2 ⟨Sz Q p,(Y _).2 ⟨p,u,λC=>v (j▸(X p u).1 C),W⟩,j⟩
 rw[Xu]at r V;obtain⟨b,hb,rfl⟩:=Y1.1 r;rw[hb]at V;obtain rfl:Er b=a:=hV V;obtain⟨p,u,H,rfl⟩:=(Y b).1 (Xe hb);have R:=I.ai (p.aj%M);have O:=I.ae (p.aj%M);rw[Jz U u (Yu _ _).symm]at R O;obtain⟨K,s2⟩:=uA U p.aj;refine⟨W,by show p.mo%M=(A (p.aj%M)).ai%M;rw[show(A (p.aj%M)).ai=p.mo from R],O.symm,(EP Q.sl p.aj).map (·.1%M),⟨YJ.2 K,λm=>?_⟩,?_⟩
 .show _↔m<M/\(gh (A (p.aj%M)).ar m).isSome=true;unfold gh;rw[show(A (p.aj%M)).ar m=_ from I.aK (p.aj%M) m];constructor
  .intro h;obtain⟨q,w,rfl⟩:=Xq.1 h;obtain⟨s,l,G,rfl⟩:=(s2 q).1 w;refine⟨Xs _ jm,?_⟩;rw[D l G (Yu _ _) (Yu _ _),iF λe=>G (A4 (LZ e))];rfl
  rintro⟨J,C⟩;by_cases e:fu false (p.aj%M) m Q%M=0
  .rw[At e]at C;cases C
  obtain⟨s,l,G,g,u⟩:=E _ _ e;refine Xq.2 ⟨(s.key,s.val),(s2 _).2 ⟨s,l,λC=>G (by unfold xJ at C⊢;rw[Yu];exact C),W⟩,?_⟩;exact g.trans (WZ J)
 show(EP Q.sl p.aj).map _=_;rw[Zd];refine Zh λq w=>?_;obtain⟨s,l,G,rfl⟩:=(s2 q).1 w;show(s.key%M,s.val%M)=(s.key%M,(A (p.aj%M)).ar (s.key%M)%M);rw[show(A (p.aj%M)).ar (s.key%M)=_ from I.aK (p.aj%M) (s.key%M),D l G (Yu _ _) (Yu _ _)]
theorem BO{t e sz by' n:Nat}{a:Gj}{x:WD}(D:CF t e sz by')(h:n<=c):(Builtin.append_ #[t,t] t #[.slice a n c,dL]).run prog x=.ok (.slice a n c) x:=by obtain⟨G,I,i,z,H,J,J,E,C⟩:=D;cases a<;>simp[Builtin.append_,Zm G,sizeOf,typeInfo,H,Builtin.lenOf,h,dL,Builtin.firstCells,storeCells]
def zbB(v:VL)(k:Nat):VL:=match v with
 |.slice a _ c=>.slice a k c
 |v=>v
def nS(v:VL)(k sz:Nat):VL:=match v with
 |.slice a n c=>.slice (if c=k then a else a.map (·.add (k*sz))) (n-k) (c-k)
 |v=>v
def Sep.cz(h:Sep O (fp e sz v n xs::rs) x)(I:CF t e sz by')(L:∀u∈xs,u.oneCell'=true)(P:k<=n)(hn:n<=1000000000)(G:by'<=1000):∃D y,(Builtin.append_ #[t,t] t #[dL,zbB v k]).run prog x=.ok D y/\Sep O (fp e sz D k (xs.take (k*sz))::fp e sz v n xs::rs) y/\Below O x y:=by
 have J:Sep _ (fp e sz dL 0 []::fp e sz v n xs::rs) x:=h.new (Xy _ _ _ _) (dO _ _) λk P=>(by cases P)
 rcases h.hd.2 with⟨rfl,rfl⟩|⟨g,E,Q,rfl,Q,Q,Q,Q,Q,Q⟩
 .obtain rfl:k=0:=by omega
  have:=Yo (by rw[h.hd.1,YB]);subst this;exact⟨_,x,BO I (DO _),by grind,dO _ _⟩
 have Q:(xs.take (k*sz)).length=k*sz:=by grind[XB,Zg,Yf]
 let⟨D,y,V,U,r3,_⟩:=J.cC I ⟨g,0,none⟩ k E Q (λj u C=>by rw[show(⟨g,0,_⟩:Addr).add j=⟨g,j,none⟩ by simp[Addr.add,qag]];have H:=(Do.1 C).1;rw[Q]at H;rw[ZT,At H]at C;rw[XX h.hd j (Xg H (Yf _ P)),C]) (λu C=>L u (YY C)) (by omega) (By (Yx (DO _) G) (by omega));rw[XF,XG]at U;exact⟨D,y,V,U,r3⟩
def Sep.cn(h:Sep O (fp e sz v2 m ys::fp e sz v n xs::rs) x)(J:CF t e sz by')(P:∀u∈xs,u.oneCell'=true)(b:k<=n)(hn:n<=1000000000)(V:m<=1000000000)(G:by'<=1000):∃C y,(Builtin.append_ #[t,t] t #[v2,nS v k sz]).run prog x=.ok C y/\Sep O (fp e sz C (m+(n-k)) (ys++xs.drop (k*sz))::rs) y/\Below O x y:=by
 have Q:∀{y:WD}{C}{R}{L},Sep _ (fp e sz C R L::fp e sz v n xs::rs) y->Sep O _ y:=λh=>h.sw.tl;rcases h.tl.hd.2 with⟨rfl,rfl⟩|⟨g,E,Y,rfl,Z,Z,Z,Z,Z,Z⟩
 .obtain rfl:k=0:=by omega
  have:=Yo (by rw[h.tl.hd.1,YB]);subst this;let⟨a,c,X⟩:=dt h.hd;refine⟨v2,x,?_,by grind,dO _ _⟩;have:nS (.slice _ 0 0) 0 sz=dL:=rfl;rw[this];rcases h.hd.2 with⟨Z,_⟩|⟨g,E,Y,Z,_,_,Y,_⟩
  .rw[Z];exact BO J (DO _)
  grind[BO]
 have Y:(xs.drop (k*sz)).length=(n-k)*sz:=by rw[X8,h.tl.hd.1,Nat.sub_mul]
 have N:∀(a:Addr)(c:Nat),(n-k=0\/a=⟨g,k*sz,none⟩)->∃C y,(Builtin.append_ _ t _).run _ x=.ok C y/\Sep _ _ y/\Below _ x y:=λa c I=>by
  let⟨C,y,Z,d,r3,_⟩:=h.cC J a _ c Y (λj u D=>by
   have H:=(Do.1 D).1;rw[Y]at H;rcases I with I|rfl
   .rw[I,YB]at H;omega
   rw[List.getElem?_drop]at D;rw[show(⟨g,_,_⟩:Addr).add j=⟨g,k*sz+j,none⟩ by simp[Addr.add]];rw[XX h.tl.hd _ (by have:k*sz<=n*sz:=Yf _ b;rw[Nat.sub_mul]at H;omega),D]) (λu D=>P u (List.mem_of_mem_drop D)) (by unfold maxLen;omega) (By (Yx (DO _) G) (by omega))
  exact⟨C,y,Z,Q d,r3⟩
 unfold nS;dsimp only;by_cases U:E=k
 .rw[At U];exact N _ _ (LZ (by omega))
 simp_all[Addr.add]
structure RdI(Y:Nat)(P:RW)(V:DV)(x:WD):Prop where
 row:rowL x Y 146 [V.pv,V.lv,V.gv]
 pu:x.ownsRow 0 150 9 V.pv P.pu.length (P.pu.flatMap qX)
 sl:x.ownsRow 0 152 13 V.lv P.sl.length (P.sl.flatMap oj)
def rRd(Y:Nat)(P:RW)(V:DV):Rs:=⟨λk=>k=Y\/V.pv.ownBlock=some k\/V.lv.ownBlock=some k,RdI Y P V,λ{x k} h hk=>by
 rcases hk with rfl|hk|hk
 .exact h.row.lt
 .exact(h.pu.lt _ hk).2
 .exact(h.sl.lt _ hk).2,λ{x y} h hs he=>by
 have ho:∀{e size n:Nat}{v:VL}{xs:Tn},(∀k,v.ownBlock=some k->k=Y\/V.pv.ownBlock=some k\/V.lv.ownBlock=some k)->x.ownsRow 0 e size v n xs->y.ownsRow 0 e size v n xs:=λhd ho=>⟨ho.1,ho.2.imp id λ⟨g,E,cur,h1,h2,h3,h4⟩=>⟨g,E,cur,h1,h2,(he g (hd g (by rw[h1];rfl))).trans h3,h4⟩⟩
 exact⟨World.rowIs.of_block h.row (he Y (LZ rfl)),ho (λg hg=>A4 (LZ hg)) h.pu,ho (λg hg=>A4 (A4 hg)) h.sl⟩⟩
structure SlsI(l:List AcE)(sls:Tn)(x:WD):Prop where
 len:sls.length=l.length
 sl:∀(i:Nat) a s,l[i]?=some a->sls[i]?=some s->x.ownsRow 0 54 8 s a.ar.length (io a.ar)
def LK(l:List AcE)(sls:Tn):Rs:=⟨λk=>∃s∈sls,s.ownBlock=some k,SlsI l sls,λ{x k} h hk=>by
 obtain⟨s,hs,hk⟩:=hk;obtain⟨i,hi,rfl⟩:=XU hs;exact((h.sl i _ _ (iN (by rw[<-h.len];exact hi)) (iN hi)).lt _ hk).2,λ{x y} h hs he=>⟨h.len,λi a s ha hs=>by
 have ho:=h.sl i a s ha hs;exact⟨ho.1,ho.2.imp id λ⟨g,E,cur,h1,h2,h3,h4⟩=>⟨g,E,cur,h1,h2,(he g ⟨s,Xe hs,by rw[h1];rfl⟩).trans h3,h4⟩⟩⟩⟩
theorem AO{α:Type}{f:α->Tn}{c:Nat}(G:∀a,(f a).length=c):∀(l:List α)(k:Nat),(l.flatMap f).take (k*c)=(l.take k).flatMap f/\(l.flatMap f).drop (k*c)=(l.drop k).flatMap f
 |[],k=>by simp
 |a::l,0=>by simp
 |a::l,k+1=>by let⟨D,C⟩:=AO G l k;rw[Z3,show(k+1)*c=(f a).length+k*c by grind,List.take_length_add_append,List.drop_length_add_append,D,C];simp
theorem yx:∀(l:List AcE)(sls:Tn),rD l sls=(l.zip sls).flatMap λp=>jL p.1.aj p.1.ai p.1.ae p.2
 |[],sls=>by rfl
 |a::l,[]=>rfl
 |a::l,s::r=>by show jL a.aj a.ai a.ae s++rD l r=_;rw[yx l r];rfl
def Rm(l:List AcE)(G:sls.length=l.length)(k:Nat){a:AcE}{s:VL}:(rD l sls).take (k*10)++jL a.aj a.ai a.ae s++(rD l sls).drop (k*10)=rD (l.take k++a::l.drop k) (sls.take k++s::sls.drop k):=by rw[yx,yx];let⟨D,C⟩:=AO (f:=λp:AcE×VL=>jL p.1.aj p.1.ai p.1.ae p.2) (c:=10) (λ_=>W) (l.zip sls) k;rw[D,C,List.zip_append (by grind),Zi,List.zip_cons_cons,Z3,XL];rw[show(l.zip _).take k=(l.take k).zip _ from List.take_zipWith,show(l.zip _).drop k=(l.drop k).zip _ from List.drop_zipWith]
def SE(l:List (Nat×Nat))(k:Nat){p:Nat×Nat}:(io l).take (k*8)++(eU p.1++eU p.2)++(io l).drop (k*8)=io (l.take k++p::l.drop k):=by unfold io;let⟨D,C⟩:=AO (f:=λp:Nat×Nat=>eU p.1++eU p.2) (c:=8) (λ_=>W) l k;grind
def WQ.rd{Y:Nat}{P:RW}{x:WD}(h:WQ O Y P [] x):∃V,Sep O [fp 34 10 dL 0 [],LK [] [],rRd Y P V] x:=by
 obtain⟨V,hdw, -, -,hb⟩:=h;refine⟨V,⟨λr G=>?_,?_,hb⟩⟩
 .simp only[IF,Xk,XI]at G;rcases G with rfl|rfl|rfl
  .exact⟨Xy _ _ _ _,λk D=>by cases D⟩
  .exact⟨⟨W,λi a s C=>by cases C⟩,λk D=>by let⟨s,H,_⟩:=D;cases H⟩
  refine⟨⟨hdw.row,fO hdw.pu (In _),fO hdw.sl (In _)⟩,λk D=>?_⟩;rcases D with rfl|D|D
  .exact hdw.hb
  .exact(hdw.pu.lt k D).1
  exact(hdw.sl.lt k D).1
 refine XT.2 ⟨λr G k D=>(by cases D),XT.2 ⟨λr G k D=>?_,XO _ _⟩⟩;let⟨s,H,_⟩:=D;cases H
def OutI(x:WD)(Y:Nat)(P:RW)(V:DV)(l:List AcE)(ov:VL)(wr:WD):=∃sls,Sep x.heap.size [fp 34 10 ov l.length (rD l sls),LK l sls,rRd Y P V] wr/\bW x wr
def SlI(x:WD)(Y:Nat)(P:RW)(V:DV)(L:List AcE)(ov:VL)(pb ab:Nat)(p:Pur)(ss:List (Nat×Nat))(slv:VL)(wr:WD):=∃sls,Sep x.heap.size [gj ab 34 (jL p.aj p.mo p.ae slv),fp 54 8 slv ss.length (io ss),gj pb 150 (qX p),fp 34 10 ov L.length (rD L sls),LK L sls,rRd Y P V] wr/\bW x wr
def OutI.aw{x:WD}{Y:Nat}{P:RW}{V:DV}{L:List AcE}{ov:VL}{wr:WD}(h:OutI x Y P V L ov wr)(p:Pur):SlI x Y P V L ov wr.heap.size (wr.heap.size+1) p [] dL ((wr.alloc (.cells (qX p).toArray 150)).alloc (.cells (jL p.aj p.mo p.ae dL).toArray 34)):=by let⟨sls,G,C⟩:=h;have H:=G.row (qX p) 150;have D:=H.row (jL p.aj p.mo p.ae dL) 34;rw[show(wr.alloc _).heap.size=wr.heap.size+1 by simp]at D;refine⟨_,(D.new (Xy _ _ _ _) (dO _ _) λk I=>by cases I).sw,?_⟩;have hb:=ai (ai (dO _ wr) (.cells (qX p).toArray 150)) (.cells (jL p.aj p.mo p.ae dL).toArray 34);exact C.trans (hb.mono C.size)
def SlI.bel{x:WD}{Y:Nat}{P:RW}{V:DV}{L:List AcE}{ov:VL}{pb ab:Nat}{p:Pur}{ss:List (Nat×Nat)}{slv:VL}{wr y:WD}(h:SlI x Y P V L ov pb ab p ss slv wr)(hb:bW wr y):SlI x Y P V L ov pb ab p ss slv y:=by let⟨sls,D,C⟩:=h;exact⟨_,D.below hb,C.trans (hb.mono C.size)⟩
def SsI(x:WD)(Y:Nat)(P:RW)(V:DV)(L:List AcE)(ov:VL)(pb ab sb:Nat)(p:Pur)(s:Slt)(ss:List (Nat×Nat))(slv:VL)(wr:WD):=∃sls,Sep x.heap.size [gj sb 152 (oj s),gj ab 34 (jL p.aj p.mo p.ae slv),fp 54 8 slv ss.length (io ss),gj pb 150 (qX p),fp 34 10 ov L.length (rD L sls),LK L sls,rRd Y P V] wr/\bW x wr
section
variable {V:DV}{L:List AcE}{sb:Nat}{p:Pur}{s:Slt}{ss:List (Nat×Nat)}
def SlI.aK(h:SlI x Y P V L ov pb ab p ss slv wr)(s:Slt):SsI x Y P V L ov pb ab wr.heap.size p s ss slv (wr.alloc (.cells (oj s).toArray 152)):=by let⟨sls,D,C⟩:=h;exact⟨_,D.row _ _,C.trans ((ai (dO _ wr) _).mono C.size)⟩
def SsI.bel(h:SsI x Y P V L ov pb ab sb p s ss slv wr)(hb:bW wr y):SsI x Y P V L ov pb ab sb p s ss slv y:=by let⟨sls,D,C⟩:=h;exact⟨_,D.below hb,C.trans (hb.mono C.size)⟩
def SsI.sl(h:SsI x Y P V L ov pb ab sb p s ss slv wr):SlI x Y P V L ov pb ab p ss slv wr:=by let⟨sls,C,D⟩:=h;exact⟨_,C.tl,D⟩
def SsI.r(h:SsI x Y P V L ov pb ab sb p s ss slv wr):rowL wr sb 152 (oj s)/\rowL wr ab 34 (jL p.aj p.mo p.ae slv)/\rowL wr pb 150 (qX p)/\wr.ownsRow 0 54 8 slv ss.length (io ss):=by let⟨sls,C,D⟩:=h;exact⟨C.hd,C.tl.hd,C.tl.tl.tl.hd,C.tl.tl.hd⟩
end
def SsI.ins{x:WD}{Y:Nat}{P:RW}{V:DV}{L:List AcE}{ov:VL}{pb ab sb:Nat}{p:Pur}{s:Slt}{ss:List (Nat×Nat)}{slv:VL}{wr:WD}(h:SsI x Y P V L ov pb ab sb p s ss slv wr)(q:Nat)(r:q<=ss.length)(l:ss.length<=900000000):∃G C H I v3 D,(Builtin.append_ #[32,32] 32 #[dL,zbB slv q]).run prog wr=.ok G C/\(Builtin.append_ #[32,32] 32 #[G,sL C.heap.size 1 1]).run prog (C.alloc (.cells (eU s.key++eU s.val).toArray 54))=.ok H I/\(Builtin.append_ #[32,32] 32 #[H,nS slv q 8]).run prog I=.ok v3 D/\(∃a n c,v3=.slice a n c)/\(∃a c,G=.slice a q c)/\(∃a c,H=.slice a (q+1) c)/\rowL C sb 152 (oj s)/\rowL I ab 34 (jL p.aj p.mo p.ae slv)/\rowL D ab 34 (jL p.aj p.mo p.ae slv)/\SlI x Y P V L ov pb ab p (ss.take q++(s.key,s.val)::ss.drop q) v3 (D.setCell ⟨ab,9,none⟩ v3):=by
 let⟨sls,A,o⟩:=h;have X:CF 32 54 8 64:=Nw (by kernel_rfl) wg W;have f:∀u∈io ss,u.oneCell'=true:=λu J=>by let⟨p,_,l⟩:=YF.1 J;simp[eU]at l;rcases l with rfl|rfl|rfl|rfl|rfl|rfl|rfl|rfl<;>rfl
 let⟨G,C,v,U,m⟩:=A.bG.cz X f r (by omega) (by decide);let⟨H,I,i,s2,b2⟩:=U.ca X (eU s.key++eU s.val) W (λu J=>by simp[eU]at J;rcases J with rfl|rfl|rfl|rfl|rfl|rfl|rfl|rfl<;>rfl) (by grind[maxLen]) (by omega);let⟨l,c1,F⟩:=dt U.hd;let⟨k,c2,S⟩:=dt s2.hd;let⟨v3,D,r3,Z,b3⟩:=s2.cn X f r (by omega) (by omega) (by decide);let⟨a3,c3,N⟩:=dt Z.hd;let⟨g,T⟩:=Z.bG.set 9 v3;have R:=m.trans (b2.trans b3);refine⟨G,C,H,I,v3,D,v,i,r3,⟨_,_,_,N⟩,⟨_,_,F⟩,⟨_,_,S⟩,U.tl.tl.hd,s2.tl.tl.tl.hd,Z.tl.tl.hd,sls,?_,o.trans (R.trans T)⟩;have z:(ss.take q++(s.key,s.val)::ss.drop q).length=q+1+(ss.length-q):=by grind
 rw[z,<-SE ss q];exact g.bG.tl
def SlI.put{x:WD}{Y:Nat}{P:RW}{V:DV}{L:List AcE}{ov:VL}{pb ab:Nat}{p:Pur}{ss:List (Nat×Nat)}{slv:VL}{wr:WD}(h:SlI x Y P V L ov pb ab p ss slv wr)(q:Nat)(hq:q<=L.length)(hl:L.length<=900000000):∃I G J R v3 y3,(Builtin.append_ #[35,35] 35 #[dL,zbB ov q]).run prog wr=.ok I G/\(Builtin.append_ #[35,35] 35 #[I,sL G.heap.size 1 1]).run prog (G.alloc (.cells (jL p.aj p.mo p.ae slv).toArray 34))=.ok J R/\(Builtin.append_ #[35,35] 35 #[J,nS ov q 10]).run prog R=.ok v3 y3/\(∃a n c,v3=.slice a n c)/\(∃a c,I=.slice a q c)/\(∃a c,J=.slice a (q+1) c)/\rowL G ab 34 (jL p.aj p.mo p.ae slv)/\OutI x Y P V (L.take q++⟨p.aj,p.mo,p.ae,ss⟩::L.drop q) v3 y3:=by
 obtain⟨sls,S,h2⟩:=h;have Z:CF 35 34 10 104:=Nw (z:=.agg #[iU 0,iU 0,iU 0,iU 0,iU 0,iU 0,iU 0,iU 0,.string ⟨#[]⟩,dL]) (by kernel_rfl) (by kernel_rfl) (by kernel_rfl);have hS:=S.tl.tl.tl.tl.hd;obtain⟨aq,cq,eq⟩:=dt S.tl.hd;have N:∀(a:Nat)(b:Nat)(c:BA)(s:VL),s.oneCell'=true->∀u∈jL a b c s,u.oneCell'=true:=λa b c s v u D=>by simp[jL]at D;rcases D with rfl|rfl|rfl|rfl|rfl|rfl|rfl|rfl|rfl|rfl<;>first|rfl|exact v
 have l:∀u∈rD L _,u.oneCell'=true:=λu D=>by rw[yx]at D;obtain⟨⟨a,s⟩,hp,D⟩:=YF.1 D;refine N _ _ _ _ ?_ u D;obtain⟨i,o,e⟩:=XU hp;rw[List.getElem_zip]at e;injection e with X f;rw[List.length_zip]at o;obtain⟨a3,c3,T⟩:=dt (hS.sl i a s (by rw[<-X];exact iN (by omega)) (by rw[<-f];exact iN (by omega)));rw[T];rfl
 obtain⟨I,G,r1,g,b1⟩:=S.up4.cz Z l hq (by omega) (by decide);obtain⟨J,R,r2,s2,b2⟩:=g.ca Z (jL p.aj p.mo p.ae slv) W (N _ _ _ _ (by rw[eq];rfl)) (by unfold maxLen;omega) (by omega);obtain⟨a1,c1,X⟩:=dt g.hd;obtain⟨a2,c2,f⟩:=dt s2.hd;obtain⟨v3,y3,r3,A,b3⟩:=s2.cn Z l hq (by omega) (by omega) (by decide);obtain⟨a3,c3,T⟩:=dt A.hd;have U:=b1.trans (b2.trans b3);refine⟨I,G,J,R,v3,y3,r1,r2,r3,⟨_,_,_,T⟩,⟨_,_,X⟩,⟨_,_,f⟩,g.tl.tl.hd,sls.take q++slv::sls.drop q,?_,h2.trans U⟩;have F:(L.take q++(⟨p.aj,p.mo,p.ae,ss⟩)::L.drop q).length=q+1+(L.length-q):=by rw[Xm,X2,XB,X8];omega
 rw[F,<-Rm L hS.len q];have s4:=A.sw.tl.cD.bh (List.Perm.refl _);have H:Sep _ ([fp 54 8 _ _ _,LK L _]++[fp 34 10 v3 _ _,rRd Y P V]) y3:=A.sw.tl.bG.tl.sw.bG.sw;have s6:=H.step (q':=[LK _ (sls.take q++slv::sls.drop q)]) (λr hr=>by
  obtain rfl:=BY.1 hr;refine⟨by rw[F,Xm,X2,XB,X8,H.tl.hd.len];omega,λi a s C v=>?_⟩;have hl:=H.tl.hd.len;by_cases o:i<q
  .rw[Xv (by rw[XB];omega),ZT,At o]at C v;exact H.tl.hd.sl i a s C v
  .rw[Xx (by rw[XB];omega),XB,Zg (by omega)]at C v;by_cases hj:i=q
   .rw[hj,Nat.sub_self]at C v;injection C with C;injection v with v;subst C v;exact H.hd
   obtain⟨m,hm⟩:∃m,i-q=m+1:=⟨i-q-1,by omega⟩
   rw[hm,List.getElem?_cons_succ,List.getElem?_drop]at C v;exact H.tl.hd.sl _ a s C v) (XO _ _) (DO _) (λ_ _ _=>W) (λr hr k w=>by
  obtain rfl:=BY.1 hr;obtain⟨s,v,w⟩:=w;rcases Xr.1 v with v|v
  .exact LZ ⟨_,IN _ Xz,s,YY v,w⟩
  rcases IF.1 v with rfl|v
  .exact LZ ⟨_,Xz,w⟩
  exact LZ ⟨_,IN _ Xz,s,List.mem_of_mem_drop v,w⟩)
 exact s6.sw
section
variable {s:Act}
def PU{H:Vr}(G:tG s t (iI (a:Int)))(D:tG s u (iI (b:Int)))(h:a<b)(C:K (s.put (some d) (.bool true)) x):Oper.wp prog ⟨some d,.binOp .lss 3 (.tmp t) (.tmp u) 3,H,pos,af,gd⟩ s x K Q:=by go_simp;exact C
def zB{H:Vr}(he:tG s t (sL gg len E))(D:tG s u (iI (j:Int)))(C:j<len)(G:K (s.put (some d) (pq gg (j*8))) x):Oper.wp prog ⟨some d,.indexAddr 32 (.tmp t) (.tmp u),H,pos,af,gd⟩ s x K Q:=by refine qb he D C ?_;grind
def uv{H:Vr}(he:tG s t (sL gg len E))(D:tG s u (iI (j:Int)))(C:j<len)(G:K (s.put (some d) (pq gg (j*10))) x):Oper.wp prog ⟨some d,.indexAddr 35 (.tmp t) (.tmp u),H,pos,af,gd⟩ s x K Q:=by refine gK he D C ?_;grind
end
theorem Cc{α:Type}{lt:α->Bool}{x:α}:∀(l:List α),(nA lt x l).length=l.length+1
 |[]=>rfl
 |a::l=>by
  unfold nA;split
  .rw[X2,Cc l];rfl
  rfl
theorem Hv(a:Nat):∀(l:List Slt)(D:List (Nat×Nat)),(l.foldl (Hn a) D).length<=D.length+l.length
 |[],D=>DO _
 |s::l,D=>by
  have h:=Hv a l (Hn a D s);have C:(Hn a D s).length<=D.length+1:=by
   unfold Hn;split
   .omega
   rw[Cc];omega
  grind
theorem IY(P:RW):∀(l:List Pur)(D:List AcE),(l.foldl (CD P) D).length<=D.length+l.length
 |[],D=>DO _
 |s::l,D=>by
  have h:=IY P l (CD P D s);have C:(CD P D s).length<=D.length+1:=by
   unfold CD;split
   .omega
   rw[Cc];omega
  grind
theorem GK:∀(l:List Slt)(P:RW),(nW P l).sl=P.sl
 |[],P=>rfl
 |s::l,P=>(GK l _).trans (kK s.aj P).1
theorem G7:∀(l:List Slt)(P:RW),(nW P l).pu.length<=P.pu.length+l.length
 |[],P=>DO _
 |s::l,P=>by have C:=G7 l (bc s.aj P).2;grind[nW,bc]
def PZ{l:List Slt}{s:Slt}{P:RW}:nW P (l++[s])=(bc s.aj (nW P l)).2:=by grind[nW]
theorem wV(c:BA):∀(n i:Nat)(r:Vf),c.size-i=n->r.length<=(ByteArray.toList.loop c i r).length
 |0,i,r,h=>by grind[ByteArray.toList.loop]
 |n+1,i,r,h=>by unfold ByteArray.toList.loop;rw[AV];exact By (ZN _) (wV c n _ (c.get! i::r) (by omega))
def zJ{c:BA}:c.toList=[]↔c.size=0:=by
 unfold ByteArray.toList;constructor
 .intro h;apply YA;intro C;unfold ByteArray.toList.loop at h;rw[AV]at h;have:=wV c _ 1 (c.get! 0::[]) W;rw[h]at this;exact absurd this (by simp)
 grind[ByteArray.toList.loop]
def Ci{sl:List Slt}{x:WD}(h:Sep O (iK hb pu sl pv lv::rs) x)(m0:pu.length<=400000000)(b8:sl.length<=400000000):cP 44 #[pt hb] x λe y=>∃v,e=.returned v/\AcIn y v (uJ ⟨pu,sl,[]⟩)/\bW x y:=by
 obtain⟨P,HP⟩:∃P:RW,Hd (P=⟨pu,sl,[]⟩):=⟨_,W⟩
 rw[<-HP.aa];let⟨W9,i5⟩:=dP (uJ P);rw[<-i5.aa];have hP1:P.pu.length<=400000000:=by rw[HP.aa];exact m0
 have m7:P.sl.length<=400000000:=by rw[HP.aa];exact b8
 have l4:Hd (DP 0 P ⟨pv,lv,dL,[]⟩ x):=by rw[HP.aa];exact⟨h.hd.pu,h.hd.sl,Xy _ _ _ _,W,λi l t hl=>by cases hl⟩
 have l5:=cV (yN l4 (by omega) (by omega) (by rw[HP.aa];exact In _));have r0:=rowL.cell (i:=0) h.hd.row W;have r1:=rowL.cell (i:=1) h.hd.row W;have r2:=rowL.cell (i:=2) h.hd.row W;have m4:Hd (∀(V':DV)(y2:WD),PW x.heap.size P V' y2->bW x y2->(∃a1 n1 c1 a2 n2 c2 a3 n3 c3,V'.pv=.slice a1 n1 c1/\V'.lv=.slice a2 n2 c2/\V'.gv=.slice a3 n3 c3)/\WQ x.heap.size y2.heap.size P [] (y2.alloc (.cells _ 146))):=λV' y2 hp e0=>by have l8:bW y2 (y2.alloc (.cells #[V'.pv,V'.lv,V'.gv] 146)):=ai (dO _ y2) _;have hw:=hp y2.heap.size _ (rowL.al y2 _ _) l8 e0.size;let⟨a1,c1,e1⟩:=dt hw.pu;let⟨a2,c2,e2⟩:=dt hw.sl;let⟨a3,c3,e3⟩:=dt hw.lg;exact⟨⟨_,_,_,_,_,_,_,_,_,e1,e2,e3⟩,V',hw,λp hp=>(by cases hp),qac,By e0.size l8.size⟩
 clear h l4 m0 b8;go_enter func44,ntmps44;go_upto_region 2 with(first|(go_at_call 68;refine l5.mono ?_;rintro e y2⟨⟨v1,v2,v3,tv⟩,rfl, -,m1,e0⟩;obtain⟨⟨a1,n1,c1,a2,n2,c2,a3,n3,c3,rfl,rfl,rfl⟩,HW⟩:=m4.aa _ _ m1 e0)|fail);let⟨y3,i3⟩:=hJ (y2.alloc (.cells #[.slice a1 n1 c1,.slice a2 n2 c2,.slice a3 n3 c3] 146));let⟨Y,j1⟩:=hJ y2.heap.size;have m2:Hd (bW x y3):=by rw[i3];exact ai e0 _
 have m3:Hd (WQ x.heap.size Y P [] y3):=by rw[i3,j1];exact HW
 rw[<-i3,<-j1];clear i3 j1 m1 e0 HW m4 l5 r0 r1 r2 HP;let⟨N,HN⟩:=dP P.sl.length;go_wp2;go_loopw[4] (λt4 wr=>∃i:Nat,i<=N/\t4=iI (i:Int)/\Hd (WQ x.heap.size Y (nW P (P.sl.take i)) [] wr/\bW x wr)) (λt4 _=>N-nI t4);case atStart=>exact⟨0,In _,W,m3,m2⟩
 clear m3 m2;obtain⟨i,hi,rfl,HI⟩:=hrel;let⟨f0,h8⟩:=HI.aa;have m5:=f0;obtain⟨V,hdw, -, -, -⟩:=m5;have b8:=hdw.sl;rw[GK]at b8;let⟨a5,p5,e5⟩:=dt b8;rw[<-HN.aa]at e5;have r1:=rowL.cell (i:=1) hdw.row W;rw[e5]at r1 b8;by_cases j0:i<N;case pos=>
  have d4:i<P.sl.length:=by rw[<-HN.aa];exact j0
  obtain⟨hne,g5,rfl,hg5,J, -⟩:=fH (fO b8 (In _)) i d4;obtain⟨sa,e4⟩:∃sa:Nat,Hd (sa=P.sl[i].aj):=⟨P.sl[i].aj,cV W⟩
  have D:∀j u,j<13->(oj P.sl[i])[j]?=some u->wr.cell? _=some u:=λj u c hu=>J j u c ((oW (f:=oj) (λ_=>W) P.sl i d4 j c).trans hu);have s0:cL wr g5 (i*13) (iU (cX sa 0)):=D 0 _ (by omega) (by rw[e4.aa];rfl);have s1:wr.cell? _=some (iU (cX sa 1)):=D 1 _ (by omega) (by rw[e4.aa];rfl);have s2:wr.cell? _=some (iU (cX sa 2)):=D 2 _ (by omega) (by rw[e4.aa];rfl);have s3:wr.cell? _=some (iU (cX sa 3)):=D 3 _ (by omega) (by rw[e4.aa];rfl);have l2:=G7 (P.sl.take i) P;have htk:(P.sl.take i).length<=P.sl.length:=by simp_all
  have l3:=cV (qE sa f0);have d8:Hd ((bc sa (nW P (P.sl.take i))).2=nW P (P.sl.take (i+1))):=by show _=_;rw[Yy,iN d4,e4.aa];exact(PZ).symm
  have HBW:=cV h8;rw[d8.aa]at l3;clear D J b8 hdw f0 hne hg5 HI l2 h8 e4 d8;go_wp2_with(go_at_call 70;refine l3.mono ?_;rintro e y⟨rfl,k1,k2⟩);exact⟨⟨i+1,by omega,by go_num,k1,HBW.trans k2⟩,by simp[nI];omega⟩
 rw[XA (by rw[<-HN.aa];omega)]at f0;let⟨V,f1⟩:=f0.rd;let⟨G,h3⟩:=dP (nW P P.sl);rw[<-h3.aa]at f1;have HWR:Hd (W9=G.pu.foldl (CD G) []):=by rw[h3.aa];exact i5
 have k7:Hd (G.sl.length=N):=by rw[h3.aa,HN.aa];exact Xl _ (GK P.sl P)
 have hnp:G.pu.length<=800000000:=by rw[h3.aa];have:=G7 P.sl P;omega
 have hN:N<=400000000:=by rw[HN.aa];exact m7
 let⟨NP,f7⟩:=dP G.pu.length;rw[<-f7.aa]at hnp;let⟨a6,p6,e6⟩:=dt f1.tl.tl.hd.pu;let⟨a7,p7,e7⟩:=dt f1.tl.tl.hd.sl;rw[<-f7.aa]at e6;rw[k7.aa]at e7;have HO:Hd (OutI x Y G V [] dL wr):=⟨[],f1,h8⟩
 clear b8 hdw f0 HI h8 f1 h3 HN hP1 m7 i5;go_wp2;go_loopw[5,6] (λt5 t6 wr=>∃i:Nat,i<=NP/\t6=iI (i:Int)/\Hd (OutI x Y G V ((G.pu.take i).foldl (CD G) []) t5 wr)) (λ_ t6 _=>NP-nI t6);case atStart=>exact⟨0,In _,W,HO⟩
 clear HO;obtain⟨i,hi,rfl,HO⟩:=hrel;let⟨sls,C,U⟩:=HO.aa;have r0:=rowL.cell (i:=0) C.tl.tl.hd.row W;rw[e6]at r0;by_cases j0:i<NP;case neg=>
  rw[XA (by rw[<-f7.aa];omega)]at HO;have HE:Hd (AcIn wr u5 W9/\bW x wr):=by rw[HWR.aa];let⟨sls,h1,h2⟩:=HO.aa;exact⟨AcOwn.is (O:=0) ⟨sls,h1.tl.hd.len,h1.hd,h1.tl.hd.sl⟩,h2⟩
  clear HO C U;go_wp2;go_ret;exact⟨_,W,HE⟩
 have d4:i<G.pu.length:=by rw[<-f7.aa];exact j0
 obtain⟨p,k3⟩:∃p,Hd (p=G.pu[i]):=⟨G.pu[i],cV W⟩
 have f2:Hd (∀z,CD G _ p=z->(G.pu.take (i+1)).foldl (CD G) []=z):=λz hz=>by rw[Yy,iN d4,List.foldl_append,<-k3.aa];exact hz
 have d7:=C.tl.tl.hd.pu;rw[e6]at d7;obtain⟨-,g6,rfl,hg6,J, -⟩:=fH d7 i d4;have D:∀j u,j<9->(qX p)[j]?=some u->wr.cell? _=some u:=λj u c hu=>J j u c ((oW (f:=qX) (λ_=>W) G.pu i d4 j c).trans (by rw[<-k3.aa];exact hu));let⟨pa,I,pc⟩:=p;have s0:=D 0 _ (by omega) W;have s1:=D 1 _ (by omega) W;have s2:=D 2 _ (by omega) W;have s3:=D 3 _ (by omega) W;have s4:=D 4 _ (by omega) W;have s5:=D 5 _ (by omega) W;have s6:=D 6 _ (by omega) W;have s7:=D 7 _ (by omega) W;have s8:=D 8 _ (by omega) W;simp only[Ye]at s0;let⟨L,HL⟩:=dP ((G.pu.take i).foldl (CD G) []);rw[<-HL.aa]at HO f2;clear D J d7 hg6 k3 d4 C U;have R:=cV (HO.aw ⟨pa,I,pc⟩);let⟨y4,i6⟩:=hJ ((wr.alloc (.cells #[iU (cX pa 0),iU (cX pa 1),iU (cX pa 2),iU (cX pa 3),iU (cX I 0),iU (cX I 1),iU (cX I 2),iU (cX I 3),.string pc] 150)).alloc (.cells #[iU (cX pa 0),iU (cX pa 1),iU (cX pa 2),iU (cX pa 3),iU (cX I 0),iU (cX I 1),iU (cX I 2),iU (cX I 3),.string pc,.slice none 0 0] 34));replace R:Hd (SlI x Y G V L u5 wr.heap.size (wr.heap.size+1) ⟨pa,I,pc⟩ [] dL y4):=by rwa[i6]
 let⟨pb,i4⟩:=hJ wr.heap.size;let⟨ab,k5⟩:=hJ (wr.heap.size+1);rw[<-k5,<-i4]at R;go_upto_region 12 with fail
 rw[<-i6,<-k5,<-i4];clear i6 k5 i4 HO s0 s1 s2 s3 s4 s5 s6 s7 s8 r0;go_wp2;go_loopw[9] (λt9 wr=>∃k:Nat,k<=N/\t9=iI (k:Int)/\∃slv,Hd (SlI x Y G V L u5 pb ab ⟨pa,I,pc⟩ ((G.sl.take k).foldl (Hn pa) []) slv wr)) (λt9 _=>N-nI t9);case atStart=>exact⟨0,In _,W,dL,R⟩
 clear R;obtain⟨k,hk,rfl,slv,R⟩:=hrel;let⟨sls,C,U⟩:=R.aa;have i1:=C.tl.tl.tl.tl.tl.hd;have r1:=rowL.cell (i:=1) i1.row W;rw[e7]at r1;by_cases hkt:k<N;case neg=>
  rw[XA (by rw[k7.aa];omega)]at R;clear i1 C U;go_upto_region 25 with fail
  clear r1;let⟨ss,c0⟩:=dP (EP G.sl pa);rw[show G.sl.foldl (Hn pa) []=ss from c0.aa.symm]at R;let⟨z9,j7⟩:=dP (decide (I%M=0));have g3:Hd (∀x,cP 67 #[wv I] x λe y=>e=.returned (.bool z9)/\bW x y):=by rw[j7.aa];exact je I
  let⟨sls,C,U⟩:=R.aa;have v0:=rowL.cell (i:=4) C.hd W;have v1:=rowL.cell (i:=5) C.hd W;have v2:=rowL.cell (i:=6) C.hd W;have v3:=rowL.cell (i:=7) C.hd W;clear C U;go_upto_region 26 with(first|(go_at_call 67;refine(g3.aa _).mono ?_;rintro e y6⟨rfl,g1⟩)|fail);have A:=cV (R.bel g1);clear g1 v0 v1 v2 v3 g3 R;let⟨sls,C,U⟩:=A.aa;let⟨a8,c8,e8⟩:=dt C.tl.hd;let⟨m8,T⟩:=dP ss.length;rw[<-T.aa]at e8;have r8:=rowL.cell (i:=8) C.hd W;have r9:=rowL.cell (i:=9) C.hd W;rw[e8]at r9;let⟨b9,d6⟩:=dP (decide (pc.size=0));have d9:if b9=true then pc.toList=[]else¬pc.toList=[]:=by
   rw[d6.aa];by_cases h0:pc.size=0
   .rw[OsQ h0,At W];exact zJ.2 h0
   rw[W8 h0];exact λh=>h0 (zJ.1 h)
  have n0:decide (((m8:Nat):Int)=0)=decide (m8=0):=Yp.2 (by omega);have h7:Hd (CD G L ⟨pa,I,pc⟩=if (z9&&b9&&decide (m8=0))=true then L else nA (λq=>iX q.aj pa) ⟨pa,I,pc,ss⟩ L):=by
   show CD _ _ _=_;have g0:Dd G ⟨pa,I,pc⟩↔(z9&&b9&&decide (m8=0))=true:=by rw[j7.aa,d6.aa,T.aa];unfold Dd;rw[c0.aa.symm];simp[and_assoc]
   unfold CD;by_cases hq:Dd G ⟨pa,I,pc⟩
   .rw[At hq,At (g0.1 hq)]
   rw[iF hq,iF λh=>hq (g0.2 h),c0.aa];rfl
  clear C U j7 d6 c0;have dn:(z9=true/\b9=true/\m8=0)\/(z9&&b9&&decide (m8=0))=false:=by
   cases z9<;>cases b9<;>simp
   by_cases h0:m8=0
   .exact LZ h0
   exact A4 h0
  rcases dn with⟨rfl,rfl,rfl⟩|dn
  .have HE:Hd (OutI x Y G V ((G.pu.take (i+1)).foldl (CD G) []) u5 y6):=by rw[f2.aa L (by rw[h7.aa];rfl)];let⟨sls,C,U⟩:=A.aa;exact⟨sls,C.tl.tl.tl,U⟩
   clear A h7 f2;simp only[qad]at d9;go_wp2;go_roundw;case rel=>exact⟨i+1,by omega,by go_num,HE⟩
   simp[nI];omega
  have d0:Hd (∀y v,OutI x Y G V _ v y->OutI x Y G V ((G.pu.take (i+1)).foldl (CD G) []) v y):=λy v h=>by rw[f2.aa _ (h7.trans (iF (by rw[dn];exact YX)))];exact h
  clear h7 f2;go_cut[135] (λm6 wx=>m6=.bool false/\Hd (SlI x Y G V L u5 pb ab ⟨pa,I,pc⟩ ss slv wx));case first=>
   have j4:z9=false\/(z9=true/\b9=false)\/(z9=true/\b9=true/\decide (((m8:Nat):Int)=0)=false):=by rw[n0];revert dn;cases z9<;>cases b9<;>simp
   clear dn d0;rcases j4 with rfl|⟨rfl,rfl⟩|⟨rfl,rfl,hm0⟩
   .go_wp2;go_meet;case rel=>exact⟨W,A⟩
   .simp only[Bool.false_eq_true,Zw]at d9;go_wp2;go_meet;case rel=>exact⟨W,A⟩
   simp only[qad]at d9;have hm1:((m8:Int)==0)=false:=by simpa using hm0
   go_wp2;go_meet;case rel=>exact⟨W,A⟩
  obtain⟨rfl,HY⟩:=hcut;clear A d9 n0 dn r8 r9 T;let⟨sls,C,U⟩:=HY.aa;let⟨a9,c9,e9⟩:=dt C.tl.tl.tl.hd;let⟨m9,d3⟩:=dP L.length;rw[<-d3.aa]at e9;have hm9:m9<=800000000:=by rw[d3.aa,HL.aa];have F:=IY G (G.pu.take i) [];rw[XB,Y5,<-f7.aa]at F;omega
  subst e9;clear C U HL;go_wp2;go_loopw[15] (λj5 wr=>∃q:Nat,q<=m9/\j5=iI (q:Int)/\Hd (SlI x Y G V L (.slice a9 m9 c9) pb ab ⟨pa,I,pc⟩ ss slv wr/\∀(j:Nat) p,j<q->L[j]?=some p->iX p.aj pa=true)) (λj5 _=>m9-nI j5);case atStart=>exact⟨0,In _,W,HY,λj p c=>absurd c (by omega)⟩
  clear HY;obtain⟨q,hq,rfl,HQ⟩:=hrel;let⟨k8,a0⟩:=dP ((L.getD q ⟨0,0,⟨#[]⟩,[]⟩).aj);let⟨b,m⟩:=dP ((decide (q<m9)&&iX k8 pa));go_upto_region 28 with fail
  go_cut[149] (λl6 wx=>l6=.bool b/\Hd (SlI x Y G V L (.slice a9 m9 c9) pb ab ⟨pa,I,pc⟩ ss slv wx));case first=>
   by_cases a4:q<m9;case neg=>
    have e:b=false:=by rw[m.aa,W8 a4];rfl
    go_quiet (fail);go_wp2;go_meet;case rel=>exact⟨by rw[e],HQ.1.bel (ea (dO _ _) _)⟩
   have e:b=iX k8 pa:=by rw[m.aa,OsQ a4];simp
   have n:q<L.length:=by rw[<-d3.aa];exact a4
   have f3:Hd (∃g9,a9=some ⟨g9,0,none⟩/\∀y,SlI x Y G V L (.slice a9 m9 c9) pb ab ⟨pa,I,pc⟩ ss slv y->Wd y g9 (q*10) k8/\Wd y ab 0 pa):=by
    obtain⟨sls,C, -⟩:=HQ.aa.1;obtain⟨-,g9,rfl, -, -, -⟩:=fH C.tl.tl.tl.hd q n;refine⟨g9,W,λy hy=>?_⟩;obtain⟨sls,C, -⟩:=hy;obtain⟨-,g10,j8, -,J, -⟩:=fH C.tl.tl.tl.hd q n;obtain rfl:g9=g10:=by injection j8 with j8;injection j8
    have hls:=C.tl.tl.tl.tl.hd.len;have hzl:q<(L.zip sls).length:=by rw[List.length_zip];omega
    have hg:∀j,j<4->(rD L sls)[q*10+j]?=some (iU (cX k8 j)):=λj c=>by
     rw[yx];refine(oW (f:=λp:AcE×VL=>jL p.1.aj p.1.ai p.1.ae p.2) (λ_=>W) (L.zip sls) q hzl j (by omega)).trans ?_;rw[List.getElem_zip,a0.aa,gE L _ n];match j,c with
     |0,_=>rfl
     |1,_=>rfl
     |2,_=>rfl
     |3,_=>rfl
    have t1:=C.hd;exact⟨⟨J 0 _ (by omega) (hg 0 (by omega)),J 1 _ (by omega) (hg 1 (by omega)),J 2 _ (by omega) (hg 2 (by omega)),J 3 _ (by omega) (hg 3 (by omega))⟩,rowL.cell (i:=0) t1 W,rowL.cell (i:=1) t1 W,rowL.cell (i:=2) t1 W,rowL.cell (i:=3) t1 W⟩
   obtain⟨g9,rfl,c⟩:=f3.aa;have HJ:Hd (SlI x Y G V L _ pb ab ⟨pa,I,pc⟩ ss slv wr):=HQ.aa.1;have l1:Hd (Bc λy=>SlI x Y G V L (sL g9 m9 c9) pb ab ⟨pa,I,pc⟩ ss slv y):=λy z h hb=>h.bel hb;have d5:=cV c;clear HQ f3 c a0 m d0;refine Gs [(5,(.slice _ m9 c9)),(8,(pt ab)),(15,(iI (q:Int)))] (nV 136 [_,sL g9 m9 c9,_,.bool true,.bool true,sL g9 m9 c9,_,_,_,wv k8,pt ab,wv pa,.bool (iX k8 pa),.bool (iX k8 pa)]) [3,7,9,11,12] W l1 HJ ⟨(js λs x hs K hK=>PU (hs 136 _ W) (hs 138 _ W) a4 hK),(js λs x hs K hK=>uv (hs 141 _ W) (hs 142 _ W) a4 hK),(jw W λx hx=>(d5 x hx).1),(jw W λx hx=>(d5 x hx).2),(jl W λx _=>jz k8 pa x),AF⟩ λx hx=>?_;simp only[n8,sx9];have HY:=cV hx;go_wp2;go_meet;case rel=>exact⟨by rw[e],HY⟩
  obtain⟨rfl,HY⟩:=hcut;cases hb:b with
  |true=>
   have g4:Hd (q<m9/\∀(j:Nat) p,j<q+1->L[j]?=some p->iX p.aj pa=true):=by
    have F:=m.aa;rw[hb]at F;let⟨h5,h6⟩:=(Xo _ _).mp F.symm;refine⟨Xd h5,λj p c hp=>?_⟩;by_cases ej:j=q
    .subst ej;rw[a0.aa,If,hp]at h6;exact h6
    exact HQ.2 j p (by omega) hp
   have i9:=g4.aa.1;clear HQ m hb d0;go_wp2;go_roundw;case rel=>exact⟨q+1,by omega,by go_num,HY,g4.2⟩
   simp[nI];omega
  |false=>
   have l7:Hd (nA (λp=>iX p.aj pa) ⟨pa,I,pc,ss⟩ L=L.take q++⟨pa,I,pc,ss⟩::L.drop q):=by refine Gl (λj p c hp=>HQ.2 j p c hp) (λp hp=>?_) (by rw[<-d3.aa];exact hq);have F:=m.aa;rw[hb]at F;have n:=(Do.1 hp).1;rw[OsQ (show q<m9 by rw[d3.aa];exact n),YG,a0.aa,If,hp]at F;exact F.symm
   clear HQ m hb a0;obtain⟨v1,y1,v2,y2,v3,y3,S,o,H,⟨a12,n12,c12,rfl⟩,⟨f4,f5,rfl⟩,⟨j2,k9,rfl⟩,b6,HE⟩:=HY.aa.put q (by rw[<-d3.aa];exact hq) (by rw[<-d3.aa];omega);rw[l7.aa.symm]at HE;replace HE:=cV (d0 _ _ HE);let⟨sls,C,U⟩:=HY.aa;have b7:=C.tl.tl.tl.hd;let⟨a8,c8,e8⟩:=dt C.tl.hd;let⟨m8,T⟩:=dP ss.length;rw[<-T.aa]at e8;rw[e8]at b6 o;replace b6:=cV b6;replace o:=cV o;clear HY d0 l7 C U T;have dn:(a9=none/\m9=0/\c9=0)\/∃g9,a9=some ⟨g9,0,none⟩/\m9<=c9:=by
    rcases b7.2 with⟨e1,_⟩|⟨g,E,cur,e1,_,_,F,_⟩
    .injection e1 with e1 e2 e3;exact LZ ⟨e1,e2,e3⟩
    injection e1 with e1 e2 e3;exact A4 ⟨g,e1,by rw[d3.aa,e3];exact F⟩
   clear b7;replace o:Hd ((Builtin.append_ #[35,35] 35 _).run prog (y1.alloc (.cells #[iU (cX pa 0),iU (cX pa 1),iU (cX pa 2),iU (cX pa 3),iU (cX I 0),iU (cX I 1),iU (cX I 2),iU (cX I 3),.string pc,.slice a8 m8 c8] 34))=.ok _ y2):=o;rcases dn with⟨rfl,rfl,rfl⟩|⟨g9,rfl,hmc⟩;case' inl=>
    obtain rfl:q=0:=by omega
    replace S:Hd ((Builtin.append_ #[35,35] 35 #[.slice none 0 0,.slice none 0 0]).run prog wc=.ok (.slice f4 0 f5) y1):=S;replace H:Hd ((Builtin.append_ #[35,35] 35 #[.slice j2 (0+1) k9,.slice none 0 0]).run prog y2=.ok _ y3):=H;simp only[XF,show((0:Nat):Int)=0 from W]at*
   case' inr=>
    replace S:Hd ((Builtin.append_ #[35,35] 35 #[.slice none 0 0,.slice _ q c9]).run prog wc=.ok (.slice f4 q f5) y1):=S;have hqc:(q:Int)<=(c9:Int):=by omega
    have i9:(q:Int)<=(m9:Int):=by omega
    have hq0:(0:Int)<=(q:Int):=by omega
    by_cases f9:c9=q;case' pos=>
     obtain rfl:q=c9:=f9.symm;obtain rfl:q=m9:=by omega
     have e9:nS (sL g9 q q) q 10=sL g9 0 0:=by unfold nS;simp
     rw[e9]at H;replace H:=cV H
    case' neg=>
     have e9:nS (sL g9 m9 c9) q 10=.slice (some ⟨g9,q*10,none⟩) (m9-q) (c9-q):=by unfold nS;dsimp only;rw[iF f9];simp[Addr.add,qag]
     rw[e9]at H;replace H:=cV H
   all_goals
    go_upto_region 32 with(first|(at_builtin;refine Lib.wpList_append_run _ rfl _ _ _ _ rfl _ _ rfl rfl _ _ S ?_)|fail);have bb:=b6.aa.cs;simp only[oI,jL,Nat.reduceAdd]at bb;go_upto_region 33 with(first|(at_builtin;refine Lib.wpList_append_run _ rfl _ _ _ _ rfl _ _ rfl rfl _ _ o ?_)|fail);clear bb S o b6;go_wp2_with(first|(at_builtin;refine Lib.wpList_append_run _ rfl _ _ _ _ rfl _ _ rfl rfl _ _ H ?_)|fail);go_roundw;case rel=>exact⟨i+1,by omega,by go_num,HE⟩
    simp[nI];omega
 have i2:k<G.sl.length:=by rw[k7.aa];exact hkt
 obtain⟨s,l0⟩:∃s,Hd (s=G.sl[k]):=⟨G.sl[k],cV W⟩
 let⟨ss,c0⟩:=dP ((G.sl.take k).foldl (Hn pa) []);have d8:Hd ((G.sl.take (k+1)).foldl (Hn pa) []=Hn pa ss s):=by show _=_;rw[Yy,iN i2,List.foldl_append,c0.aa,l0.aa];rfl
 have hss:ss.length<=400000000:=by rw[c0.aa];have F:=Hv pa (G.sl.take k) [];rw[XB,Y5]at F;omega
 rw[<-c0.aa]at R C;have d7:=i1.sl;rw[e7]at d7;obtain⟨-,g7,rfl,hg7,J, -⟩:=fH d7 k i2;have D:∀j u,j<13->(oj s)[j]?=some u->wr.cell? _=some u:=λj u c hu=>J j u c ((oW (f:=oj) (λ_=>W) G.sl k i2 j c).trans (by rw[<-l0.aa];exact hu));let⟨sa,sk,X,Z⟩:=s;have s0:=D 0 _ (by omega) W;have s1:=D 1 _ (by omega) W;have s2:=D 2 _ (by omega) W;have s3:=D 3 _ (by omega) W;have s4:=D 4 _ (by omega) W;have s5:=D 5 _ (by omega) W;have s6:=D 6 _ (by omega) W;have s7:=D 7 _ (by omega) W;have s8:=D 8 _ (by omega) W;have s9:=D 9 _ (by omega) W;have s10:=D 10 _ (by omega) W;have s11:=D 11 _ (by omega) W;have s12:=D 12 _ (by omega) W;simp only[Ye]at s0;have l9:=R.aa.aK ⟨sa,sk,X,Z⟩;clear D J d7 hg7 i2 i1 C U l0 c0;let⟨y5,i8⟩:=hJ (wr.alloc (.cells #[iU (cX sa 0),iU (cX sa 1),iU (cX sa 2),iU (cX sa 3),iU (cX sk 0),iU (cX sk 1),iU (cX sk 2),iU (cX sk 3),iU (cX X 0),iU (cX X 1),iU (cX X 2),iU (cX X 3),.bool Z] 152));let⟨sb,j6⟩:=hJ wr.heap.size;have j3:Hd (SsI x Y G V L u5 pb ab sb ⟨pa,I,pc⟩ ⟨sa,sk,X,Z⟩ ss slv y5):=by rw[i8,j6];exact l9
 go_upto_region 16 with fail
 rw[<-i8,<-j6];clear i8 j6 l9 s0 s1 s2 s3 s4 s5 s6 s7 s8 s9 s10 s11 s12 r1 R;let⟨z8,i7⟩:=dP (decide (X%M=0));have g3:Hd (∀x,cP 67 #[wv X] x λe y=>e=.returned (.bool z8)/\bW x y):=by rw[i7.aa];exact je X
 have f8:=j3.aa.r.1;have v0:=f8.cell (i:=8) W;have v1:=f8.cell (i:=9) W;have v2:=f8.cell (i:=10) W;have v3:=f8.cell (i:=11) W;go_upto_region 17 with(first|(go_at_call 67;refine(g3.aa _).mono ?_;rintro e y6⟨rfl,g1⟩)|fail);have A:=cV (j3.bel g1);clear g1 f8 v0 v1 v2 v3 g3 j3;obtain⟨q1, -,q3, -⟩:=A.aa.r;have b12:=q1.cell (i:=12) W;have b0:=q1.cell (i:=0) W;have b1:=q1.cell (i:=1) W;have b2:=q1.cell (i:=2) W;have b3:=q1.cell (i:=3) W;have p0:=q3.cell (i:=0) W;have p1:=q3.cell (i:=1) W;have p2:=q3.cell (i:=2) W;have p3:=q3.cell (i:=3) W;let⟨b9,d6⟩:=dP (gN sa pa);have d9:∀w,(Op.equalIn 10000 24 (wv sa) (wv pa)).run prog w=.ok b9 w:=λw=>by rw[ig,d6.aa]
 have i0:Hd (Hn pa ss ⟨sa,sk,X,Z⟩=if (Z||(z8|| !b9))=true then ss else nA (λq=>iX q.1 sk) (sk,X) ss):=by
  show Hn _ _ _=_;have g0:xJ pa ⟨sa,sk,X,Z⟩↔(Z||(z8|| !b9))=true:=by rw[i7.aa,d6.aa];unfold xJ gN;simp
  unfold Hn;by_cases hq:xJ pa ⟨sa,sk,X,Z⟩
  .rw[At hq,At (g0.1 hq)]
  rw[iF hq,iF λh=>hq (g0.2 h)]
 clear q1 q3 i7 d6;have dn:(Z||(z8|| !b9))=true\/(Z=false/\z8=false/\b9=true):=by cases Z<;>cases z8<;>cases b9<;>simp
 rcases dn with dn|⟨rfl,rfl,rfl⟩
 .have HX:Hd (∃slv,SlI x Y G V L u5 pb ab ⟨pa,I,pc⟩ ((G.sl.take (k+1)).foldl (Hn pa) []) slv y6):=by rw[d8.aa,i0.aa,At dn];exact⟨slv,A.sl⟩
  clear A i0 d8;have j4:Z=true\/(Z=false/\z8=true)\/(Z=false/\z8=false/\b9=false):=by revert dn;cases Z<;>cases z8<;>cases b9<;>simp
  clear dn;rcases j4 with rfl|⟨rfl,rfl⟩|⟨rfl,rfl,rfl⟩;all_goals
   go_wp2;let⟨d1,hx⟩:=HX.aa;exact⟨⟨k+1,by omega,by go_num,d1,hx⟩,by simp[nI];omega⟩
 have HX:Hd (∀d1 y,SlI x Y G V L u5 pb ab ⟨pa,I,pc⟩ (nA _ (sk,X) ss) d1 y->SlI x Y G V L u5 pb ab ⟨pa,I,pc⟩ ((G.sl.take (k+1)).foldl (Hn pa) []) d1 y):=λd1 y h=>by rwa[d8.aa,i0.aa]
 clear i0 d8;go_upto_region 18 with fail
 clear b12 b0 b1 b2 b3 p0 p1 p2 p3 d9;let⟨a8,c8,e8⟩:=dt A.r.2.2.2;let⟨m8,T⟩:=dP ss.length;rw[<-T.aa]at e8 hss;go_wp2;go_loopw[12] (λj9 wr=>∃q:Nat,q<=m8/\j9=iI (q:Int)/\Hd (SsI x Y G V L u5 pb ab sb ⟨pa,I,pc⟩ ⟨sa,sk,X,false⟩ ss slv wr/\∀(j:Nat) p,j<q->ss[j]?=some p->iX p.1 sk=true)) (λj9 _=>m8-nI j9);case atStart=>exact⟨0,In _,W,A,λj p c=>absurd c (by omega)⟩
 clear A;obtain⟨q,hq,rfl,HQ⟩:=hrel;let⟨k8,a0⟩:=dP ((ss.getD q (0,0)).1);let⟨b,m⟩:=dP ((decide (q<m8)&&iX k8 sk));have r9:=HQ.aa.1.r.2.1.cell (i:=9) W;rw[e8]at r9;go_upto_region 19 with fail
 go_cut[97] (λt97 wx=>t97=.bool b/\Hd (SsI x Y G V L u5 pb ab sb ⟨pa,I,pc⟩ ⟨sa,sk,X,false⟩ ss slv wx));case first=>
  by_cases a4:q<m8;case neg=>
   have e:b=false:=by rw[m.aa,W8 a4];rfl
   go_quiet (fail);go_wp2;go_meet;case rel=>exact⟨by rw[e],HQ.1.bel (ea (dO _ _) _)⟩
  have e:b=iX k8 sk:=by rw[m.aa,OsQ a4];simp
  have n:q<ss.length:=by rw[<-T.aa];exact a4
  have f3:Hd (∃g8,a8=some ⟨g8,0,none⟩/\∀y,SsI x Y G V L u5 pb ab sb ⟨pa,I,pc⟩ ⟨sa,sk,X,false⟩ ss slv y->cL y ab 9 slv/\Wd y g8 (q*8) k8/\Wd y sb 4 sk):=by
   obtain⟨-, -, -,ho⟩:=HQ.aa.1.r;rw[e8]at ho;obtain⟨-,g8,rfl, -, -, -⟩:=fH ho q n;refine⟨g8,W,λy hy=>?_⟩;obtain⟨t1,t2, -,t4⟩:=hy.r;rw[e8]at t4;obtain⟨-,g9,e9, -,J, -⟩:=fH t4 q n;obtain rfl:g8=g9:=by injection e9 with e9;injection e9
   have hk:(io ss)[q*8+0]?=some (iU (cX k8 0))/\(io ss)[q*8+1]?=some (iU (cX k8 1))/\(io ss)[q*8+2]?=some (iU (cX k8 2))/\(io ss)[q*8+3]?=some (iU (cX k8 3)):=by have F:=qi ss q ss[q] (iN n);rw[show ss[q].1=k8 by rw[a0.aa,gE ss (0,0) n]]at F;exact⟨F 0 (by omega),F 1 (by omega),F 2 (by omega),F 3 (by omega)⟩
   exact⟨t2.cell (i:=9) W,⟨J 0 _ (by omega) hk.1,J 1 _ (by omega) hk.2.1,J 2 _ (by omega) hk.2.2.1,J 3 _ (by omega) hk.2.2.2⟩,t1.cell (i:=4) W,t1.cell (i:=5) W,t1.cell (i:=6) W,t1.cell (i:=7) W⟩
  obtain⟨g8,rfl,c⟩:=f3.aa;have HJ:Hd (SsI x Y G V L u5 pb ab sb ⟨pa,I,pc⟩ _ ss slv wr):=HQ.aa.1;have l1:Hd (Bc λy=>SsI x Y G V L u5 pb ab sb ⟨pa,I,pc⟩ ⟨sa,sk,X,false⟩ ss slv y):=λy z h hb=>h.bel hb;have d5:=cV c;subst e8;clear HQ r9 f3 c a0 m HX;refine Gs [(8,(pt ab)),(10,(pt sb)),(12,(iI (q:Int)))] (nV 82 [_,_,_,_,.bool true,.bool true,_,_,_,_,_,wv k8,_,wv sk,.bool (iX k8 sk),.bool (iX k8 sk)]) [2,4,7,9,11,13,14] W l1 HJ ⟨(jc W λx hx=>(d5 x hx).1),(js λs x hs K hK=>PU (hs 82 _ W) (hs 85 _ W) a4 hK),(jc W λx hx=>(d5 x hx).1),(js λs x hs K hK=>zB (hs 89 _ W) (hs 90 _ W) a4 hK),(jw W λx hx=>(d5 x hx).2.1),(jw W λx hx=>(d5 x hx).2.2),(jl W λx _=>jz k8 sk x),AF⟩ λx hx=>?_;simp only[n8,sx9];have HY:=cV hx;go_wp2;go_meet;case rel=>exact⟨by rw[e],HY⟩
 obtain⟨rfl,HY⟩:=hcut;clear r9;cases hb:b with
 |true=>
  have g4:Hd (q<m8/\∀(j:Nat) p,j<q+1->ss[j]?=some p->iX p.1 sk=true):=by
   have F:=m.aa;rw[hb]at F;let⟨h5,h6⟩:=(Xo _ _).mp F.symm;refine⟨Xd h5,λj p c hp=>?_⟩;by_cases ej:j=q
   .subst ej;rw[a0.aa,If,hp]at h6;exact h6
   exact HQ.2 j p (by omega) hp
  have i9:=g4.aa.1;clear HQ m hb HX;go_wp2;go_roundw;case rel=>exact⟨q+1,by omega,by go_num,HY,g4.2⟩
  simp[nI];omega
 |false=>
  have d0:Hd (nA (λp=>iX p.1 sk) (sk,X) ss=ss.take q++(sk,X)::ss.drop q):=by refine Gl (λj p c hp=>HQ.2 j p c hp) (λp hp=>?_) (by rw[<-T.aa];exact hq);have F:=m.aa;rw[hb]at F;have n:=(Do.1 hp).1;rw[OsQ (show q<m8 by rw[T.aa];exact n),YG,a0.aa,If,hp]at F;exact F.symm
  clear HQ m hb a0;obtain⟨v1,y1,v2,y2,v3,y3,S,o,H,⟨j2,n11,k9,rfl⟩,⟨a9,c9,rfl⟩,⟨f4,f5,rfl⟩,b6,h4,f6,HE⟩:=HY.aa.ins q (by rw[<-T.aa];exact hq) (by rw[<-T.aa];omega);rw[show(ss.take q++(sk,X)::ss.drop q)=_ from d0.aa.symm]at HE;replace HE:=cV (HX _ _ HE);have r9:=HY.aa.r.2.1.cell (i:=9) W;have b7:=HY.aa.r.2.2.2;rw[e8]at r9 b7 S H h4 f6;replace b6:=cV b6;replace h4:=cV h4;replace f6:=cV f6;replace o:=cV o;clear HY HX d0;have dn:(a8=none/\m8=0/\c8=0)\/∃g8,a8=some ⟨g8,0,none⟩/\m8<=c8:=by
   rcases b7.2 with⟨e1,_⟩|⟨g,E,cur,e1,_,_,F,_⟩
   .injection e1 with e1 e2 e3;exact LZ ⟨e1,e2,e3⟩
   injection e1 with e1 e2 e3;exact A4 ⟨g,e1,by rw[T.aa,e3];exact F⟩
  clear b7;replace o:Hd ((Builtin.append_ #[32,32] 32 #[.slice a9 q c9,sL y1.heap.size 1 1]).run prog (y1.alloc (.cells #[iU (cX sk 0),iU (cX sk 1),iU (cX sk 2),iU (cX sk 3),iU (cX X 0),iU (cX X 1),iU (cX X 2),iU (cX X 3)] 54))=.ok (.slice f4 (q+1) f5) y2):=o;rcases dn with⟨rfl,rfl,rfl⟩|⟨g8,rfl,hmc⟩;case' inl=>
   obtain rfl:q=0:=by omega
   replace S:Hd ((Builtin.append_ #[32,32] 32 #[.slice none 0 0,.slice none 0 0]).run prog wc=.ok (.slice a9 0 c9) y1):=S;replace H:Hd ((Builtin.append_ #[32,32] 32 #[.slice f4 (0+1) f5,.slice none 0 0]).run prog y2=.ok (.slice j2 n11 k9) y3):=H;simp only[XF,show((0:Nat):Int)=0 from W]at*
  case' inr=>
   replace S:Hd ((Builtin.append_ #[32,32] 32 #[.slice none 0 0,sL g8 q c8]).run prog wc=.ok (.slice a9 q c9) y1):=S;have hqc:(q:Int)<=(c8:Int):=by omega
   have i9:(q:Int)<=(m8:Int):=by omega
   have hq0:(0:Int)<=(q:Int):=by omega
   by_cases f9:c8=q;case' pos=>
    obtain rfl:q=c8:=f9.symm;obtain rfl:q=m8:=by omega
    have e9:nS (sL g8 q q) q 8=sL g8 0 0:=by unfold nS;simp
    rw[e9]at H;replace H:=cV H
   case' neg=>
    have e9:nS (sL g8 m8 c8) q 8=.slice (some ⟨g8,q*8,none⟩) (m8-q) (c8-q):=by unfold nS;dsimp only;rw[iF f9];simp[Addr.add,qag]
    rw[e9]at H;replace H:=cV H
  all_goals
   go_upto_region 23 with(first|(at_builtin;refine Lib.wpList_append_run _ rfl _ _ _ _ rfl _ _ rfl rfl _ _ S ?_)|fail);have bb:=b6.aa.cs;simp only[oI,oj,wl,XN,XG,Nat.reduceAdd]at bb;go_upto_region 24 with(first|(at_builtin;refine Lib.wpList_append_run _ rfl _ _ _ _ rfl _ _ rfl rfl _ _ o ?_)|fail);clear bb r9 S o b6;have r9:=h4.aa.cell (i:=9) W;have t9:=f6.aa.cell (i:=9) W;have tf:=World.rowIs.frozen f6.aa 9;go_wp2_with(first|(at_builtin;refine Lib.wpList_append_run _ rfl _ _ _ _ rfl _ _ rfl rfl _ _ H ?_)|fail);go_roundw;case rel=>exact⟨k+1,by omega,by go_num,_,HE⟩
   simp[nI];omega
def eT:Vq
 |0=>24
 |1=>112
 |2=>54
 |_=>34
def iT:Vq
 |0=>110
 |1=>36
 |2=>32
 |_=>35
def oT:Vq
 |0=>47
 |1=>48
 |2=>49
 |_=>50
def cZ:Vq
 |0=>4
 |1=>6
 |2=>8
 |_=>10
def bZ:Vq
 |0=>32
 |1=>72
 |2=>64
 |_=>104
def z4:Tn:=[.int .u64 0,.int .u64 0,.int .u64 0,.int .u64 0]
def mW(k:Nat):Tn:=[.int .u64 7,.int .u64 7,.int .u64 7,.int .u64 (k:Int)]
def mC(c k:Nat):Tn:=match c with
 |0=>mW k
 |1=>mW k++[dL,.string ⟨#[]⟩]
 |2=>mW k++z4
 |_=>mW k++(z4++[.string ⟨#[]⟩,dL])
def Mg{c:Nat}(h:c<4):c=0\/c=1\/c=2\/c=3:=by omega
def BP{c:Nat}(h:c<4)(k:Nat):(mC c k).length=cZ c:=by rcases Mg h with rfl|rfl|rfl|rfl<;>rfl
def GS{c:Nat}(h:c<4)(k:Nat):∀u∈mC c k,u.oneCell'=true:=λu C=>by
 rcases Mg h with rfl|rfl|rfl|rfl<;>simp[mC,mW,z4]at C
 .rcases C with rfl|rfl<;>rfl
 .rcases C with rfl|rfl|rfl|rfl<;>rfl
 .rcases C with rfl|rfl|rfl<;>rfl
 rcases C with rfl|rfl|rfl|rfl|rfl<;>rfl
def PF{c:Nat}(h:c<4):0<cZ c:=by rcases Mg h with rfl|rfl|rfl|rfl<;>decide
def Oa{c:Nat}(h:c<4):CF (iT c) (eT c) (cZ c) (bZ c):=by
 rcases Mg h with rfl|rfl|rfl|rfl
 .exact Nw (z:=.agg z4.toArray) (by kernel_rfl) (by kernel_rfl) (by kernel_rfl)
 .exact Nw (z:=.agg (z4++[dL,.string ⟨#[]⟩]).toArray) (by kernel_rfl) (by kernel_rfl) (by kernel_rfl)
 .exact Nw (z:=.agg (z4++z4).toArray) (by kernel_rfl) (by kernel_rfl) (by kernel_rfl)
 exact Nw (z:=.agg (z4++(z4++[.string ⟨#[]⟩,dL])).toArray) (by kernel_rfl) (by kernel_rfl) (by kernel_rfl)
def ti_out{c:Nat}(h:c<4):CF (oT c) (iT c) 1 24:=by rcases Mg h with rfl|rfl|rfl|rfl<;>exact Nw (z:=dL) (by kernel_rfl) (by kernel_rfl) (by kernel_rfl)
def pU{c:Nat}(C:c<4)(D:d<4):(c≠d->eT c≠eT d)/\(c≠d->iT c≠iT d)/\eT c≠iT d/\eT c≠52/\iT c≠52:=by rcases Mg C with rfl|rfl|rfl|rfl<;>rcases Mg D with rfl|rfl|rfl|rfl<;>decide
def tg(n:Nat)(m:Tn):Tn:=(List.replicate n m).flatten
def E0(n:Nat)(m:Tn):tg (n+1) m=tg n m++m:=by grind[tg,List.replicate_succ',List.flatten_append]
theorem Fd:∀(n k:Nat)(m:Tn),k<=n->(tg n m).take (k*m.length)=tg k m
 |n,0,m,_=>by simp[tg]
 |0,k+1,m,h=>by omega
 |n+1,k+1,m,h=>by show(m++tg n m).take ((k+1)*m.length)=m++tg k m;rw[List.take_append,XA (by grind),show(k+1)*m.length-m.length=k*m.length by grind,Fd n k m (by omega)]
def slen:VL->Nat
 |.slice _ n _=>n
 |_=>0
def Mkd(x:WD)(c k:Nat)(v:VL):=∃ad n cp,v=.slice ad n cp/\((ad=none/\n=0)\/∃g cur,ad=some ⟨g,0,none⟩/\x.heap[g]?=some (.cells cur (eT c) (0,0))/\cur.toList.take (n*cZ c)=tg n (mC c k)/\n<=maxLen)
def Sep.app2{n:Nat}{x:WD}{news:Tn}(h:x.ownsRow 0 e sz v n xs)(S:CF t e sz by')(a:Addr)(m c:Nat)(r:news.length=m*sz)(X:∀j u,news[j]?=some u->x.cell? (a.add j)=some u)(o:∀u∈news,u.oneCell'=true)(I:n+m<=maxLen)(hb:(n+m)*by'<=140737488355328):∃H y,(Builtin.append_ #[t,t] t #[v,.slice (some a) m c]).run prog x=.ok H y/\y.ownsRow 0 e sz H (n+m) (xs++news)/\((H.ownBlock=v.ownBlock/\x.grownBy y v.ownBlock)\/(x.grownBy y none/\∀k,H.ownBlock=some k->x.heap.size<=k)):=by
 let⟨P,Z,i,z,U,hz,s,J,L⟩:=S;let⟨H,y,w,r2,r3,f⟩:=fh x 0 t t e i z sz _ P U hz s J L Z v n xs h a m c _ r X o I hb (In _);refine⟨H,y,w,r2,?_⟩;rcases h.2 with⟨rfl,rfl⟩|⟨g,E,q,rfl,hb2,b,hnc,hcm,N,htk⟩
 .rcases f with D|D
  .grind
  exact A4 ⟨r3,D⟩
 by_cases hr:n+m<=E
 .rcases f with D|D
  .grind
  exfalso;subst s;have A:∀j,j<news.length->n*i.size+j<q.size:=λj p=>by rw[N];have:(n+m)*i.size<=E*i.size:=Yf _ hr;grind
  have Y:=run_append_room_cells x t t e i P U g 0 n _ a m c _ r X o hr (λj p=>by rw[XF,cell_of_row _ g _ _ e _ b];grind) (λj p=>by simp[World.frozen?,b]);rw[w]at Y;injection Y with R K;subst R;have:=D g W;grind
 let⟨T,F,C,V,Q⟩:=run_append_arg_grows x t t e i z sz _ P U hz s J L Z ⟨g,0,none⟩ n E xs h.1 (h.cells W) a m c _ r X (by omega) I hb;rw[w]at C;injection C with D R;subst D R;exact A4 ⟨Q,λk hk=>(V.lt k hk).1⟩
structure BLI(bb:Nat)(G:Nat->VL×Tn)(c:Nat)(l:VL)(n st:Nat)(x:WD):Prop where
 row:rowL x bb 52 [(G 0).1,(G 1).1,(G 2).1,(G 3).1]
 aa:∀k,k<4->x.ownsRow 0 (iT k) 1 (G k).1 (G k).2.length (G k).2
 md:∀k,k<4->∀(i:Nat) v,(G k).2[i]?=some v->Mkd x k (i/4*4) v
 aD:x.ownsRow 0 (eT c) (cZ c) l n (tg n (mC c st))
 rel:∀(i:Nat) v k,(G c).2[i]?=some v->v.ownBlock=some k->l.ownBlock=some k->i/4*4=st/\slen v<=n
def BLF(bb:Nat)(G:Nat->VL×Tn)(l:VL)(k:Nat):=k=bb\/(∃c,c<4/\((G c).1.ownBlock=some k\/∃v∈(G c).2,v.ownBlock=some k))\/l.ownBlock=some k
def Mkd.ty{x:WD}{c:Nat}(h:Mkd x c k v)(C:v.ownBlock=some g):Ty x g (eT c):=by
 obtain⟨J,n,I,rfl,h|⟨H,D,rfl,E,_⟩⟩:=h
 .rw[h.1]at C;cases C
 obtain rfl:H=g:=hV C;exact⟨_,_,E⟩
def Mkd.fr{x y:WD}{c:Nat}(h:Mkd x c k v)(he:∀g,v.ownBlock=some g->y.heap[g]?=x.heap[g]?):Mkd y c k v:=by
 obtain⟨I,n,C,rfl,h|⟨g,D,rfl,H,E⟩⟩:=h
 .exact⟨I,n,C,W,LZ h⟩
 exact⟨_,n,C,W,A4 ⟨g,_,W,(he g W).trans H,E⟩⟩
def WP(bb:Nat)(G:Nat->VL×Tn)(c:Nat)(l:VL)(n st:Nat):Rs:=⟨BLF bb G l,BLI bb G c l n st,λ{x k} h hk=>by
 rcases hk with rfl|⟨d,hd,hk|⟨v,hv,hk⟩⟩|hk
 .exact h.row.lt
 .exact((h.aa d hd).lt _ hk).2
 .obtain⟨i,hi,rfl⟩:=XU hv;exact((h.md d hd i _ (iN hi)).ty hk).lt
 .exact(h.aD.lt _ hk).2,λ{x y} h hs he=>by
 have ho:∀{e size n:Nat}{v:VL}{xs:Tn},(∀k,v.ownBlock=some k->BLF bb G l k)->x.ownsRow 0 e size v n xs->y.ownsRow 0 e size v n xs:=λhd ho=>⟨ho.1,ho.2.imp id λ⟨g,E,cur,h1,h2,h3,h4⟩=>⟨g,E,cur,h1,h2,(he g (hd g (by rw[h1];rfl))).trans h3,h4⟩⟩
 exact⟨World.rowIs.of_block h.row (he bb (LZ rfl)),λk hk=>ho (λg hg=>A4 (LZ ⟨k,hk,LZ hg⟩)) (h.aa k hk),λk hk i v hv=>(h.md k hk i v hv).fr λg hg=>he g (A4 (LZ ⟨k,hk,A4 ⟨v,Xe hv,hg⟩⟩)),ho (λg hg=>A4 (A4 hg)) h.aD,h.rel⟩⟩
abbrev eH(bb:Nat)(G:Nat->VL×Tn):Rs:=WP bb G 0 dL 0 0
section
variable {G:Nat->VL×Tn}{l:VL}
theorem Sep.take(h:Sep O (eH bb G::fp (eT c) (cZ c) l n (tg n (mC c (G c).2.length))::rs) x)(H:c<4):Sep O (WP bb G c l n (G c).2.length::rs) x:=by
 have J:=h.hd;refine Sep.step (q:=[eH bb G,fp _ _ l n _]) h (λr L=>?_) (XO _ _) (DO _) (λ_ _ _=>W) λr L k I=>?_
 .rw[BY.1 L];exact⟨J.row,J.aa,J.md,h.tl.hd,λi v k C E D=>absurd D (((XT.1 h.p).1 _ Xz) k (A4 (LZ ⟨c,H,A4 ⟨v,Xe C,E⟩⟩)))⟩
 rw[BY.1 L]at I;rcases I with I|I|I
 .exact LZ ⟨_,Xz,LZ I⟩
 .exact LZ ⟨_,Xz,A4 (LZ I)⟩
 exact LZ ⟨_,IN _ Xz,I⟩
def Sep.let(h:Sep O (WP bb G c l n st::rs) x):Sep O (eH bb G::rs) x:=by
 have C:=h.hd;refine h.aF ⟨C.row,C.aa,C.md,Xy _ _ _ _,λ_ _ _ _ _ h=>by cases h⟩ (DO _) (λ_ _ _=>W) λk C=>LZ ?_;rcases C with C|C|C
 .exact LZ C
 .exact A4 (LZ C)
 cases C
def Sep.mark(h:Sep O (WP bb G c l n st::rs) x)(L:c<4)(hn:n+1<=1000000001000):∃f y,(Builtin.append_ #[iT c,iT c] (iT c) #[l,sL x.heap.size 1 1]).run prog (x.alloc (.cells (mC c st).toArray (eT c)))=.ok f y/\Sep O (WP bb G c f (n+1) st::rs) y/\Below O x y:=by
 have Y:Below _ x (x.alloc (.cells (mC c st).toArray (eT c))):=ai (dO _ x) _;have J:=h.below Y;have I:=J.hd;let⟨f,y,r1,r,r3⟩:=Sep.app2 I.aD (Oa L) ⟨x.heap.size,0,none⟩ 1 1 (by rw[BP L,Nat.one_mul]) (λj u b=>by rw[show(⟨_,0,_⟩:Addr).add j=⟨x.heap.size,j,none⟩ by grind[Addr.add]];simp_all) (GS L st) (by grind[maxLen]) (By (Yx (DO _) (show bZ c<=104 by rcases Mg L with rfl|rfl|rfl|rfl<;>decide)) (by omega));rw[<-E0]at r;generalize x.alloc (.cells (mC c st).toArray (eT c))=q at*
 -- what has changed:the list's block alone
 have o:∀k,k<q.heap.size->l.ownBlock≠some k->y.heap[k]?=q.heap[k]? :=λk b D=>by
  rcases r3 with⟨_,C⟩|⟨C,_⟩
  .exact C.block k b λe=>D e.symm
  exact C.block k b λe=>by cases e
 have V:q.heap.size<=y.heap.size:=by rcases r3 with⟨_,C⟩|⟨C,_⟩<;>exact C.size
 have X:∀{k T},Ty q k T->T≠eT c->y.heap[k]?=q.heap[k]? :=λ{k T} b D=>o k b.lt λe=>D (b.aF (Ty.az I.aD e));have U:BLI bb G c f (n+1) st y:=by
  refine⟨World.rowIs.of_block I.row (X (Ty.aB I.row) (pU L L).2.2.2.1.symm),λk b=>(λD K=>⟨K.1,K.2.imp id λ⟨g,E,P,H,J,Q,N⟩=>⟨g,E,P,H,J,(X ⟨P,_,Q⟩ D).trans Q,N⟩⟩) (pU L b).2.2.1.symm (I.aa k b),λk b i v Z=>?_,r,λi v k Z H J=>?_⟩
  .have R:=I.md k b i v Z;by_cases hl:∃g,v.ownBlock=some g/\l.ownBlock=some g
   .obtain⟨g,H,Q⟩:=hl;obtain rfl:k=c:=YA λe=>(pU b L).1 e ((R.ty H).aF (Ty.az I.aD Q));let⟨A,S⟩:=I.rel i v g Z H Q;rcases r3 with⟨q,_⟩|⟨C,_⟩
    .obtain⟨ad,m,W,rfl,F|⟨g',P,rfl,F,_,z⟩⟩:=R
     .rw[F.1]at H;cases H
     obtain rfl:g'=g:=hV H;rcases r.2 with⟨a,_⟩|⟨w,E,r,a,_,r,_,_,_,h6⟩
     .omega
     rw[a]at q;have:some w=some g':=q.trans Q;obtain rfl:=hV this;refine⟨_,m,W,rfl,A4 ⟨w,_,rfl,r,?_,z⟩⟩;have r:m<=n:=S;rw[A,<-(show(tg (n+1) (mC k st)).take (m*cZ k)=tg m (mC k st) by rw[<-BP b st];exact Fd _ _ _ (by omega)),<-h6,List.take_take,Zg (Yf _ (by omega))]
    exact R.fr λg p=>C.block g (R.ty p).lt λe=>by cases e
   exact R.fr λg C=>o g (R.ty C).lt λe=>hl ⟨g,C,e⟩
  rcases r3 with⟨q,_⟩|⟨_,r⟩
  .obtain⟨A,S⟩:=I.rel i v k Z H (q▸J);exact⟨A,by omega⟩
  have:=r k J;have:=((I.md c L i v Z).ty H).lt;omega
 refine⟨f,y,r1,J.aF U V (λk b D=>o k b λe=>D (A4 (A4 e))) λk b=>?_,(Y.mono h.s).trans ⟨?_,?_,?_,V,λk b=>o k (Xg b J.s) λe=>?_⟩⟩
 .rcases b with b|b|b
  .exact LZ (LZ b)
  .exact LZ (A4 (LZ b))
  rcases r3 with⟨q,_⟩|⟨_,r⟩
  .exact LZ (A4 (A4 (q.symm.trans b)))
  exact A4 (r k b)
 .rcases r3 with⟨_,C⟩|⟨C,_⟩<;>exact C.os
 .rcases r3 with⟨_,C⟩|⟨C,_⟩<;>exact C.tape
 .rcases r3 with⟨_,C⟩|⟨C,_⟩<;>exact C.output
 have:=J.ge (A4 (A4 e));omega
def Sep.bQ(h:Sep O (WP bb G c l n st::rs) x)(H:c<4)(Y:(G c).2.length/4*4=st)(hn:(G c).2.length+1<=5000000000000):∃J y,(Builtin.append_ #[oT c,oT c] (oT c) #[(G c).1,sL x.heap.size 1 1]).run prog (x.alloc (.cells #[l] (iT c)))=.ok J y/\(∃ad m cp,J=.slice ad m cp)/\y.cell? ⟨bb,c,none⟩=some (G c).1/\y.frozen? ⟨bb,c,none⟩=false/\Sep O (WP bb (λk=>if k=c then(J,(G c).2++[l])else G k) c l n st::rs) (y.setCell ⟨bb,c,none⟩ J)/\Below O x (y.setCell ⟨bb,c,none⟩ J):=by
 have A:Below _ x (x.alloc (.cells #[l] (iT c))):=ai (dO _ x) _;have R:=h.below A;have P:=R.hd;let⟨ad0,cp0,X⟩:=dt P.aD;let⟨J,y,r1,r2,r3⟩:=Sep.app2 (P.aa c H) (ti_out H) ⟨x.heap.size,0,none⟩ 1 1 (news:=[l]) W (λj u hu=>by rw[show(⟨_,0,_⟩:Addr).add j=⟨x.heap.size,j,none⟩ by grind[Addr.add]];simp_all) (λu hu=>by rw[BY.1 hu,X];rfl) (by unfold maxLen;omega) (by omega);generalize x.alloc (.cells #[l] (iT c))=r at*;have hS:∀k,k<r.heap.size->(G c).1.ownBlock≠some k->y.heap[k]?=r.heap[k]? :=λk q D=>by
  rcases r3 with⟨_,L⟩|⟨L,_⟩
  .exact L.block k q λe=>D e.symm
  exact L.block k q λe=>by cases e
 have f:r.heap.size<=y.heap.size:=by rcases r3 with⟨_,L⟩|⟨L,_⟩<;>exact L.size
 have z:∀{k T},Ty r k T->T≠iT c->y.heap[k]?=r.heap[k]? :=λ{k T} q D=>hS k q.lt λe=>D (q.aF (Ty.az (P.aa c H) e));have I:rowL y bb 52 _:=World.rowIs.of_block P.row (z (Ty.aB P.row) (pU H H).2.2.2.2.symm);have U:∀{k T},Ty r k T->T≠iT c->T≠52->(y.setCell _ J).heap[k]?=r.heap[k]? :=λ{k T} q D S=>(ZP _ ⟨bb,c,none⟩ _ k λe=>S (q.aF ((e)▸(Ty.aB P.row)))).trans (z q D);have Q:∀{e size n:Nat}{v:VL}{xs:List _},e≠iT c->e≠52->r.ownsRow 0 e _ v n xs->(y.setCell _ J).ownsRow 0 e size v n xs:=λD S ho=>⟨ho.1,ho.2.imp id λ⟨g,_,_,w,R,K,b⟩=>⟨g,_,_,w,R,(U ⟨_,_,K⟩ D S).trans K,b⟩⟩
 have hlm:Mkd r c st l:=by
  rcases P.aD.2 with⟨a,e2⟩|⟨g,E,cur,a,_,K,h5,h6,_,b⟩
  .exact⟨_,0,0,a,LZ ⟨W,W⟩⟩
  exact⟨_,n,_,a,A4 ⟨g,_,W,K,b,By h5 h6⟩⟩
 have Z:BLI bb (λk=>if k=c then(J,(G c).2++[l])else G k) c l n st (y.setCell ⟨bb,c,none⟩ J):=by
  refine⟨?_,λk q=>?_,λk q i v C=>?_,Q (pU H H).2.2.1 (pU H H).2.2.2.1 P.aD,λi v k C w R=>?_⟩
  .have:=rowL.set (o:=c) I J;rcases Mg H with rfl|rfl|rfl|rfl<;>exact this
  .by_cases e:k=c
   .subst e;rw[At W,Xm];exact fC r2 (dS I r2 (pU q q).2.2.2.2.symm) _ _
   rw[iF e];exact Q ((pU q H).2.1 e) (pU q H).2.2.2.2 (P.aa k q)
  .have N:∀{k j v},k<4->Mkd r k j v->Mkd _ k j v:=λq hm=>hm.fr λg L=>U (hm.ty L) (pU q H).2.2.1 (pU q H).2.2.2.1;by_cases e:k=c
   .subst e;rw[At W]at C;by_cases hi:i<(G k).2.length
    .rw[Xv hi]at C;exact N q (P.md k q i v C)
    rw[Xx (by omega)]at C;obtain⟨S,rfl⟩:i-(G k).2.length=0/\l=v:=by
     cases hd:i-(G k).2.length with
     |zero=>rw[hd]at C;exact⟨W,hV C⟩
     |succ j=>rw[hd]at C;cases C
    obtain rfl:i=(G k).2.length:=by omega
    rw[Y];exact N q hlm
   rw[iF e]at C;exact N q (P.md k q i v C)
  rw[At W]at C;by_cases hi:i<(G c).2.length
  .rw[Xv hi]at C;exact P.rel i v k C w R
  rw[Xx (by omega)]at C;obtain⟨S,rfl⟩:i-(G c).2.length=0/\l=v:=by
   cases hd:i-(G c).2.length with
   |zero=>rw[hd]at C;exact⟨W,hV C⟩
   |succ j=>rw[hd]at C;cases C
  obtain rfl:i=(G c).2.length:=by omega
  exact⟨Y,(show slen l<=n by rw[X];exact DO _)⟩
 have p:∀k,k<r.heap.size->¬BLF bb G l k->(y.setCell ⟨bb,c,none⟩ J).heap[k]?=r.heap[k]? :=λk q D=>(ZP _ _ _ _ λe=>D (LZ e)).trans (hS k q λe=>D (A4 (LZ ⟨c,H,LZ e⟩)));have V:y.os=r.os/\y.tape=r.tape/\y.output=r.output:=by rcases r3 with⟨_,L⟩|⟨L,_⟩<;>exact⟨L.os,L.tape,L.output⟩
 let⟨ad1,cp1,F⟩:=dt r2;refine⟨J,y,r1,⟨_,_,_,F⟩,rowL.cell I (show[(G 0).1,(G 1).1,(G 2).1,(G 3).1][c]?=some (G c).1 by rcases Mg H with rfl|rfl|rfl|rfl<;>rfl),World.rowIs.frozen I c,R.aF Z (by simpa[World.setCell]using f) p λk q=>?_,(A.mono h.s).trans ⟨V.1,V.2.1,V.2.2,by simpa[World.setCell]using f,λk q=>p k (Xg q R.s) λe=>by have:=R.ge e;omega⟩⟩;rcases q with q|⟨d,hd,q⟩|q
 .exact LZ (LZ q)
 .by_cases e:d=c
  .subst e;dsimp only at q;rw[At W]at q;rcases q with q|⟨v,C,q⟩
   .rcases r3 with⟨e3,_⟩|⟨_,hf⟩
    .exact LZ (A4 (LZ ⟨d,hd,LZ (e3.symm.trans q)⟩))
    exact A4 (hf k q)
   rcases Xr.1 C with C|C
   .exact LZ (A4 (LZ ⟨d,hd,A4 ⟨v,C,q⟩⟩))
   rw[BY.1 C]at q;exact LZ (A4 (A4 q))
  dsimp only at q;rw[iF e]at q;exact LZ (A4 (LZ ⟨d,hd,q⟩))
 exact LZ (A4 (A4 q))
end
def Vy(x:WD)(g o:Nat):Tn->WD
 |[]=>x
 |v::r=>Vy (x.setCell ⟨g,o,none⟩ v) g (o+1) r
def NQ(xs:Tn)(p:Nat):Tn->Tn
 |[]=>xs
 |v::r=>NQ (xs.set p v) (p+1) r
theorem Ae:∀(C xs:Tn)(p:Nat),p+C.length<=xs.length->(NQ xs p C).take (p+C.length)=xs.take p++C
 |[],xs,p,h=>by simp[NQ]
 |v::r,xs,p,h=>by rw[X2]at h⊢;show(NQ (xs.set p v) (p+1) r).take _=_;rw[show p+(r.length+1)=p+1+r.length by omega,Ae r (xs.set p v) (p+1) (by rw[XE];omega),Yy,List.take_set_of_le (DO _),List.getElem?_set_self (by omega)];simp
def DC(h:x.ownsRow 0 e sz (sL g n cp) n xs)(G:p<n*sz):(x.setCell ⟨g,p,none⟩ v).ownsRow 0 e sz (sL g n cp) n (xs.set p v):=by
 refine⟨by rw[XE];exact h.1,?_⟩;rcases h.2 with⟨C,_⟩|⟨g',E,G,C,H,I,J,L,P,Q⟩
 .cases C
 injection C with C _ D;obtain rfl:g=g':=by injection C with C;injection C
 subst D;refine A4 ⟨g,cp,G.setIfInBounds p v,W,H,?_,J,L,by rw[Array.size_setIfInBounds];exact P,?_⟩
 .simp only[World.setCell,Zq,At,I];simp[XF]
 rw[Array.toList_setIfInBounds,List.take_set,Q]
theorem Sep.puts:∀(G xs:Tn)(p:Nat)(x:WD),Sep O (fp e sz (sL g n cp) n xs::rs) x->p+G.length<=n*sz->Sep O (fp e sz (sL g n cp) n (NQ xs p G)::rs) (Vy x g p G)/\Below O x (Vy x g p G)
 |[],xs,p,x,h,_=>⟨h,dO _ _⟩
 |v::r,xs,p,x,h,hp=>by rw[X2]at hp;have D:Sep O (fp e sz (sL g n cp) n (xs.set p v)::rs) (x.setCell ⟨g,p,none⟩ v):=h.kb (S:=[g]) (DC h.hd (by omega)) ((Kb.refl _ _).setCell AI v) (λk G=>by rw[BY.1 G];rfl) λk G=>LZ G;let⟨C,E⟩:=Sep.puts r _ (p+1) _ D (by omega);exact⟨C,((dO _ x).setCell (h.ge (k:=g) W) v).trans E⟩
def kk(k:Nat)(C:k<9223372036854775808)(w:WD):cP 47 #[iI (k:Int)] w (rT (.agg #[iU 7,iU 7,iU 7,iU (k:Int)]) w):=by go_enter func47,ntmps47;go_wp2;refine sp (v:=.agg #[iU 7,iU 7,iU 7,iU (k:Int)]) (by simp[results,results47,go_sem]) W ⟨W,?_⟩;exact ai (dO _ w) _
end cin
end Go.Proofs.YtohoajjdoihekaaGreatDoor
