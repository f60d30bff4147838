import Derived.Test.YtohoajjdoihekaaGreatDoorSu
set_option linter.unusedVariables false
set_option linter.unusedSimpArgs false
namespace Go.Proofs.YtohoajjdoihekaaGreatDoor
namespace cin
open Go.RowKit Go.Proofs.Tryz Tryz
set_option maxRecDepth 100000
set_option maxHeartbeats 8000000
theorem Fr.written {base fb:Nat} {F:Fz} {S:List Nat} {sv mv:Value} {x x':World} (h:Fr base fb F S sv mv x) {m:List UInt8} (hl:m.length=F.mem.length) (hk:Kb mv.ownBlock.toList x x') (hm:Bys x' base mv m):Fr base fb {F with mem:=m} S sv mv x':=by
 have hsub:∀k∈mv.ownBlock.toList,k∈S:=fun k hk=>by rw[h.foot];exact List.mem_cons_of_mem _ (List.mem_append_right _ hk)
 refine⟨?_,hk.own h.st (fun k hk2 hm2=>h.ms k hk2 (List.mem_cons_of_mem _ hm2)),hm,h.foot,h.stl,by show m.length<=_;rw[hl];exact h.mel,h.gal,Nat.le_trans h.hb hk.size,zcA h.zr hk (fun h0=>h.no0 (hsub 0 h0)) h.hs,h.hb1,h.hfb,by show m.length%32=0;rw[hl];exact h.m32,h.jr.kb hk (fun g N f hr hg=>h.bno g N f hr (hsub g hg))⟩;have hr:=hk.row h.row (fun hm2=>h.fm fb (by simpa using hm2) rfl)
 have e:F.cell sv mv=({F with mem:=m}:Fz).cell sv mv:=by
  rw[<-zkM F sv mv mv m];funext i;by_cases hi:i=20
  ·subst hi;rfl
  ·rw[if_neg hi]
 rw[e] at hr;exact hr
theorem ze0 {α β:Type} (f:α->β) (L:List α) (o:Nat) (l:List α):(splice L o l).map f=splice (L.map f) o (l.map f):=by
 unfold splice;rw[List.map_append,List.map_append,List.map_take,List.map_drop,List.length_map]
theorem zdN {α:Type} (L:List α) (o n:Nat) (l:List α) (h:o+l.length<=n) (hn:n<=L.length):(splice L o l).take n=splice (L.take n) o l:=by
 unfold splice;rw[List.take_take,Nat.min_eq_left (by omega),List.take_append,List.take_append,List.length_take,Nat.min_eq_left (by omega),List.take_of_length_le (l:=List.take o L) (by rw[List.length_take];omega),List.take_of_length_le (l:=l) (by omega),List.drop_take];congr 3;omega
theorem zfj {α:Type} (L:List α) (o:Nat):splice L o []=L:=by unfold splice;simp
theorem zeU {base fb:Nat} {F:Fz} {S:List Nat} {sv mv v u:Value} {x:World} {a b:Nat} {L:List UInt8} (hf:Fr base fb F S sv mv x) (hp:PartOf mv v a b) (hr:Rds x u L) (hl:L.length=b) (ty:TypeId):
  ∃x',(Builtin.copy_ #[26,26] ty #[v,u]).run prog x=.ok (goInt b) x'/\Fr base fb {F with mem:=splice F.mem a L} S sv mv x'/\Kb S x x':=by
 obtain⟨ad,c,rfl,hbc,hp⟩:=hp;obtain⟨ad2,c2,rfl,hc2,hr⟩:=hr;by_cases hb:b=0
 ·subst hb;obtain rfl:L=[]:=List.eq_nil_of_length_eq_zero hl;refine⟨x,run_copy_none (P:=prog) x _ _ ty 5 ad ad2 0 c _ c2 Yz zkA (by simp), ?_,Kb.refl _ _⟩;rw[zfj];exact hf
 ·obtain⟨g,len,cap,rfl,rfl,hle⟩:=hp hb;obtain⟨g2,o2,rfl,hg2,hc⟩:=hr (fun e=>hb (by rw[<-hl,e];rfl));rcases hf.me with⟨hxl,⟨h1,_⟩|⟨g',cap',cur,h1,h2,h3,h4,h5,h6,h7⟩⟩
  ·injection h1 with h1;cases h1
  ·injection h1 with h1 h8 h9
   injection h1 with h1
   injection h1 with h1
   subst h1 h8 h9
   have hrun:=run_copy_row (P:=prog) x 26 26 ty 5 g a b c ⟨g2,o2,none⟩ L.length c2 cur 5 (L.map u8v) Yz zkA h3 (by rw[List.length_map,hl];exact(Nat.min_self b).symm) (fun j v hj=>by
    have hj2:j<L.length:=by
     have:=(List.getElem?_eq_some_iff.1 hj).1;rwa[List.length_map] at this
    rw[List.getElem?_map,List.getElem?_eq_getElem hj2] at hj;have e:(⟨g2,o2,none⟩:Addr).add j=⟨g2,o2+j,none⟩:=by simp[Addr.add,eq_comm]
    rw[e,hc j hj2];exact hj) (by rw[List.length_map,h6];omega) (zbU L)
   rw[List.length_map,hl] at hrun;rw[hl];refine⟨_,hrun, ?_, ?_⟩
   ·refine hf.written (m:=splice F.mem a L) (length_splice _ _ _ (by rw[hl];exact hle)) ((Kb.refl _ x).setRow (Or.inl (by simp[Value.ownBlock])) _) ?_;refine⟨by rw[List.length_map];omega,Or.inr ⟨g,cap,_, ?_,h2,setRow_heap x g _ _ _ _ h3, ?_,h5, ?_, ?_⟩⟩
    ·rw[length_splice _ _ _ (by rw[hl];exact hle)]
    ·rw[length_splice _ _ _ (by rw[hl];exact hle)];exact h4
    ·have h9:cur.toList.length=cap*1:=by rw[<-h6];rfl
     show(_:List Value).length=_;rw[List.length_append,List.length_append,List.length_take,List.length_drop,List.length_map,hl,h9];omega
    ·rw[length_splice _ _ _ (by rw[hl];exact hle),ze0,<-h7]
     have e:∀(q:List Value),q=splice cur.toList a (L.map u8v)->q.take (F.mem.length*1)=splice (cur.toList.take (F.mem.length*1)) a (L.map u8v):=fun q hq=>by
      rw[hq];exact zdN _ _ _ _ (by rw[List.length_map];omega) (by simp;omega)
     refine e _ ?_;unfold splice;rw[List.length_map,hl,List.append_assoc]
   ·refine(Kb.refl _ x).setRow (Or.inl ?_) _;rw[hf.foot];exact List.mem_cons_of_mem _ (List.mem_append_right _ (by simp[Value.ownBlock]))
theorem zlp {s:Act} {x:World} {pos:String} {af:Array Edge} {g:Option (Nat×Bool)} {K:Act->World->Prop} {Q:Exit->Act->World->Prop} {t u d:Nat} {T T' ty:TypeId} {v z r:Value} {x':World} (hv:s.tmps.getD t undef=v) (hz:s.tmps.getD u undef=z)
  (hr:(Builtin.copy_ #[T,T'] ty #[v,z]).run prog x=.ok r x') (h:K (s.put (some d) r) x'):
  Oper.wp prog ⟨some d,.call ⟨.builtin .copy,#[.tmp t,.tmp u],#[T,T']⟩,ty,pos,af,g⟩ s x K Q:=by
 have hv2:s.eval (.tmp t)=v:=hv;have hz2:s.eval (.tmp u)=z:=hz;unfold Oper.wp execOp;simp only[resolve,invoke,builtin,Sem.run_bind,Sem.run_pure,Result.andThen_ok,List.map_toArray,List.map_cons,List.map_nil,hv2,hz2,hr];exact h
def AnyV:Kn:=fun _ _ _ _=>True
theorem zag:yW AnyV:=YA fun _ _ _ _ _ _ _ h _ _ _=>h
def yL (r:Option ((Nat×Nat)×Fz)) (L:List UInt8):Fz:=match r with
 |some ((a,_),F)=>{F with mem:=splice F.mem a L}
 |none=>badF
theorem Pr.copy {k base fb p n:Nat} {G:Fz} {mv v sv u:Value} {S:List Nat} {x:World} {L:List UInt8} (h:Pr k (zk p n G) (k,mv) S v x) (hf:Fr base fb (zh (zk p n G)) S sv mv x) (hr:Rds x u L) (hl:L.length=n%M) (ty:TypeId):
  ∃y x',(Builtin.copy_ #[26,26] ty #[v,u]).run prog x=.ok y x'/\Fr base fb (yL (zk p n G) L) S sv mv x'/\Kb S x x':=by
 obtain⟨_,_,h3⟩:=h;have h3:=h3 rfl;cases hq:zk p n G with
 |none=>rw[hq] at h3;exact h3.elim
 |some y=>
  obtain⟨⟨a,b⟩,F1⟩:=y;rw[hq] at h3 hf;obtain⟨x',h4,h5,h6⟩:=zeU (F:=F1) hf (show PartOf mv v a b from h3) hr (by rw[hl,zbm hq]) ty;exact⟨_,x',h4,h5,h6⟩
section
section
variable {s:Act} {x:World} {pos:String} {af:Array Edge} {g:Option (Nat×Bool)} {K:Act->World->Prop} {Q:Exit->Act->World->Prop}
def zd5 (n:Nat):UInt8:=UInt8.ofNat (n%256)
theorem zmr (n:Nat):IntKind.u8.wrap (za n 0)=((zd5 n).toNat:Int):=by
 unfold zd5 za;simp[IntKind.wrap,IntKind.signed,IntKind.bits]
theorem zol {t d n:Nat} {ty:TypeId} (he:s.tmps.getD t undef=.int .u64 (za n 0)) (hK:K (s.put (some d) (u8v (zd5 n))) x):
  Oper.wp prog ⟨some d,.convert 22 5 (.tmp t),ty,pos,af,g⟩ s x K Q:=by
 have he2:s.eval (.tmp t)=.int .u64 (za n 0):=he;have hw:=zmr n;unfold u8v at hK;go_simp;exact hK
theorem st_idxS {t d len cap gg a:Nat} {ty:TypeId} (he:s.tmps.getD t undef=.slice (some ⟨gg,a,none⟩) len cap) (hl:0<len) (hK:K (s.put (some d) (.pointer (some ⟨gg,a,none⟩))) x):
  Oper.wp prog ⟨some d,.indexAddr 26 (.tmp t) (.const (.int .i64 0)),ty,pos,af,g⟩ s x K Q:=by
 have he2:s.eval (.tmp t)=.slice (some ⟨gg,a,none⟩) len cap:=he;have hl2:(0:Int)<(len:Int):=by omega
 go_simp;exact hK
theorem zmd {t u:Nat} {ty:TypeId} {ad:Addr} {b:UInt8} {v0:Value} (he:s.tmps.getD t undef=.pointer (some ad)) (hu:s.tmps.getD u undef=u8v b) (hc:x.cell? ad=some v0) (hz:x.frozen? ad=false) (hK:K (s.put none undef) (x.setCell ad (u8v b))):
  Oper.wp prog ⟨none,.store 5 (.tmp t) (.tmp u),ty,pos,af,g⟩ s x K Q:=by
 have he2:s.eval (.tmp t)=.pointer (some ad):=he;have hu2:s.eval (.tmp u)=.int .u8 (b.toNat:Int):=hu;unfold u8v at hK hu;go_simp;exact hK
end
def PrA (k:Nat) (r:Option ((Nat×Nat)×Fz)):Kn:=fun c _ v _=>k<=c.1/\(c.1=k->match r with
 |some (y,_)=>∃g len cap:Nat,c.2=.slice (some ⟨g,0,none⟩) len cap/\v=.pointer (some ⟨g,y.1,none⟩)/\y.1+1<=len
 |none=>False)
theorem zaZ (k:Nat) (r:Option ((Nat×Nat)×Fz)):yW (PrA k r):=YA fun c c' S S' v x x' h hc _ _=>by
 rcases hc with rfl|hc
 ·exact h
 ·exact⟨Nat.le_trans h.1 (Nat.le_of_lt hc),fun e=>absurd h.1 (by omega)⟩
theorem Pr.first {k p n:Nat} {G:Fz} {mv v:Value} {S:List Nat} {x:World} (h:Pr k (zk p n G) (k,mv) S v x) (hn:n%M≠0):
  ∃g a len cap,v=.slice (some ⟨g,a,none⟩) len cap/\0<len/\PrA (k+1) (zk p n G) (k+1,mv) S (.pointer (some ⟨g,a,none⟩)) x:=by
 obtain⟨_,_,h3⟩:=h;have h3:=h3 rfl;cases hq:zk p n G with
 |none=>rw[hq] at h3;exact h3.elim
 |some y=>
  obtain⟨⟨a,b⟩,F1⟩:=y;rw[hq] at h3;obtain⟨ad,c,rfl,hbc,h4⟩:=(show PartOf mv v a b from h3);have hb:b≠0:=by rw[zbm hq];exact hn
  obtain⟨g,len,cap,e1,rfl,h5⟩:=h4 hb;exact⟨g,a,b,c,rfl,by omega,Nat.le_refl _,fun _=>⟨g,len,cap,e1,rfl,by omega⟩⟩
theorem zkg {α:Type} (L:List α) (a:Nat) (y:α) (h:a<L.length):splice L a [y]=L.set a y:=by
 unfold splice;rw[List.set_eq_take_append_cons_drop,if_pos h];rfl
theorem PrA.write {k base fb p n:Nat} {G:Fz} {mv v sv:Value} {S:List Nat} {x:World} {b:UInt8} (h:PrA k (zk p n G) (k,mv) S v x) (hf:Fr base fb (zh (zk p n G)) S sv mv x):
  ∃(ad:Addr) (v0:Value),v=.pointer (some ad)/\x.cell? ad=some v0/\x.frozen? ad=false/\Fr base fb (yL (zk p n G) [b]) S sv mv (x.setCell ad (u8v b))/\Kb S x (x.setCell ad (u8v b)):=by
 obtain⟨_,h3⟩:=h;have h3:=h3 rfl;cases hq:zk p n G with
 |none=>rw[hq] at h3;exact h3.elim
 |some y=>
  obtain⟨⟨a,c⟩,F1⟩:=y;rw[hq] at h3 hf;obtain⟨g,len,cap,e1,rfl,h5⟩:=h3;have e1:mv=.slice (some ⟨g,0,none⟩) len cap:=e1;subst e1;have hf1:Fr base fb F1 S sv (.slice (some ⟨g,0,none⟩) len cap) x:=hf;obtain⟨ad2,cap2,e2⟩:=Zk hf1.me;injection e2 with _ e3 _
  subst e3;have h5:a+1<=F1.mem.length:=h5;have hc:=World.ownsRow.cellAt hf1.me a (by omega);rw[List.getElem?_map,List.getElem?_eq_getElem (by omega)] at hc;have hst:=(World.ownsRow.stored hf1.me a (u8v b)).1;have hgS:g∈S:=by rw[hf1.foot];exact List.mem_cons_of_mem _ (List.mem_append_right _ (by simp[Value.ownBlock]))
  refine⟨_,_,rfl,hc,World.ownsRow.frozenAt hf1.me a, ?_,(Kb.refl _ x).setCell (Or.inl hgS) _⟩;show Fr base fb {F1 with mem:=splice F1.mem a [b]} S sv _ _;rw[zkg _ _ _ (by omega)];refine hf1.written (by simp) ((Kb.refl _ x).setCell (Or.inl (by simp[Value.ownBlock])) _) ?_;rw[<-List.map_set] at hst;unfold Bys;rw[List.length_set];exact hst
end
section
section
variable {s:Act} {x:World} {pos:String} {af:Array Edge} {g:Option (Nat×Bool)} {K:Act->World->Prop} {Q:Exit->Act->World->Prop}
theorem zhD {f d base fb p:Nat} {xs:Array Operand} {vs:Array Value} {A:Array TypeId} {ty:TypeId} {r:Option ((Nat×Nat)×Fz)} {S:List Nat} {F2:Fz} (hf:Own f) (hv:#[]++xs.map s.eval++#[]=vs) (hc:Calls prog f vs x (OutP r base fb S x)) (hg:F2=zh r)
  (hpan:r=none->∀u pv x',Kb S x x'->Q (.panic [{v:=.iface u pv,recovered:=false}]) s x')
  (hK:∀v S' sv' mv' x',Fr base fb F2 S' sv' mv' x'->Kb S x x'->(∀j∈S',j∈S\/x.heap.size<=j)->(some d=none->v=undef)->(Ek.l (Pr p r)).kn (p,mv') S' v x'->K (s.put (some d) v) x'):
  Oper.wp prog ⟨some d,.call ⟨.value (.func f),xs,A⟩,ty,pos,af,g⟩ s x K Q:=
 st_outP hf hv hc (fun u pv x' hr hk=>hpan hr u pv x' hk) fun y v F' S2 sv2 mv2 x' hr h1 h2 h3 h4=>hK _ S2 sv2 mv2 x' (by rw[hg,hr];exact h1) h2 h3 nn1 (by
  obtain⟨ad9,cp9,e9,r9⟩:=h4;rw[hr];exact⟨Nat.le_refl _,⟨ad9,cp9,e9⟩,fun _=>⟨ad9,cp9,e9,r9⟩⟩)
end
end
theorem zgE {base fb:Nat} {F:Fz} {S:List Nat} {sv mv:Value} {Q:Exit->Act->World->Prop} (a:Act) (w:World) {ba:Nat} {La:List UInt8} (har4:∀x,Kb S w x->Rds x (.slice (some ⟨ba,0,none⟩) 32 32) La) (hal4:La.length=32%M) {bp np:Nat} (hr2:zX w bp (np)) (hr2n:bp∉S) (h:Fr base fb F S sv mv w) (hsz:([15,16,17,18,19,20]:List Nat).all (fun d=>decide (d<a.tmps.size))=true) (c2:a.tmps.getD 2 undef=.pointer (some ⟨bp,0,none⟩)) (c4:a.tmps.getD 4 undef=.pointer (some ⟨ba,0,none⟩)) (c0:a.tmps.getD 0 undef=.pointer (some ⟨fb,0,none⟩))
  (hpan:∀u pv s x,(zk (np) (32) (F)=none)->s.defers=a.defers->Kb S w x->Q (.panic [{v:=.iface u pv,recovered:=false}]) s x)
  (hok:∀(x:World) (S':List Nat) (sv' mv':Value) (z3:Value) (z5:Value),Fr base fb (yL (zk (np) (32) (F)) La) S' sv' mv' x->Kb S w x->(∀j∈S',j∈S\/w.heap.size<=j)->(Pr 1 (zk (np) (32) (F))) (2,mv') S' z3 x->(AnyV) (2,mv') S' z5 x->Q .normal (zF a [(15,.pointer (some ⟨fb,0,none⟩)),(16,wv (np)),(17,wv (32)),(18,z3),(19,.slice (some ⟨ba,0,none⟩) 32 32),(20,z5)]) x):
  (Code.region 2 #[⟨some 15,.move (.tmp 0),132,"memory.go:46",#[],none⟩,⟨some 16,.load 24 (.tmp 2),24,"memory.go:46",#[],none⟩,⟨some 17,.call ⟨.value (.func 262),#[.const (.int .i64 32)],#[3]⟩,24,"memory.go:46",#[],none⟩,⟨some 18,.call ⟨.value (.func 275),#[.tmp 15,.tmp 16,.tmp 17],#[132,24,24]⟩,26,"memory.go:46",#[⟨0,.data⟩,⟨1,.data⟩,⟨2,.data⟩,⟨2,.chain⟩],none⟩,⟨some 19,.slice 298 (.tmp 4) none none none,26,"memory.go:46",#[],none⟩,⟨some 20,.call ⟨.builtin Builtin.copy,#[.tmp 18,.tmp 19],#[26,26]⟩,3,"memory.go:46",#[⟨3,.data⟩,⟨4,.data⟩,⟨3,.chain⟩],none⟩] true).wp prog Q a w:=by
 exact ZC (fun k=>match k with|0=>F|1=>zh (zk (np) (32) (F))|_=>yL (zk (np) (32) (F)) La) h [(2,.pointer (some ⟨bp,0,none⟩)),(4,.pointer (some ⟨ba,0,none⟩)),(0,.pointer (some ⟨fb,0,none⟩))] [(some 15,.v (.pointer (some ⟨fb,0,none⟩))),(some 16,.v (wv (np))),(some 17,.v (wv (32))),(some 18,.l (Pr 1 (zk (np) (32) (F)))),(some 19,.v (.slice (some ⟨ba,0,none⟩) 32 32)),(some 20,.l (AnyV))] [3,5] [1,2] (by kernel_rfl) hsz (Zi c2 (Zi c4 (Zi c0 rfl))) (by kernel_rfl) (And.intro (YU _ _) (And.intro (zag) trivial))
  (zf _ _ _ rfl rfl (fun s x S1 sv1 mv1 hfr hkb hsub hdf hv hl K hK=>zhD (r:=zk (np) (32) (F)) zfu (ev3 (hv 15 _ rfl) (hv 16 _ rfl) (hv 17 _ rfl)) (zav (np) (32) x hfr) rfl (fun hrn u pv x' hk=>hpan u pv s x' hrn hdf (hkb.trans hk hsub)) hK)
  (zf _ _ _ rfl rfl (fun s x S1 sv1 mv1 hfr hkb hsub hdf hv hl K hK=>by
   obtain⟨y9,x9,h7,h8,h9⟩:=Pr.copy (hl 18 _ rfl) hfr (har4 x hkb) hal4 3;exact zlp rfl (hv 19 _ rfl) h7 (hK _ S1 sv1 mv1 x9 h8 h9 (fun j hj=>Or.inl hj) nn1 trivial))
  True.intro))
  (zf _ _ _ rfl rfl (fun s x k S1 sv1 mv1 hfr hkb hkp hv hl K hK=>YQ 2 16 _ _ (hv 2 _ rfl) (hkb.row hr2 hr2n) (hK _ x (Below.refl _ _) nn1 rfl))
  (zf _ _ _ rfl rfl (fun s x k S1 sv1 mv1 hfr hkb hkp hv hl K hK=>ZL zbG (ev1 rfl) (ZI (32) (by omega) x) (fun e x' h9=>⟨_,h9.1,hK _ x' h9.2 nn1 rfl⟩))
  True.intro))
  fun g x S' sv' mv' hfr hkb hsub hT=>hok x S' sv' mv' (g 3) (g 5) hfr hkb hsub (hT 3 _ _ rfl) (hT 5 _ _ rfl)
abbrev zE (F:Fz):Fz:=zh (zi (zh (zi F)))
abbrev zY (F:Fz):Nat:=zA (zi F)
abbrev Zh (F:Fz):Nat:=zA (zi (zh (zi F)))
def ye (F:Fz):Option (Unit×Fz):=
 zK (zi F) (zK (zi (zh (zi F))) (zK (zk (zY F) 32 (zE F)) (some ((),yL (zk (zY F) 32 (zE F)) (bys (Zh F) 0)))))
theorem zlM {s:Act} {x:World} {pos:String} {af:Array Edge} {g:Option (Nat×Bool)} {K:Act->World->Prop} {Q:Exit->Act->World->Prop} {d:Nat} {ty:TypeId}
  (hK:K (s.put (some d) (.pointer (some ⟨x.heap.size,0,none⟩))) (x.alloc (.cells (ZG 32 (u8s fun _=>0)).toArray 298))):
  Oper.wp prog ⟨some d,.alloc 298,ty,pos,af,g⟩ s x K Q:=by
 go_simp;exact hK
theorem zj0 (w:World):(w.alloc (.cells (ZG 32 (u8s fun _=>0)).toArray 298)).rowIs w.heap.size 298 32 (u8s fun _=>0):=by
 have h:=World.rowIs_alloc w (ZG 32 (u8s fun _=>0)).toArray 298 (u8s fun _=>0) (fun i hi=>by
  have hi2:i<32:=by simpa[ZG] using hi
  simp[ZG,hi2])
 simpa[ZG] using h
theorem ziL {base fb:Nat} {F:Fz} {S:List Nat} {sv mv:Value} (w:World) (h:Fr base fb F S sv mv w):
  Calls prog 266 #[.pointer (some ⟨fb,0,none⟩)] w (Out (ye F) zx base fb S w):=by
 go_enter func266,ntmps266;go_wp2;refine zbg _ _ h rfl rfl rfl rfl ?_ ?_
 ·intro u pv s x hno hd hk
  have e:ye F=none:=by
   rcases hno with e|e
   ·exact zn (Or.inl e)
   ·exact zn (Or.inr (zn (Or.inl e)))
  rw[e];exact⟨hd,⟨_,_,rfl⟩,hk⟩
 ·intro x S' sv' mv' b0 b1 hfr hkb hsub hn0 hg0 hr0 hn1 hg1 hr1;have e:ye F=zK (zk (zY F) 32 (zE F)) (some ((),yL (zk (zY F) 32 (zE F)) (bys (Zh F) 0))):=(zT fun e=>ZS (YJ (zV e)) hfr).trans (zT fun e=>ZS (zV e) hfr);have HE:=zb e;clear e;change Fr base fb (zE F) S' sv' mv' x at hfr;change zX x b0 (zY F) at hr0;change zX x b1 (Zh F) at hr1;simp only[zF,List.foldl_cons,List.foldl_nil,Act.put];generalize zE F=F2 at*;generalize zY F=p at*;generalize Zh F=q at*;generalize ye F=R at*;have HFR:=zb hfr;have HKB:=zb hkb;have HSU:=zb hsub;have HR0:=zb hr0;obtain⟨c0,c1,c2,c3⟩:=ze hr1;have HT:=zb (zdK q);clear hfr hkb hsub hr0 hr1;go_wp2_with fail
  refine(HT.out _).mono ?_;rintro e x1 ⟨rfl,hb1⟩;rename_i K1 k1 K2 k2;refine k2 _ _ ?_;refine wpList_plain rfl fun K3 k3=>zlM (k3 _ _ ?_)
  have hrow:(x1.alloc (.cells (ZG 32 (u8s fun _=>0)).toArray 298)).rowIs x1.heap.size 298 32 (u8s fun _=>0):=zj0 x1;refine wpList_plain rfl fun K4 k4=>zgb (cs:=(bys q 0).map u8v) 4 14 x1.heap.size (fun w=>by kernel_rfl) (by simp[bys]) (zbU _) rfl rfl hrow (k4 _ _ ?_)
  refine wpList_nil ?_;refine k1 _ _ ?_;have hB2:Below x.heap.size x ((x1.alloc (.cells (ZG 32 (u8s fun _=>0)).toArray 298)).setRow x1.heap.size ((bys q 0).map u8v).toArray):=below_setRow (bal hb1 _) hb1.size _
  have hA2:((x1.alloc (.cells (ZG 32 (u8s fun _=>0)).toArray 298)).setRow x1.heap.size ((bys q 0).map u8v).toArray).heap[x1.heap.size]? =some (.cells ((bys q 0).map u8v).toArray 298 (0,0)):=by
   obtain⟨c,hb,_⟩:=hrow;exact setRow_heap _ _ _ _ _ _ hb
  have hlt:x.heap.size<=x1.heap.size:=hb1.size;generalize x1.heap.size=ba at*;generalize(x1.alloc (.cells (ZG 32 (u8s fun _=>0)).toArray 298)).setRow ba ((bys q 0).map u8v).toArray=x2 at*;have hbaS:ba∉S':=fun hm=>by have:=HFR.out.footlt ba hm;omega
  refine zgE (F:=F2) (S:=S') (La:=bys q 0) (ba:=ba) (bp:=b0) (np:=p) _ x2 ?_ (by simp[bys];decide) (zg HR0.out hB2) hn0 (HFR.out.below hB2) rfl rfl rfl rfl ?_ ?_
  ·intro y hy;refine⟨some ⟨ba,0,none⟩,32,by simp[bys],by simp[bys],fun _=>⟨ba,0,rfl, ?_,fun i hi=> ?_⟩⟩
   ·exact Nat.lt_of_lt_of_le (lt_of_block hA2) hy.size
   ·rw[World.cell?_of_block (hy.block ba (lt_of_block hA2) hbaS),Nat.zero_add];simp only[World.cell?,hA2];simp[hi]
  ·intro u pv s y hno hd hk;have e:R=none:=HE.out.trans (zn (Or.inl hno));rw[e];exact⟨hd,⟨_,_,rfl⟩,(HKB.out.trans ((Kb.of_below hB2).trans hk (fun j hj=>Or.inl hj)) HSU.out)⟩
  ·intro y S2 sv2 mv2 z3 z5 hf2 hk2 hs2 hz3 hz5;have e:R=some ((),yL (zk p 32 F2) (bys q 0)):=HE.out.trans (zT fun e=>by rw[e] at hf2;exact ZS zbp hf2);have hk3:=(Kb.of_below (S:=S') hB2).trans hk2 (fun j hj=>Or.inl hj)
   have HO:Hid (Out R zx base fb S w (.returned (.tuple #[])) y):=by
    rw[e];exact⟨rfl,S2,sv2,mv2,hf2,HKB.out.trans hk3 HSU.out,fun j hj=>(hs2 j hj).elim (HSU.out j) (fun h=>Or.inr (Nat.le_trans HKB.out.size (Nat.le_trans hB2.size h)))⟩
   clear e hf2 hk2 hs2 hz3 hz5 hk3;simp only[zF,List.foldl_cons,List.foldl_nil,Act.put];go_wp2;go_end0;exact HO.out
theorem zhH {base fb:Nat} {F:Fz} {S:List Nat} {sv mv:Value} {Q:Exit->Act->World->Prop} (a:Act) (w:World) {bp np:Nat} (hr2:zX w bp (np)) (hr2n:bp∉S) {bq nq:Nat} (hr3:zX w bq (nq)) (hr3n:bq∉S) (h:Fr base fb F S sv mv w) (hsz:([12,13,14,15,16,17,18,19]:List Nat).all (fun d=>decide (d<a.tmps.size))=true) (c2:a.tmps.getD 2 undef=.pointer (some ⟨bp,0,none⟩)) (c3:a.tmps.getD 3 undef=.pointer (some ⟨bq,0,none⟩)) (c0:a.tmps.getD 0 undef=.pointer (some ⟨fb,0,none⟩))
  (hpan:∀u pv s x,(zk (np) (1) (F)=none)->s.defers=a.defers->Kb S w x->Q (.panic [{v:=.iface u pv,recovered:=false}]) s x)
  (hok:∀(x:World) (S':List Nat) (sv' mv':Value) (z3:Value) (z7:Value),Fr base fb (yL (zk (np) (1) (F)) [zd5 (nq)]) S' sv' mv' x->Kb S w x->(∀j∈S',j∈S\/w.heap.size<=j)->(Pr 1 (zk (np) (1) (F))) (3,mv') S' z3 x->(PrA 2 (zk (np) (1) (F))) (3,mv') S' z7 x->Q .normal (zF a [(12,.pointer (some ⟨fb,0,none⟩)),(13,wv (np)),(14,wv (1)),(15,z3),(16,.pointer (some ⟨bq,0,none⟩)),(17,.int .u64 (za (nq) 0)),(18,u8v (zd5 (nq))),(19,z7)]) x):
  (Code.region 1 #[⟨some 12,.move (.tmp 0),132,"memory.go:51",#[],none⟩,⟨some 13,.load 24 (.tmp 2),24,"memory.go:51",#[],none⟩,⟨some 14,.call ⟨.value (.func 262),#[.const (.int .i64 1)],#[3]⟩,24,"memory.go:51",#[],none⟩,⟨some 15,.call ⟨.value (.func 275),#[.tmp 12,.tmp 13,.tmp 14],#[132,24,24]⟩,26,"memory.go:51",#[⟨0,.data⟩,⟨1,.data⟩,⟨2,.data⟩,⟨2,.chain⟩],none⟩,⟨some 16,.indexAddr 24 (.tmp 3) (.const (.int .i64 0)),0,"memory.go:51",#[],none⟩,⟨some 17,.load 22 (.tmp 16),22,"memory.go:51",#[⟨4,.data⟩],none⟩,⟨some 18,.convert 22 5 (.tmp 17),5,"memory.go:51",#[⟨5,.data⟩],none⟩,⟨some 19,.indexAddr 26 (.tmp 15) (.const (.int .i64 0)),0,"memory.go:51",#[⟨3,.data⟩,⟨0,.phase⟩,⟨1,.phase⟩,⟨2,.phase⟩,⟨3,.phase⟩,⟨4,.phase⟩,⟨5,.phase⟩,⟨6,.phase⟩],none⟩,⟨none,.store 5 (.tmp 19) (.tmp 18),0,"memory.go:51",#[⟨7,.data⟩,⟨6,.data⟩,⟨3,.chain⟩,⟨0,.phase⟩,⟨1,.phase⟩,⟨2,.phase⟩,⟨3,.phase⟩,⟨4,.phase⟩,⟨5,.phase⟩,⟨6,.phase⟩],none⟩] true).wp prog Q a w:=by
 exact ZC (fun k=>match k with|0=>F|1=>zh (zk (np) (1) (F))|2=>zh (zk (np) (1) (F))|_=>yL (zk (np) (1) (F)) [zd5 (nq)]) h [(2,.pointer (some ⟨bp,0,none⟩)),(3,.pointer (some ⟨bq,0,none⟩)),(0,.pointer (some ⟨fb,0,none⟩))] [(some 12,.v (.pointer (some ⟨fb,0,none⟩))),(some 13,.v (wv (np))),(some 14,.v (wv (1))),(some 15,.l (Pr 1 (zk (np) (1) (F)))),(some 16,.v (.pointer (some ⟨bq,0,none⟩))),(some 17,.v (.int .u64 (za (nq) 0))),(some 18,.v (u8v (zd5 (nq)))),(some 19,.l (PrA 2 (zk (np) (1) (F)))),(none,.v undef)] [3,7,8] [1,2,5,6] (by kernel_rfl) hsz (Zi c2 (Zi c3 (Zi c0 rfl))) (by kernel_rfl) (And.intro (YU _ _) (And.intro (zaZ _ _) trivial))
  (zf _ _ _ rfl rfl (fun s x S1 sv1 mv1 hfr hkb hsub hdf hv hl K hK=>zhD (r:=zk (np) (1) (F)) zfu (ev3 (hv 12 _ rfl) (hv 13 _ rfl) (hv 14 _ rfl)) (zav (np) (1) x hfr) rfl (fun hrn u pv x' hk=>hpan u pv s x' hrn hdf (hkb.trans hk hsub)) hK)
  (zf _ _ _ rfl rfl (fun s x S1 sv1 mv1 hfr hkb hsub hdf hv hl K hK=>by
   obtain⟨g9,a9,l9,c9,h7,h8,h9⟩:=Pr.first (hl 15 _ rfl) (by decide)
   exact st_idxS h7 h8 (hK _ S1 sv1 mv1 x hfr (Kb.refl _ _) (fun j hj=>Or.inl hj) nn1 h9))
  (zf _ _ _ rfl rfl (fun s x S1 sv1 mv1 hfr hkb hsub hdf hv hl K hK=>by
   obtain⟨ad9,v9,h5,h6,h7,h8,h9⟩:=PrA.write (b:=zd5 (nq)) (hl 19 _ rfl) hfr;exact zmd h5 (hv 18 _ rfl) h6 h7 (hK undef S1 sv1 mv1 _ h8 h9 (fun j hj=>Or.inl hj) (fun _=>rfl) rfl))
  True.intro)))
  (zf _ _ _ rfl rfl (fun s x k S1 sv1 mv1 hfr hkb hkp hv hl K hK=>YQ 2 13 _ _ (hv 2 _ rfl) (hkb.row hr2 hr2n) (hK _ x (Below.refl _ _) nn1 rfl))
  (zf _ _ _ rfl rfl (fun s x k S1 sv1 mv1 hfr hkb hkp hv hl K hK=>ZL zbG (ev1 rfl) (ZI (1) (by omega) x) (fun e x' h9=>⟨_,h9.1,hK _ x' h9.2 nn1 rfl⟩))
  (zf _ _ _ rfl rfl (fun s x k S1 sv1 mv1 hfr hkb hkp hv hl K hK=>zv (v:=.int .u64 (za (nq) 0)) (fun w=>by kernel_rfl) (hv 16 _ rfl) ((hkb.row hr3 hr3n).cell (i:=0) (by decide)) (hK _ x (Below.refl _ _) nn1 rfl))
  (zf _ _ _ rfl rfl (fun s x k S1 sv1 mv1 hfr hkb hkp hv hl K hK=>zol (hv 17 _ rfl) (hK _ x (Below.refl _ _) nn1 rfl))
  True.intro))))
  fun g x S' sv' mv' hfr hkb hsub hT=>hok x S' sv' mv' (g 3) (g 7) hfr hkb hsub (hT 3 _ _ rfl) (hT 7 _ _ rfl)
theorem zhE {base fb:Nat} {F:Fz} {S:List Nat} {sv mv:Value} {Q:Exit->Act->World->Prop} (a:Act) (w:World) {bp np:Nat} (hr3:zX w bp (np)) (hr3n:bp∉S) (hup6:F.code.size<9223372036854775808) (h:Fr base fb F S sv mv w) (hsz:([7,8,9,10,11,12,13,6,14,15,4,5]:List Nat).all (fun d=>decide (d<a.tmps.size))=true) (c3:a.tmps.getD 3 undef=.pointer (some ⟨bp,0,none⟩)) (c0:a.tmps.getD 0 undef=.pointer (some ⟨fb,0,none⟩))
  (hpan:∀u pv s x,False->s.defers=a.defers->Kb S w x->Q (.panic [{v:=.iface u pv,recovered:=false}]) s x)
  (hok:∀(x:World) (S':List Nat) (sv' mv':Value),Fr base fb (F) S' sv' mv' x->Kb S w x->(∀j∈S',j∈S\/w.heap.size<=j)->Q .normal (zF a [(7,wv (np)),(8,.pointer (some ⟨fb,0,none⟩)),(9,.pointer (some ⟨fb,0,none⟩)),(10,.pointer (some ⟨fb,1,none⟩)),(11,.string F.code),(12,.int .i64 (F.code.size:Int)),(13,.tuple #[.int .i64 ((upN (np) (F.code.size):Nat):Int),.bool (upB (np) (F.code.size))]),(6,.tuple #[.int .i64 ((upN (np) (F.code.size):Nat):Int),.bool (upB (np) (F.code.size))]),(14,.int .i64 ((upN (np) (F.code.size):Nat):Int)),(15,.bool (upB (np) (F.code.size))),(4,.int .i64 ((upN (np) (F.code.size):Nat):Int)),(5,.bool (upB (np) (F.code.size)))]) x):
  (Code.region 1 #[⟨some 7,.load 24 (.tmp 3),24,"instructions.go:105",#[],none⟩,⟨some 8,.move (.tmp 0),132,"instructions.go:105",#[],none⟩,⟨some 9,.nilCheck (.tmp 8),0,"instructions.go:105",#[⟨1,.data⟩],none⟩,⟨some 10,.fieldAddr 137 (.tmp 9) 1,0,"instructions.go:105",#[⟨2,.data⟩],none⟩,⟨some 11,.load 9 (.tmp 10),9,"instructions.go:105",#[⟨3,.data⟩],none⟩,⟨some 12,.call ⟨.builtin Builtin.len,#[.tmp 11],#[9]⟩,3,"instructions.go:105",#[⟨4,.data⟩],none⟩,⟨some 13,.call ⟨.value (.func 284),#[.tmp 7,.tmp 12],#[24,3]⟩,114,"instructions.go:105",#[⟨0,.data⟩,⟨5,.data⟩],none⟩,⟨some 6,.move (.tmp 13),114,"instructions.go:105",#[⟨6,.data⟩],none⟩,⟨some 14,.extract (.tmp 6) 0,3,"instructions.go:105",#[⟨7,.data⟩],none⟩,⟨some 15,.extract (.tmp 6) 1,4,"instructions.go:105",#[⟨7,.data⟩,⟨10,.gcOnly .lateStores⟩],none⟩,⟨some 4,.assign (.tmp 14),3,"instructions.go:105",#[⟨8,.data⟩,⟨6,.chain⟩,⟨0,.phase⟩,⟨1,.phase⟩,⟨2,.phase⟩,⟨3,.phase⟩,⟨4,.phase⟩,⟨5,.phase⟩,⟨6,.phase⟩,⟨7,.phase⟩,⟨8,.phase⟩,⟨9,.textOnly .lateStores⟩],none⟩,⟨some 5,.assign (.tmp 15),4,"instructions.go:105",#[⟨9,.data⟩,⟨10,.chain⟩,⟨0,.phase⟩,⟨1,.phase⟩,⟨2,.phase⟩,⟨3,.phase⟩,⟨4,.phase⟩,⟨5,.phase⟩,⟨6,.phase⟩,⟨7,.phase⟩,⟨8,.phase⟩,⟨9,.phase⟩,⟨10,.phase⟩],none⟩] true).wp prog Q a w:=by
 have hsame:∀k:Nat,100000<((fun _:Nat=>F) k).gas\/Same F ((fun _:Nat=>F) k):=by
  intro k;have s0:100000<(F).gas\/Same F F:=Or.inr (Same.refl F);exact s0
 exact ZC (fun _:Nat=>F) h [(3,.pointer (some ⟨bp,0,none⟩)),(0,.pointer (some ⟨fb,0,none⟩))] [(some 7,.v (wv (np))),(some 8,.v (.pointer (some ⟨fb,0,none⟩))),(some 9,.v (.pointer (some ⟨fb,0,none⟩))),(some 10,.v (.pointer (some ⟨fb,1,none⟩))),(some 11,.v (.string F.code)),(some 12,.v (.int .i64 (F.code.size:Int))),(some 13,.v (.tuple #[.int .i64 ((upN (np) (F.code.size):Nat):Int),.bool (upB (np) (F.code.size))])),(some 6,.v (.tuple #[.int .i64 ((upN (np) (F.code.size):Nat):Int),.bool (upB (np) (F.code.size))])),(some 14,.v (.int .i64 ((upN (np) (F.code.size):Nat):Int))),(some 15,.v (.bool (upB (np) (F.code.size)))),(some 4,.v (.int .i64 ((upN (np) (F.code.size):Nat):Int))),(some 5,.v (.bool (upB (np) (F.code.size))))] [] [0,4,6] (by kernel_rfl) hsz (Zi c3 (Zi c0 rfl)) (by kernel_rfl) trivial
  True.intro
  (zf _ _ _ rfl rfl (fun s x k S1 sv1 mv1 hfr hkb hkp hv hl K hK=>YQ 3 7 _ _ (hv 3 _ rfl) (hkb.row hr3 hr3n) (hK _ x (Below.refl _ _) nn1 rfl))
  (zf _ _ _ rfl rfl (fun s x k S1 sv1 mv1 hfr hkb hkp hv hl K hK=>by
    rcases hsame k with hbd|hsm
    ·exact absurd hfr.gal (Nat.not_le.2 hbd)
    ·have e:=hsm.code;exact zv (v:=.string F.code) (fun w=>by kernel_rfl) (hv 10 _ rfl) ((hfr.row.cell (i:=1) (by decide)).trans (congrArg (fun z=>some (Value.string z)) e)) (hK _ x (Below.refl _ _) nn1 rfl))
  (zf _ _ _ rfl rfl (fun s x k S1 sv1 mv1 hfr hkb hkp hv hl K hK=>ZL zpu (ev2 (hv 7 _ rfl) (hv 12 _ rfl)) (znt (np) (F.code.size) hup6 x) (fun e x' h9=>⟨_,h9.1,hK _ x' h9.2 nn1 rfl⟩))
  True.intro)))
  fun g x S' sv' mv' hfr hkb hsub hT=>hok x S' sv' mv' hfr hkb hsub
def zan (p:Nat) (F:Fz):Option (Unit×Fz):=if upB p F.code.size&&(jdL F.code).getD (p%M) false then some ((),{F with nx:=p%M}) else none
theorem zni {base fb:Nat} {F:Fz} {S:List Nat} {sv mv:Value} (p:Nat) (hcs:F.code.size<=100000) (w:World) (h:Fr base fb F S sv mv w):
  Calls prog 270 #[.pointer (some ⟨fb,0,none⟩),wv p] w (Out (zan p F) zx base fb S w):=by
 have HB:Hid (F.code.size<9223372036854775808):=by show _<_;omega
 have hs:=W1.start w p;have HF:=zb (h.below hs.be);have HN:Hid (w.heap.size∉S):=fun hm=>by have:=h.footlt _ hm;omega
 have HR:=zb hs.ra;have HBE:=zb hs.be;clear hs h;unfold zan;cases hu:upB p F.code.size with
 |false=>
  show Calls _ _ _ _ (Out none zx base fb S w);have HU:=zb hu;clear hu;go_enter func270,ntmps270;go_wp2;refine zhE _ _ HR.out HN.out HB.out HF.out rfl rfl rfl (fun _ _ _ _ h=>h.elim) ?_;intro x S' sv' mv' hfr hkb hsub;have HK:=zb ((Kb.of_below (S:=S) HBE.out).trans hkb (fun j hj=>Or.inl hj));clear hfr hkb hsub;rw[HU.out];simp only[zF,List.foldl_cons,List.foldl_nil,Act.put];go_wp2;exact⟨rfl,⟨_,_,rfl⟩,HK.out⟩
 |true=>
  have HU:=zb hu;have hle:p%M<=F.code.size:=of_decide_eq_true hu;have hup:upN p F.code.size=p%M:=if_pos hle;clear hu;obtain⟨q,HQ⟩:∃q:Nat,Hid (q=p%M):=⟨_,rfl⟩;rw[<-HQ.out] at hle hup⊢;have HUP:=zb hup;clear hup;cases hj:(jdL F.code).getD q false with
  |false=>
   show Calls _ _ _ _ (Out none zx base fb S w);go_enter func270,ntmps270;go_wp2;refine zhE _ _ HR.out HN.out HB.out HF.out rfl rfl rfl (fun _ _ _ _ h=>h.elim) ?_;intro x S' sv' mv' hfr hkb hsub;have HK:=zb ((Kb.of_below (S:=S) HBE.out).trans hkb (fun j hj=>Or.inl hj));obtain⟨g,cap,e1,hrow⟩:=hfr.jr;have hcj:=hfr.row.cell (i:=2) (by decide);rw[show F.cell sv' mv' 2=F.jd from rfl,e1] at hcj;have hcb:=hrow.cell (i:=q) (by omega);rw[hj] at hcb;clear hfr hkb hsub hrow e1 hj;rw[HU.out,HUP.out];simp only[zF,List.foldl_cons,List.foldl_nil,Act.put];go_wp2;exact⟨rfl,⟨_,_,rfl⟩,HK.out⟩
  |true=>
   show Calls _ _ _ _ (Out (some ((),{F with nx:=q})) zx base fb S w);go_enter func270,ntmps270;go_wp2;refine zhE _ _ HR.out HN.out HB.out HF.out rfl rfl rfl (fun _ _ _ _ h=>h.elim) ?_;intro x S' sv' mv' hfr hkb hsub;have HK:=zb ((Kb.of_below (S:=S) HBE.out).trans hkb (fun j hj=>Or.inl hj));have HS:Hid (∀k∈S',k∈S\/w.heap.size<=k):=fun k hk=>(hsub k hk).imp id (fun h=>Nat.le_trans HBE.out.size h)
   obtain⟨g,cap,e1,hrow⟩:=hfr.jr;have hcj:=hfr.row.cell (i:=2) (by decide);rw[show F.cell sv' mv' 2=F.jd from rfl,e1] at hcj;have hcb:=hrow.cell (i:=q) (by omega);rw[hj] at hcb;have hcn:x.cell? ⟨fb,23,none⟩=some (.int .i64 (F.nx:Int)):=hfr.row.cell (i:=23) (by decide);have hzn:=hfr.row.frozen 23;have HT:=zb (To.pre HK.out HS.out (hfr.set1 23 _ (zeb F sv' mv' q) rfl rfl rfl rfl hfr.gal));clear hfr hkb hsub hrow e1 hj;rw[HU.out,HUP.out];simp only[zF,List.foldl_cons,List.foldl_nil,Act.put];go_wp2;go_end0;exact⟨rfl,HT.out⟩
def yf (F:Fz):Option (Unit×Fz):=
 zK (zi F) (zK (zi (zh (zi F))) (zK (zk (zY F) 1 (zE F)) (some ((),yL (zk (zY F) 1 (zE F)) [zd5 (Zh F)]))))
theorem zjc {base fb:Nat} {F:Fz} {S:List Nat} {sv mv:Value} (w:World) (h:Fr base fb F S sv mv w):
  Calls prog 267 #[.pointer (some ⟨fb,0,none⟩)] w (Out (yf F) zx base fb S w):=by
 go_enter func267,ntmps267;go_wp2;refine zbg _ _ h rfl rfl rfl rfl ?_ ?_
 ·intro u pv s x hno hd hk
  have e:yf F=none:=by
   rcases hno with e|e
   ·exact zn (Or.inl e)
   ·exact zn (Or.inr (zn (Or.inl e)))
  rw[e];exact⟨hd,⟨_,_,rfl⟩,hk⟩
 ·intro x S' sv' mv' b0 b1 hfr hkb hsub hn0 hg0 hr0 hn1 hg1 hr1;have e:yf F=zK (zk (zY F) 1 (zE F)) (some ((),yL (zk (zY F) 1 (zE F)) [zd5 (Zh F)])):=(zT fun e=>ZS (YJ (zV e)) hfr).trans (zT fun e=>ZS (zV e) hfr);have HE:=zb e;clear e;change Fr base fb (zE F) S' sv' mv' x at hfr;change zX x b0 (zY F) at hr0;change zX x b1 (Zh F) at hr1;simp only[zF,List.foldl_cons,List.foldl_nil,Act.put];generalize zE F=F2 at*;generalize zY F=p at*;generalize Zh F=q at*;generalize yf F=R at*;simp only[sx9]
  go_upto_region 1 with fail
  refine zhH (F:=F2) (S:=S') (bp:=b0) (np:=p) (bq:=b1) (nq:=q) _ x hr0 hn0 hr1 hn1 hfr rfl rfl rfl rfl ?_ ?_
  ·intro u pv s y hno hd hk;have e:R=none:=HE.out.trans (zn (Or.inl hno));rw[e];exact⟨hd,⟨_,_,rfl⟩,hkb.trans hk hsub⟩
  ·intro y S2 sv2 mv2 z3 z7 hf2 hk2 hs2 hz3 hz7;have e:R=some ((),yL (zk p 1 F2) [zd5 q]):=HE.out.trans (zT fun e=>by rw[e] at hf2;exact ZS zbp hf2)
   have HO:Hid (Out R zx base fb S w (.returned (.tuple #[])) y):=by
    rw[e];exact⟨rfl,S2,sv2,mv2,hf2,hkb.trans hk2 hsub,fun j hj=>(hs2 j hj).elim (hsub j) (fun h=>Or.inr (Nat.le_trans hkb.size h))⟩
   clear e hf2 hk2 hs2 hz3 hz7 hfr hkb hsub hr0 hr1 HE h;simp only[zF,List.foldl_cons,List.foldl_nil,Act.put];go_wp2;go_end0;exact HO.out
def YE (F:Fz):Option (Unit×Fz):=
 zK (zi F) (zK (zi (zh (zi F))) (if Zh F%M=0 then some ((),zE F) else zan (zY F) (zE F)))
theorem znN {base fb:Nat} {F:Fz} {S:List Nat} {sv mv:Value} (hcs:F.code.size<=100000) (w:World) (h:Fr base fb F S sv mv w):
  Calls prog 271 #[.pointer (some ⟨fb,0,none⟩)] w (Out (YE F) zx base fb S w):=by
 go_enter func271,ntmps271;go_wp2;refine zbg _ _ h rfl rfl rfl rfl ?_ ?_
 ·intro u pv s x hno hd hk
  have e:YE F=none:=by
   rcases hno with e|e
   ·exact zn (Or.inl e)
   ·exact zn (Or.inr (zn (Or.inl e)))
  rw[e];exact⟨hd,⟨_,_,rfl⟩,hk⟩
 ·intro x S' sv' mv' b0 b1 hfr hkb hsub hn0 hg0 hr0 hn1 hg1 hr1;have e:YE F=if Zh F%M=0 then some ((),zE F) else zan (zY F) (zE F):=(zT fun e=>ZS (YJ (zV e)) hfr).trans (zT fun e=>ZS (zV e) hfr)
  have hcd:100000<(zE F).gas\/Same F (zE F):=Zp (Zp (Or.inr (Same.refl F)));have HE:=zb e;clear e;change Fr base fb (zE F) S' sv' mv' x at hfr;change zX x b0 (zY F) at hr0;change zX x b1 (Zh F) at hr1
  have hcs2:(zE F).code.size<=100000:=by
   rcases hcd with h1|h1
   ·exact absurd hfr.gal (by omega)
   ·rw[h1.code];exact hcs
  clear hcd;simp only[zF,List.foldl_cons,List.foldl_nil,Act.put];generalize zE F=F2 at*;generalize zY F=p at*;generalize Zh F=q at*;generalize YE F=R at*;obtain⟨z0,z1,z2,z3⟩:_/\_/\_/\_:=⟨hfr.zr 0 (by omega),hfr.zr 1 (by omega),hfr.zr 2 (by omega),hfr.zr 3 (by omega)⟩;obtain⟨c0,c1,c2,c3⟩:=ze hr0;obtain⟨d0,d1,d2,d3⟩:=ze hr1;have hez:=Z5 q;by_cases hq:q%M=0
  ·have HO:Hid (Out R zx base fb S w (.returned (.tuple #[])) x):=by
    rw[HE.out,if_pos hq];exact⟨rfl,S',sv',mv',hfr,hkb,hsub⟩
   rw[YY hq] at hez;clear hfr hkb hsub hr0 hr1 HE h hcs2 hq hn0 hn1;go_wp2;go_end0;exact HO.out
  ·have HJ:=zb (zni p hcs2 x hfr);have HE2:=zb (HE.out.trans (if_neg hq));rw[Ys hq] at hez;have HKB:=zb hkb;have HSU:=zb hsub;clear hfr hkb hsub hr0 hr1 HE h hcs2 hq hn0 hn1;rw[<-HE2.out] at HJ;go_wp2_with fail
   refine HJ.out.mono ?_;intro e y ho;cases R with
   |none=>
    obtain⟨⟨u,pv,rfl⟩,hk⟩:=ho;exact⟨rfl,⟨_,_,rfl⟩,HKB.out.trans hk HSU.out⟩
   |some r=>
    obtain⟨rfl,hto⟩:=ho;have HO:Hid (Out (some r) zx base fb S w (.returned (.tuple #[])) y):=⟨rfl,To.pre HKB.out HSU.out hto⟩;clear hto;obtain⟨⟨⟩,F9⟩:=r;unfold zx;go_wp2;go_end0;exact HO.out
theorem Fr.own2 {base fb:Nat} {F F':Fz} {S:List Nat} {sv mv:Value} {w w':World} (h:Fr base fb F S sv mv w) (hst:F'.st=F.st) (hme:F'.mem=F.mem) (hjd:F'.jd=F.jd) (hcd:F'.code=F.code) (hg:F'.gas<=100000) (hr:w'.rowIs fb 137 27 (F'.cell sv mv)) (hk:Kb [fb] w w'):Fr base fb F' S sv mv w'/\Kb S w w':=
 ⟨⟨hr,by rw[hst];exact hk.own h.st (fun k hk=>by simpa using h.fs k hk),by rw[hme];exact hk.own h.me (fun k hk=>by simpa using h.fm k hk),h.foot,by rw[hst];exact h.stl,by rw[hme];exact h.mel,hg,Nat.le_trans h.hb hk.size,zcA h.zr hk (fun hm=>h.no0 (by rw[h.foot];simp at hm;simp[hm])) h.hs,h.hb1,h.hfb,by rw[hme];exact h.m32,by rw[hjd,hcd];exact h.jr.kb hk (fun g N f hr hm=>h.bno g N f hr (by rw[h.foot];simp at hm;simp[hm]))⟩,hk.mono (fun i hi=>by rw[h.foot];simp at hi;simp[hi])⟩
theorem pay_K {base fb:Nat} {F:Fz} {S:List Nat} {sv mv:Value} (c:Nat) (hc:c<=100000000) (w:World) (h:Fr base fb F S sv mv w):
  Calls prog 204 #[.pointer (some ⟨fb,0,none⟩),.int .i64 (c:Int)] w fun e w'=>if F.gas<c then Pan e/\Kb S w w' else e=.returned (.tuple #[])/\Fr base fb {F with gas:=F.gas - c} S sv mv w'/\Kb S w w':=by
 have hg:=h.row.cell (i:=16) (by decide);have hz:=h.row.frozen 16;rw[show F.cell sv mv 16=.int .i64 (F.gas:Int) from rfl] at hg;have hgl:=h.gal;by_cases hl:F.gas<c
 ·have d:decide ((F.gas:Int)<(c:Int))=true:=decide_eq_true (by omega);simp only[if_pos hl];go_enter func204,ntmps204;go_wp2;exact⟨rfl,⟨_,_,rfl⟩,Kb.refl _ _⟩
 ·have d:decide ((F.gas:Int)<(c:Int))=false:=decide_eq_false (by omega);simp only[if_neg hl];have HH:=zb h;clear h;go_enter func204,ntmps204;go_wp2;go_end0;refine⟨rfl,HH.out.own2 rfl rfl rfl rfl (by show F.gas - c<=_;omega) ?_ ((Kb.refl [fb] w).setCell (Or.inl (by simp)) _)⟩;rw[<-zak F sv mv (F.gas - c)];refine(HH.out.row.set 16 _).congr fun i hi=> ?_
  by_cases hi2:i=16
  ·rw[if_pos hi2,if_pos hi2,show((F.gas - c:Nat):Int)=(F.gas:Int) - (c:Int) by omega]
  ·rw[if_neg hi2,if_neg hi2]
def Zq (src:ByteArray) (t f n:Nat) (F:Fz):Option (Unit×Fz):=match zk t n F with
 |none=>none
 |some ((a,b),F1)=>if F1.gas<3*zD b then none else some ((),{F1 with gas:=F1.gas - 3*zD b,mem:=splice F1.mem a (zS src (f%M) b)})
theorem zdO {base fb:Nat} {F:Fz} {S:List Nat} {sv mv:Value} (src:ByteArray) (t f n:Nat) (hsr:src.size<=100000) (w:World) (h:Fr base fb F S sv mv w):
  Calls prog 285 #[.pointer (some ⟨fb,0,none⟩),.string src,wv t,wv f,wv n] w (Out (Zq src t f n F) zx base fb S w):=by
 have hs:=W3.start w t f n;have hf0:=h.below hs.be;have HP:=zb (zav t n _ hf0);have hnS:∀k,w.heap.size<=k->k∉S:=fun k hk hm=>by have:=h.footlt k hm;omega
 have HBE:=zb hs.be;have h32:=h.m32;have HRB:=zb hs.rb;obtain⟨ta,tb,tc,td⟩:=ze hs.ra;obtain⟨na,nb,nc,nd⟩:=ze hs.rc;have HNS:=zb hnS;clear hs h hf0 hnS;unfold Zq;cases hr:zk t n F with
 |none=>
  rw[hr] at HP;clear hr;go_enter func285,ntmps285;go_wp2_with fail
  refine HP.out.mono ?_;rintro e w1 ⟨⟨u,pv,rfl⟩,hk⟩;exact⟨rfl,⟨_,_,rfl⟩,(Kb.of_below HBE.out).trans hk (fun i hi=>Or.inl hi)⟩
 |some r=>
  obtain⟨⟨a,b⟩,F1⟩:=r;have HL:=zb (yh hr h32);rw[hr] at HP;clear hr ta tb tc td na nb nc nd;obtain⟨ta,tb,tc,td⟩:=ze (W3.start w t f n).ra;obtain⟨na,nb,nc,nd⟩:=ze (W3.start w t f n).rc;show Calls _ _ _ _ (Out (if F1.gas<3*zD b then none else some ((),{F1 with gas:=F1.gas - 3*zD b,mem:=splice F1.mem a (zS src (f%M) b)})) zx base fb S w);generalize hR:(if F1.gas<3*zD b then none else some ((),{F1 with gas:=F1.gas - 3*zD b,mem:=splice F1.mem a (zS src (f%M) b)}):Option (Unit×Fz))=R;have HR:=zb hR;clear hR;go_enter func285,ntmps285;go_wp2_with fail
  refine HP.out.mono ?_;rintro e w1 ⟨v,S1,sv1,mv1,rfl,hf1,hk1,hs1,hpo⟩;have hk1':=(Kb.of_below (S:=S) HBE.out).trans hk1 (fun i hi=>Or.inl hi);have hs1':∀k∈S1,k∈S\/w.heap.size<=k:=fun k hk=>(hs1 k hk).imp id (fun h=>Nat.le_trans HBE.out.size h)
  have hrb:=hk1.row HRB.out (HNS.out _ (by omega));have hrbS:w.heap.size+1∉S1:=fun hm=>(hs1 _ hm).elim (HNS.out _ (by omega)) (fun h=>by have:=hrb.lt;have:=HRB.out.lt;omega)
  have hb16:b<=65536:=by have:=HL.out;have:=hf1.mel;omega
  have HST:Hid (∀w,Calls prog 287 #[.int .i64 (b:Int)] w fun e w'=>e=.returned (.int .i64 ((zD b:Nat):Int))/\w'=w):=fun w=>YT b (by omega) w
  have hsb:zD b<=3000:=by unfold zD;omega
  have HPY:=zb (pay_K (3*zD b) (by omega) w1 hf1);rw[show((3*zD b:Nat):Int)=3*(zD b:Int) by omega] at HPY;obtain⟨adv,cv,rfl,hpo2⟩:=hpo;have HPO:Hid (PartOf mv1 (.slice adv b cv) a b):=⟨adv,cv,rfl,hpo2⟩;have HPC:=zb (zdE src f b hsr (by omega));have HK1:=zb hk1';have HS1:=zb hs1';have HRB1:=zb hrb;have HRS:=zb hrbS;generalize zD b=sb at*;clear hf1 hk1 hs1 hpo2 hk1' hs1' hrb hrbS HP ta tb tc td na nb nc nd;go_wp2_with fail
  refine(HST.out _).mono ?_;rintro e w2 ⟨rfl,rfl⟩;go_wp2_with fail
  refine HPY.out.mono ?_;intro e w3 hpay;by_cases hg:F1.gas<3*sb
  ·rw[if_pos hg] at hpay;obtain⟨⟨u,pv,rfl⟩,hk⟩:=hpay;have e:R=none:=HR.out.symm.trans (if_pos hg);rw[e];exact⟨rfl,⟨_,_,rfl⟩,HK1.out.trans hk HS1.out⟩
  ·rw[if_neg hg] at hpay;obtain⟨rfl,hf3,hk3⟩:=hpay;have HRE:=zb (HR.out.symm.trans (if_neg hg));have HF3:=zb hf3;have HK3:=zb (HK1.out.trans hk3 HS1.out);obtain⟨fa,fc,fd,fe⟩:=ze (hk3.row HRB1.out HRS.out);clear hf3 hk3 hg HPY HR;go_wp2_with fail
   refine(HPC.out _).mono ?_;rintro e w4 ⟨u,rfl,hby,hb4⟩;obtain⟨y,hrun,hf5,hk5⟩:=zeU (F:={F1 with gas:=F1.gas - 3*sb}) (HF3.out.below hb4) HPO.out hby.rds (zac _ _ _) 3
   have HO:Hid (Out R zx base fb S w (.returned (.tuple #[])) y):=by
    rw[HRE.out];exact⟨rfl,S1,sv1,mv1,hf5,HK3.out.trans ((Kb.of_below hb4).trans hk5 (fun j hj=>Or.inl hj)) HS1.out,HS1.out⟩
   rename_i K1 k1;refine k1 _ _ ?_;refine wpList_plain rfl fun K4 k4=>zlp (x':=y) rfl rfl hrun (k4 _ _ ?_)
   refine wpList_nil ?_;clear hby hb4 hrun hf5 hk5;go_wp2;go_end0;exact HO.out
abbrev zaF (F:Fz):Fz:=zh (zi (zE F))
abbrev zci (F:Fz):Nat:=zA (zi (zE F))
def by3 (F:Fz) (r:Option (Unit×Fz)):Option (Unit×Fz):=zK (zi F) (zK (zi (zh (zi F))) (zK (zi (zE F)) r))
theorem zfw {F:Fz} {r:Option (Unit×Fz)} (h:zi F=none\/zi (zh (zi F))=none\/zi (zh (zi (zh (zi F))))=none):by3 F r=none:=by
 unfold by3;rcases h with e|e|e
 ·exact zn (Or.inl e)
 ·exact zn (Or.inr (zn (Or.inl e)))
 ·exact zn (Or.inr (zn (Or.inr (zn (Or.inl e)))))
theorem zj6 {base fb:Nat} {F:Fz} {S:List Nat} {sv mv:Value} {w:World} {r:Option (Unit×Fz)} (h:Fr base fb (zaF F) S sv mv w):by3 F r=r:=
 (zT fun e=>ZS (YJ (YJ (zV e))) h).trans ((zT fun e=>ZS (YJ (zV e)) h).trans (zT fun e=>ZS (zV e) h))
theorem zmU (F:Fz):100000<(zaF F).gas\/Same F (zaF F):=Zp (Zp (Zp (Or.inr (Same.refl F))))
def ZR (src:ByteArray) (F:Fz):Option (Unit×Fz):=by3 F (Zq src (zY F) (Zh F) (zci F) (zaF F))
theorem zcM {base fb:Nat} {F:Fz} {S:List Nat} {sv mv:Value} (src:ByteArray) (hsr:src.size<=100000) (w:World) (h:Fr base fb F S sv mv w):
  Calls prog 263 #[.pointer (some ⟨fb,0,none⟩),.string src] w (Out (ZR src F) zx base fb S w):=by
 go_enter func263,ntmps263;go_wp2;refine pops3 _ _ h rfl rfl rfl rfl ?_ ?_
 ·intro u pv s x hno hd hk;have e:ZR src F=none:=zfw hno;rw[e];exact⟨hd,⟨_,_,rfl⟩,hk⟩
 ·intro x S' sv' mv' b0 b1 b2 hfr hkb hsub hn0 hg0 hr0 hn1 hg1 hr1 hn2 hg2 hr2;have HE:=zb (zj6 (r:=Zq src (zY F) (Zh F) (zci F) (zaF F)) hfr);change Hid (ZR src F=_) at HE;change Fr base fb (zaF F) S' sv' mv' x at hfr;change zX x b0 (zY F) at hr0;change zX x b1 (Zh F) at hr1;change zX x b2 (zci F) at hr2;simp only[zF,List.foldl_cons,List.foldl_nil,Act.put];generalize zaF F=F2 at*;generalize zY F=p at*;generalize Zh F=q at*;generalize zci F=r at*;generalize ZR src F=R at*;have HJ:=zb (zdO src p q r hsr x hfr);rw[<-HE.out] at HJ;obtain⟨c0,c1,c2,c3⟩:=ze hr0;obtain⟨d0,d1,d2,d3⟩:=ze hr1;obtain⟨e0,e1,e2,e3⟩:=ze hr2;have HKB:=zb hkb;have HSU:=zb hsub;clear hfr hkb hsub hr0 hr1 hr2 HE h hn0 hn1 hn2;go_wp2_with fail
  refine HJ.out.mono ?_;intro e y ho;cases R with
  |none=>
   obtain⟨⟨u,pv,rfl⟩,hk⟩:=ho;exact⟨rfl,⟨_,_,rfl⟩,HKB.out.trans hk HSU.out⟩
  |some r=>
   obtain⟨rfl,hto⟩:=ho;have HO:Hid (Out (some r) zx base fb S w (.returned (.tuple #[])) y):=⟨rfl,To.pre HKB.out HSU.out hto⟩;clear hto;obtain⟨⟨⟩,F9⟩:=r;unfold zx;go_wp2;go_end0;exact HO.out
section
def spP (p n b:Nat):Nat:=if Yq p n b then p%M else 0
def spN (p n b:Nat):Nat:=if Yq p n b then n%M else 0
def spB (p n b:Nat):Bool:=decide (Yq p n b)
theorem zm0:Own 286:=fun _ _=>by kernel_rfl
theorem zfQ:Own 285:=fun _ _=>by kernel_rfl
theorem znF (p n b:Nat) (hb:b<1000000) (w:World):Calls prog 286 #[wv p,wv n,.int .i64 (b:Int)] w fun e w'=>e=.returned (.tuple #[.int .i64 ((spP p n b:Nat):Int),.int .i64 ((spN p n b:Nat):Int),.bool (spB p n b)])/\Below w.heap.size w w':=by
 unfold spP spN spB;by_cases h:Yq p n b
 ·rw[if_pos h,if_pos h,decide_eq_true h];exact(zhN p n b hb h w).mono fun e w' ⟨q,m,h1,h2,h3,h4⟩=>⟨by rw[h3,h1.out,h2.out],h4⟩
 ·rw[if_neg h,if_neg h,decide_eq_false h];exact(zew p n b hb h w).mono fun e w' ⟨h3,h4⟩=>⟨h3,h4⟩
section
variable {s:Act} {x:World} {pos:String} {af:Array Edge} {g:Option (Nat×Bool)} {K:Act->World->Prop} {Q:Exit->Act->World->Prop}
theorem ev5 {o1 o2 o3 o4 o5:Operand} {v1 v2 v3 v4 v5:Value} (h1:s.eval o1=v1) (h2:s.eval o2=v2) (h3:s.eval o3=v3) (h4:s.eval o4=v4) (h5:s.eval o5=v5):#[]++(#[o1,o2,o3,o4,o5]:Array Operand).map s.eval++#[]=#[v1,v2,v3,v4,v5]:=by
 simp[h1,h2,h3,h4,h5]
end
end
section
def Stk (l:List Nat):Kn:=fun c _ v x=>c.1=0->∃b,Wds x b v l
theorem za6 (l:List Nat):yW (Stk l):=fun c c' S S' v x x' h hk e=>by
 rcases hk with⟨rfl,_,hb⟩|⟨h1,_⟩
 ·obtain⟨b,hw⟩:=h e;exact⟨b,zm hw hb⟩
 ·omega
def WAt (n:Nat):Kn:=fun c _ v x=>c.1=0->∃g o:Nat,v=.pointer (some ⟨g,o,none⟩)/\g<x.heap.size/\x.cell? ⟨g,o,none⟩=some (.int .u64 (za n 0))/\x.cell? ⟨g,o+1,none⟩=some (.int .u64 (za n 1))/\x.cell? ⟨g,o+2,none⟩=some (.int .u64 (za n 2))/\x.cell? ⟨g,o+3,none⟩=some (.int .u64 (za n 3))
theorem za3 (n:Nat):yW (WAt n):=fun c c' S S' v x x' h hk e=>by
 rcases hk with⟨rfl,_,hb⟩|⟨h1,_⟩
 ·obtain⟨g,o,h1,h2,c0,c1,c2,c3⟩:=h e;exact⟨g,o,h1,Nat.lt_of_lt_of_le h2 hb.size,(hb.cell (by exact h2)).trans c0,(hb.cell (by exact h2)).trans c1,(hb.cell (by exact h2)).trans c2,(hb.cell (by exact h2)).trans c3⟩
 ·omega
def Nv:Kn:=fun _ _ _ _=>False
theorem Yt:yW Nv:=fun _ _ _ _ _ _ _ h _=>h
section
variable {s:Act} {x:World} {pos:String} {af:Array Edge} {g:Option (Nat×Bool)} {K:Act->World->Prop} {Q:Exit->Act->World->Prop}
theorem zf2:Own 273:=fun _ _=>by kernel_rfl
theorem zkP {t d n q:Nat} {ty:TypeId} (he:s.tmps.getD t undef=.int .i64 (n:Int)) (hn:n=q+1) (hq:q<=1000) (hK:K (s.put (some d) (.int .i64 (q:Int))) x):
  Oper.wp prog ⟨some d,.binOp .sub 3 (.tmp t) (.const (.int .i64 1)) 3,ty,pos,af,g⟩ s x K Q:=by
 have he2:s.eval (.tmp t)=.int .i64 (n:Int):=he;have hw:IntKind.i64.wrap (q:Int)=(q:Int):=by simp[IntKind.wrap,IntKind.bits,IntKind.signed];omega
 have e:(n:Int) - 1=(q:Int):=by omega
 go_simp;exact hK
theorem zcY {t u d j len cap gg:Nat} {ty:TypeId} (he:s.tmps.getD t undef=.slice (some ⟨gg,0,none⟩) len cap) (hu:s.tmps.getD u undef=.int .i64 (j:Int)) (hj:j<len) (hK:K (s.put (some d) (.pointer (some ⟨gg,j*4,none⟩))) x):
  Oper.wp prog ⟨some d,.indexAddr 135 (.tmp t) (.tmp u),ty,pos,af,g⟩ s x K Q:=by
 have he2:s.eval (.tmp t)=.slice (some ⟨gg,0,none⟩) len cap:=he;have hu2:s.eval (.tmp u)=.int .i64 (j:Int):=hu;go_simp;exact hK
end
theorem zdf (l:List Nat) (q:Nat) (h:q<l.length):l.reverse[l.length - 1 - q]'(by rw[List.length_reverse];omega)=l.getD q 0:=by
 rw[List.getElem_reverse,List.getD_eq_getElem?_getD,List.getElem?_eq_getElem h,Option.getD_some];congr 1;omega
end
theorem zkc {base fb:Nat} {F:Fz} {S:List Nat} {sv mv:Value} {Q:Exit->Act->World->Prop} (a:Act) (w:World) {bf nf:Nat} (hr3:zX w bf (nf)) (hr3n:bf∉S) {bn nn:Nat} (hr4:zX w bn (nn)) (hr4n:bn∉S) (hsp7:F.ret.size<1000000) (h:Fr base fb F S sv mv w) (hsz:([21,22,23,24,25,26,27,28,20,29,30,31,5,6,7]:List Nat).all (fun d=>decide (d<a.tmps.size))=true) (c3:a.tmps.getD 3 undef=.pointer (some ⟨bf,0,none⟩)) (c4:a.tmps.getD 4 undef=.pointer (some ⟨bn,0,none⟩)) (c0:a.tmps.getD 0 undef=.pointer (some ⟨fb,0,none⟩))
  (hpan:∀u pv s x,False->s.defers=a.defers->Kb S w x->Q (.panic [{v:=.iface u pv,recovered:=false}]) s x)
  (hok:∀(x:World) (S':List Nat) (sv' mv':Value),Fr base fb (F) S' sv' mv' x->Kb S w x->(∀j∈S',j∈S\/w.heap.size<=j)->Q .normal (zF a [(21,wv (nf)),(22,wv (nn)),(23,.pointer (some ⟨fb,0,none⟩)),(24,.pointer (some ⟨fb,0,none⟩)),(25,.pointer (some ⟨fb,21,none⟩)),(26,.string F.ret),(27,.int .i64 (F.ret.size:Int)),(28,.tuple #[.int .i64 ((spP (nf) (nn) (F.ret.size):Nat):Int),.int .i64 ((spN (nf) (nn) (F.ret.size):Nat):Int),.bool (spB (nf) (nn) (F.ret.size))]),(20,.tuple #[.int .i64 ((spP (nf) (nn) (F.ret.size):Nat):Int),.int .i64 ((spN (nf) (nn) (F.ret.size):Nat):Int),.bool (spB (nf) (nn) (F.ret.size))]),(29,.int .i64 ((spP (nf) (nn) (F.ret.size):Nat):Int)),(30,.int .i64 ((spN (nf) (nn) (F.ret.size):Nat):Int)),(31,.bool (spB (nf) (nn) (F.ret.size))),(5,.int .i64 ((spP (nf) (nn) (F.ret.size):Nat):Int)),(6,.int .i64 ((spN (nf) (nn) (F.ret.size):Nat):Int)),(7,.bool (spB (nf) (nn) (F.ret.size)))]) x):
  (Code.region 1 #[⟨some 21,.load 24 (.tmp 3),24,"memory.go:71",#[],none⟩,⟨some 22,.load 24 (.tmp 4),24,"memory.go:71",#[],none⟩,⟨some 23,.move (.tmp 0),132,"memory.go:71",#[],none⟩,⟨some 24,.nilCheck (.tmp 23),0,"memory.go:71",#[⟨2,.data⟩],none⟩,⟨some 25,.fieldAddr 137 (.tmp 24) 12,0,"memory.go:71",#[⟨3,.data⟩],none⟩,⟨some 26,.load 9 (.tmp 25),9,"memory.go:71",#[⟨4,.data⟩],none⟩,⟨some 27,.call ⟨.builtin Builtin.len,#[.tmp 26],#[9]⟩,3,"memory.go:71",#[⟨5,.data⟩],none⟩,⟨some 28,.call ⟨.value (.func 286),#[.tmp 21,.tmp 22,.tmp 27],#[24,24,3]⟩,302,"memory.go:71",#[⟨0,.data⟩,⟨1,.data⟩,⟨6,.data⟩],none⟩,⟨some 20,.move (.tmp 28),302,"memory.go:71",#[⟨7,.data⟩],none⟩,⟨some 29,.extract (.tmp 20) 0,3,"memory.go:71",#[⟨8,.data⟩],none⟩,⟨some 30,.extract (.tmp 20) 1,3,"memory.go:71",#[⟨8,.data⟩,⟨12,.gcOnly .lateStores⟩],none⟩,⟨some 31,.extract (.tmp 20) 2,4,"memory.go:71",#[⟨8,.data⟩,⟨13,.gcOnly .lateStores⟩],none⟩,⟨some 5,.assign (.tmp 29),3,"memory.go:71",#[⟨9,.data⟩,⟨7,.chain⟩,⟨0,.phase⟩,⟨1,.phase⟩,⟨2,.phase⟩,⟨3,.phase⟩,⟨4,.phase⟩,⟨5,.phase⟩,⟨6,.phase⟩,⟨7,.phase⟩,⟨8,.phase⟩,⟨9,.phase⟩,⟨10,.textOnly .lateStores⟩,⟨11,.textOnly .lateStores⟩],none⟩,⟨some 6,.assign (.tmp 30),3,"memory.go:71",#[⟨10,.data⟩,⟨12,.chain⟩,⟨0,.phase⟩,⟨1,.phase⟩,⟨2,.phase⟩,⟨3,.phase⟩,⟨4,.phase⟩,⟨5,.phase⟩,⟨6,.phase⟩,⟨7,.phase⟩,⟨8,.phase⟩,⟨9,.phase⟩,⟨10,.phase⟩,⟨11,.textOnly .lateStores⟩,⟨12,.phase⟩],none⟩,⟨some 7,.assign (.tmp 31),4,"memory.go:71",#[⟨11,.data⟩,⟨13,.chain⟩,⟨0,.phase⟩,⟨1,.phase⟩,⟨2,.phase⟩,⟨3,.phase⟩,⟨4,.phase⟩,⟨5,.phase⟩,⟨6,.phase⟩,⟨7,.phase⟩,⟨8,.phase⟩,⟨9,.phase⟩,⟨10,.phase⟩,⟨11,.phase⟩,⟨12,.phase⟩,⟨13,.phase⟩],none⟩] true).wp prog Q a w:=by
 have hsame:∀k:Nat,100000<((fun _:Nat=>F) k).gas\/Same F ((fun _:Nat=>F) k):=by
  intro k;have s0:100000<(F).gas\/Same F F:=Or.inr (Same.refl F);exact s0
 exact ZC (fun _:Nat=>F) h [(3,.pointer (some ⟨bf,0,none⟩)),(4,.pointer (some ⟨bn,0,none⟩)),(0,.pointer (some ⟨fb,0,none⟩))] [(some 21,.v (wv (nf))),(some 22,.v (wv (nn))),(some 23,.v (.pointer (some ⟨fb,0,none⟩))),(some 24,.v (.pointer (some ⟨fb,0,none⟩))),(some 25,.v (.pointer (some ⟨fb,21,none⟩))),(some 26,.v (.string F.ret)),(some 27,.v (.int .i64 (F.ret.size:Int))),(some 28,.v (.tuple #[.int .i64 ((spP (nf) (nn) (F.ret.size):Nat):Int),.int .i64 ((spN (nf) (nn) (F.ret.size):Nat):Int),.bool (spB (nf) (nn) (F.ret.size))])),(some 20,.v (.tuple #[.int .i64 ((spP (nf) (nn) (F.ret.size):Nat):Int),.int .i64 ((spN (nf) (nn) (F.ret.size):Nat):Int),.bool (spB (nf) (nn) (F.ret.size))])),(some 29,.v (.int .i64 ((spP (nf) (nn) (F.ret.size):Nat):Int))),(some 30,.v (.int .i64 ((spN (nf) (nn) (F.ret.size):Nat):Int))),(some 31,.v (.bool (spB (nf) (nn) (F.ret.size)))),(some 5,.v (.int .i64 ((spP (nf) (nn) (F.ret.size):Nat):Int))),(some 6,.v (.int .i64 ((spN (nf) (nn) (F.ret.size):Nat):Int))),(some 7,.v (.bool (spB (nf) (nn) (F.ret.size))))] [] [0,1,5,7] (by kernel_rfl) hsz (Zi c3 (Zi c4 (Zi c0 rfl))) (by kernel_rfl) trivial
  True.intro
  (zf _ _ _ rfl rfl (fun s x k S1 sv1 mv1 hfr hkb hkp hv hl K hK=>YQ 3 21 _ _ (hv 3 _ rfl) (hkb.row hr3 hr3n) (hK _ x (Below.refl _ _) nn1 rfl))
  (zf _ _ _ rfl rfl (fun s x k S1 sv1 mv1 hfr hkb hkp hv hl K hK=>YQ 4 22 _ _ (hv 4 _ rfl) (hkb.row hr4 hr4n) (hK _ x (Below.refl _ _) nn1 rfl))
  (zf _ _ _ rfl rfl (fun s x k S1 sv1 mv1 hfr hkb hkp hv hl K hK=>by
    rcases hsame k with hbd|hsm
    ·exact absurd hfr.gal (Nat.not_le.2 hbd)
    ·have e:=hsm.ret;exact zv (v:=.string F.ret) (fun w=>by kernel_rfl) (hv 25 _ rfl) ((hfr.row.cell (i:=21) (by decide)).trans (congrArg (fun z=>some (Value.string z)) e)) (hK _ x (Below.refl _ _) nn1 rfl))
  (zf _ _ _ rfl rfl (fun s x k S1 sv1 mv1 hfr hkb hkp hv hl K hK=>ZL zm0 (ev3 (hv 21 _ rfl) (hv 22 _ rfl) (hv 27 _ rfl)) (znF (nf) (nn) (F.ret.size) hsp7 x) (fun e x' h9=>⟨_,h9.1,hK _ x' h9.2 nn1 rfl⟩))
  True.intro))))
  fun g x S' sv' mv' hfr hkb hsub hT=>hok x S' sv' mv' hfr hkb hsub
theorem ze5 {base fb:Nat} {F:Fz} {S:List Nat} {sv mv:Value} {Q:Exit->Act->World->Prop} (a:Act) (w:World) {bt nt:Nat} (hr2:zX w bt (nt)) (hr2n:bt∉S) {bf nf:Nat} (hr3:zX w bf (nf)) (hr3n:bf∉S) {bn nn:Nat} (hr4:zX w bn (nn)) (hr4n:bn∉S) (hcp8:(F.ret).size<=100000) (h:Fr base fb F S sv mv w) (hsz:([40,41,42,43,44,45,46,47,48]:List Nat).all (fun d=>decide (d<a.tmps.size))=true) (c2:a.tmps.getD 2 undef=.pointer (some ⟨bt,0,none⟩)) (c3:a.tmps.getD 3 undef=.pointer (some ⟨bf,0,none⟩)) (c4:a.tmps.getD 4 undef=.pointer (some ⟨bn,0,none⟩)) (c0:a.tmps.getD 0 undef=.pointer (some ⟨fb,0,none⟩))
  (hpan:∀u pv s x,(Zq (F.ret) (nt) (nf) (nn) (F)=none)->s.defers=a.defers->Kb S w x->Q (.panic [{v:=.iface u pv,recovered:=false}]) s x)
  (hok:∀(x:World) (S':List Nat) (sv' mv':Value),Fr base fb (zh (Zq (F.ret) (nt) (nf) (nn) (F))) S' sv' mv' x->Kb S w x->(∀j∈S',j∈S\/w.heap.size<=j)->Q .normal (zF a [(40,.pointer (some ⟨fb,0,none⟩)),(41,.pointer (some ⟨fb,0,none⟩)),(42,.pointer (some ⟨fb,0,none⟩)),(43,.pointer (some ⟨fb,21,none⟩)),(44,.string F.ret),(45,wv (nt)),(46,wv (nf)),(47,wv (nn)),(48,Value.tuple #[])]) x):
  (Code.region 4 #[⟨some 40,.move (.tmp 0),132,"memory.go:74",#[],none⟩,⟨some 41,.move (.tmp 0),132,"memory.go:74",#[],none⟩,⟨some 42,.nilCheck (.tmp 41),0,"memory.go:74",#[⟨1,.data⟩],none⟩,⟨some 43,.fieldAddr 137 (.tmp 42) 12,0,"memory.go:74",#[⟨2,.data⟩],none⟩,⟨some 44,.load 9 (.tmp 43),9,"memory.go:74",#[⟨3,.data⟩],none⟩,⟨some 45,.load 24 (.tmp 2),24,"memory.go:74",#[],none⟩,⟨some 46,.load 24 (.tmp 3),24,"memory.go:74",#[],none⟩,⟨some 47,.load 24 (.tmp 4),24,"memory.go:74",#[],none⟩,⟨some 48,.call ⟨.value (.func 285),#[.tmp 40,.tmp 44,.tmp 45,.tmp 46,.tmp 47],#[132,9,24,24,24]⟩,0,"memory.go:74",#[⟨0,.data⟩,⟨4,.data⟩,⟨5,.data⟩,⟨6,.data⟩,⟨7,.data⟩],none⟩] true).wp prog Q a w:=by
 exact ZC (fun k=>match k with|0=>F|_=>zh (Zq (F.ret) (nt) (nf) (nn) (F))) h [(2,.pointer (some ⟨bt,0,none⟩)),(3,.pointer (some ⟨bf,0,none⟩)),(4,.pointer (some ⟨bn,0,none⟩)),(0,.pointer (some ⟨fb,0,none⟩))] [(some 40,.v (.pointer (some ⟨fb,0,none⟩))),(some 41,.v (.pointer (some ⟨fb,0,none⟩))),(some 42,.v (.pointer (some ⟨fb,0,none⟩))),(some 43,.v (.pointer (some ⟨fb,21,none⟩))),(some 44,.v (.string F.ret)),(some 45,.v (wv (nt))),(some 46,.v (wv (nf))),(some 47,.v (wv (nn))),(some 48,.v (Value.tuple #[]))] [8] [4,5,6,7] (by kernel_rfl) hsz (Zi c2 (Zi c3 (Zi c4 (Zi c0 rfl)))) (by kernel_rfl) trivial
  (zf _ _ _ rfl rfl (fun s x S1 sv1 mv1 hfr hkb hsub hdf hv hl K hK=>zbn (r:=Zq (F.ret) (nt) (nf) (nn) (F)) (val:=zx) zfQ (ev5 (hv 40 _ rfl) (hv 44 _ rfl) (hv 45 _ rfl) (hv 46 _ rfl) (hv 47 _ rfl)) (zdO (F.ret) (nt) (nf) (nn) hcp8 x hfr) rfl (fun _ _ _=>rfl) (fun hrn u pv x' hk=>hpan u pv s x' hrn hdf (hkb.trans hk hsub)) hK)
  True.intro)
  (zf _ _ _ rfl rfl (fun s x k S1 sv1 mv1 hfr hkb hkp hv hl K hK=>by
    obtain rfl:k=0:=Nat.le_zero.1 (hkp 0 8 rfl (by kernel_rfl));have hfr0:Fr base fb F S1 sv1 mv1 x:=hfr;exact zv (v:=.string F.ret) (fun w=>by kernel_rfl) (hv 43 _ rfl) (hfr0.row.cell (i:=21) (by decide)) (hK _ x (Below.refl _ _) nn1 rfl))
  (zf _ _ _ rfl rfl (fun s x k S1 sv1 mv1 hfr hkb hkp hv hl K hK=>YQ 2 45 _ _ (hv 2 _ rfl) (hkb.row hr2 hr2n) (hK _ x (Below.refl _ _) nn1 rfl))
  (zf _ _ _ rfl rfl (fun s x k S1 sv1 mv1 hfr hkb hkp hv hl K hK=>YQ 3 46 _ _ (hv 3 _ rfl) (hkb.row hr3 hr3n) (hK _ x (Below.refl _ _) nn1 rfl))
  (zf _ _ _ rfl rfl (fun s x k S1 sv1 mv1 hfr hkb hkp hv hl K hK=>YQ 4 47 _ _ (hv 4 _ rfl) (hkb.row hr4 hr4n) (hK _ x (Below.refl _ _) nn1 rfl))
  True.intro))))
  fun g x S' sv' mv' hfr hkb hsub hT=>hok x S' sv' mv' hfr hkb hsub
def zaf (t f n:Nat) (F:Fz):Option (Unit×Fz):=if n%M≠0/\spB f n F.ret.size=false then none else Zq F.ret t f n F
def ZT (F:Fz):Option (Unit×Fz):=by3 F (zaf (zY F) (Zh F) (zci F) (zaF F))
theorem Kb.sub_trans {S S1 S2:List Nat} {w x:World} (hk:Kb S w x) (h1:∀j∈S1,j∈S\/w.heap.size<=j) (h2:∀j∈S2,j∈S1\/x.heap.size<=j):∀j∈S2,j∈S\/w.heap.size<=j:=fun j hj=>(h2 j hj).elim (h1 j) (fun h=>Or.inr (Nat.le_trans hk.size h))
theorem zdp {S1 S2:List Nat} {x:World} {b:Nat} (hb:b∉S1) (hl:b<x.heap.size) (h2:∀j∈S2,j∈S1\/x.heap.size<=j):b∉S2:=fun hm=>(h2 b hm).elim hb (fun h=>by omega)
theorem zfr {base fb:Nat} {F:Fz} {S:List Nat} {sv mv:Value} (hsr:F.ret.size<=100000) (w:World) (h:Fr base fb F S sv mv w):
  Calls prog 264 #[.pointer (some ⟨fb,0,none⟩)] w (Out (ZT F) zx base fb S w):=by
 go_enter func264,ntmps264;go_wp2;refine pops3 _ _ h rfl rfl rfl rfl ?_ ?_
 ·intro u pv s x hno hd hk;have e:ZT F=none:=zfw hno;rw[e];exact⟨hd,⟨_,_,rfl⟩,hk⟩
 ·intro x S' sv' mv' b0 b1 b2 hfr hkb hsub hn0 hg0 hr0 hn1 hg1 hr1 hn2 hg2 hr2;have HE:=zb (zj6 (r:=zaf (zY F) (Zh F) (zci F) (zaF F)) hfr);change Hid (ZT F=_) at HE;change Fr base fb (zaF F) S' sv' mv' x at hfr;change zX x b0 (zY F) at hr0;change zX x b1 (Zh F) at hr1;change zX x b2 (zci F) at hr2
  have hsr2:(zaF F).ret.size<=100000:=by
   rcases zmU F with h1|h1
   ·exact absurd hfr.gal (by omega)
   ·rw[h1.ret];exact hsr
  simp only[zF,List.foldl_cons,List.foldl_nil,Act.put];generalize zaF F=F2 at*;generalize zY F=p at*;generalize Zh F=q at*;generalize zci F=r at*;generalize ZT F=R at*;simp only[sx9]
  go_upto_region 1 with fail
  refine zkc (F:=F2) (S:=S') (bf:=b1) (nf:=q) (bn:=b2) (nn:=r) _ x hr1 hn1 hr2 hn2 (by omega) hfr rfl rfl rfl rfl (fun _ _ _ _ h=>h.elim) ?_;intro x1 S1 sv1 mv1 hf1 hk1 hs1;have hk01:=hkb.trans hk1 hsub;have hs01:=hkb.sub_trans hsub hs1;have hr01:=hk1.row hr0 hn0;have hr11:=hk1.row hr1 hn1;have hr21:=hk1.row hr2 hn2;have hn01:=zdp hn0 hr0.lt hs1;have hn11:=zdp hn1 hr1.lt hs1;have hn21:=zdp hn2 hr2.lt hs1;obtain⟨z0,z1,z2,z3⟩:_/\_/\_/\_:=⟨hf1.zr 0 (by omega),hf1.zr 1 (by omega),hf1.zr 2 (by omega),hf1.zr 3 (by omega)⟩;obtain⟨d0,d1,d2,d3⟩:=ze hr21;have hez:=Z5 r;clear hkb hsub hk1 hs1 hr0 hr1 hr2 hn0 hn1 hn2 hfr;simp only[zF,List.foldl_cons,List.foldl_nil,Act.put,List.setIfInBounds_toArray,List.set_cons_zero,List.set_cons_succ];by_cases hbad:r%M≠0/\spB q r F2.ret.size=false
  ·have HEN:Hid (R=none):=HE.out.trans (if_pos hbad);rw[Ys hbad.1] at hez;have hsb:=hbad.2;have HK:=zb hk01;clear hk01 hs01 hr01 hr11 hr21 hn01 hn11 hn21 hf1 HE h hbad;go_wp2;refine⟨rfl, ?_⟩;rw[HEN.out];exact⟨⟨_,_,rfl⟩,HK.out⟩
  ·have HE2:=zb (HE.out.trans (if_neg hbad));by_cases hr0':r%M=0
   ·rw[YY hr0'] at hez;clear hbad
    go_upto_region 4 with fail
    refine ze5 (F:=F2) (S:=S1) (bt:=b0) (nt:=p) (bf:=b1) (nf:=q) (bn:=b2) (nn:=r) _ x1 hr01 hn01 hr11 hn11 hr21 hn21 hsr2 hf1 rfl rfl rfl rfl rfl ?_ ?_
    ·intro u pv s y hno hd hk;have e:R=none:=HE2.out.trans hno;rw[e];exact⟨hd,⟨_,_,rfl⟩,hk01.trans hk hs01⟩
    ·intro y S2 sv2 mv2 hf2 hk2 hs2;have e:=HE2.out.trans (zaW fun e=>ZS (zV e) hf2)
     have HO:Hid (Out R zx base fb S w (.returned (.tuple #[])) y):=by
      rw[e];exact⟨rfl,S2,sv2,mv2,hf2,hk01.trans hk2 hs01,hk01.sub_trans hs01 hs2⟩
     clear e hf2 hk2 hs2 hk01 hs01 hr01 hr11 hr21 hn01 hn11 hn21 hf1 HE HE2 h z0 z1 z2 z3 d0 d1 d2 d3 hez;simp only[zF,List.foldl_cons,List.foldl_nil,Act.put];go_wp2;go_end0;exact HO.out
   ·rw[Ys hr0'] at hez
    have hsb:spB q r F2.ret.size=true:=by
     cases hq:spB q r F2.ret.size with
     |true=>rfl
     |false=>exact absurd ⟨hr0',hq⟩ hbad
    clear hbad
    go_upto_region 4 with fail
    refine ze5 (F:=F2) (S:=S1) (bt:=b0) (nt:=p) (bf:=b1) (nf:=q) (bn:=b2) (nn:=r) _ x1 hr01 hn01 hr11 hn11 hr21 hn21 hsr2 hf1 rfl rfl rfl rfl rfl ?_ ?_
    ·intro u pv s y hno hd hk;have e:R=none:=HE2.out.trans hno;rw[e];exact⟨hd,⟨_,_,rfl⟩,hk01.trans hk hs01⟩
    ·intro y S2 sv2 mv2 hf2 hk2 hs2;have e:=HE2.out.trans (zaW fun e=>ZS (zV e) hf2)
     have HO:Hid (Out R zx base fb S w (.returned (.tuple #[])) y):=by
      rw[e];exact⟨rfl,S2,sv2,mv2,hf2,hk01.trans hk2 hs01,hk01.sub_trans hs01 hs2⟩
     clear e hf2 hk2 hs2 hk01 hs01 hr01 hr11 hr21 hn01 hn11 hn21 hf1 HE HE2 h z0 z1 z2 z3 d0 d1 d2 d3 hez;simp only[zF,List.foldl_cons,List.foldl_nil,Act.put];go_wp2;go_end0;exact HO.out
theorem PhF.cell {base fb:Nat} {G:Nat->Fz} {S:List Nat} {w x:World} {k:Nat} {F:Fz} (h:PhF base fb G S w k x) (hs:100000<(G k).gas\/Same F (G k)) (o:Nat) (ho:o<27) (c:Fz->Value) (hc:∀H sv mv,Fz.cell H sv mv o=c H) (hsame:∀H,Same F H->c H=c F):x.cell? ⟨fb,o,none⟩=some (c F):=by
 obtain⟨S',sv,mv,h1,_⟩:=h;rcases hs with hs|hs
 ·exact absurd h1.gal (by omega)
 ·rw[h1.row.cell (i:=o) ho,hc,hsame _ hs]
theorem zly {r:Option (Nat×Fz)} {a:Nat} {F:Fz} (h:r=some (a,F)):a=zA r:=by rw[h];rfl
theorem PhF.out1 {base fb:Nat} {S:List Nat} {w x:World} {r:Option (Unit×Fz)} (h:∃S' sv mv,Fr base fb (zh r) S' sv mv x/\Kb S w x/\∀j∈S',j∈S\/w.heap.size<=j):Out r zx base fb S w (.returned (.tuple #[])) x:=by
 obtain⟨S',sv,mv,h1,h2,h3⟩:=h;rw[zaW (r:=r) fun e=>ZS (zV e) h1];exact⟨rfl,S',sv,mv,h1,h2,h3⟩
def SlL (n:Nat):Kp:=fun _ v _=>∃ad c,v=.slice ad n c
theorem st_lenB {s:Act} {x:World} {pos:String} {af:Array Edge} {gd:Option (Nat×Bool)} {K:Act->World->Prop} {Q:Exit->Act->World->Prop} {t d n c:Nat} {ty:TypeId} {ad:Option Addr} (he:s.tmps.getD t undef=.slice ad n c) (hK:K (s.put (some d) (.int .i64 (n:Int))) x):
  Oper.wp prog ⟨some d,.call ⟨.builtin .len,#[.tmp t],#[26]⟩,ty,pos,af,gd⟩ s x K Q:=by
 have he2:s.eval (.tmp t)=.slice ad n c:=he;go_simp;exact hK
theorem zaY {r:Option (Unit×Fz)} {base fb:Nat} {S:List Nat} {w:World} (e:Ending) (x:World) (h:Out r zx base fb S w e x):e=.returned (.tuple #[])\/∃u pv,e=.panicked [{v:=.iface u pv,recovered:=false}]:=by
 cases r with
 |none=>obtain⟨⟨u,pv,rfl⟩,_⟩:=h;exact Or.inr ⟨u,pv,rfl⟩
 |some y=>obtain⟨u,F'⟩:=y;obtain⟨rfl,_⟩:=h;exact Or.inl rfl
def PcK (l:List UInt8):Kp:=fun p v x=>p≠0/\(p=1->Rds x v l)
theorem pck_s1 {l:List UInt8} {p:Nat} {v:Value} {x x':World} (h:PcK l p v x):PcK l (p+1) v x':=⟨by omega,fun e=>absurd h.1 (by omega)⟩
theorem pck_s2 {l:List UInt8} {p:Nat} {v:Value} {x x':World} (h:PcK l p v x) (hb:Below x.heap.size x x'):PcK l p v x':=⟨h.1,fun e=>(h.2 e).below hb⟩
theorem PhF.out2 {α:Type} {base fb:Nat} {S:List Nat} {w x:World} {r0:Option (α×Fz)} {r:Option (Unit×Fz)} (hr:r0=none->Bd (zh r)) (h:∃S' sv mv,Fr base fb (zh r) S' sv mv x/\Kb S w x/\∀j∈S',j∈S\/w.heap.size<=j):Out (zK r0 r) zx base fb S w (.returned (.tuple #[])) x:=by
 obtain⟨S',sv,mv,h1,h2,h3⟩:=h;rw[zT fun e=>ZS (hr e) h1];exact PhF.out1 ⟨S',sv,mv,h1,h2,h3⟩
theorem surr_48 {base fb:Nat} {F:Fz} {S:List Nat} {sv mv:Value} (w:World) (h:Fr base fb F S sv mv w):
  Calls prog 233 #[.pointer (some ⟨fb,0,none⟩),.int .u8 48] w (Out (zl F.self F) zx base fb S w):=by
 have hsm:∀k:Nat,100000<((fun k=>match k with|0=>F|_=>zh (zl F.self F)) k).gas\/Same F ((fun k=>match k with|0=>F|_=>zh (zl F.self F)) k):=fun k=>by
  match k with
  |0=>exact Or.inr (Same.refl F)
  |_+1=>exact ZW (Or.inr (Same.refl F)) _
 go_enter func233,ntmps233;go_wp2
 refine zq (PhF base fb (fun k=>match k with|0=>F|_=>zh (zl F.self F)) S w) (fun _ _ _=>True) [(0,(.pointer (some ⟨fb,0,none⟩)))] [(some 7,.v (.pointer (some ⟨fb,0,none⟩))),(some 8,.v (.pointer (some ⟨fb,0,none⟩))),(some 9,.v (.pointer (some ⟨fb,19,none⟩))),(some 10,.v (.pointer (some ⟨fb,0,none⟩))),(some 11,.v (.pointer (some ⟨fb,0,none⟩))),(some 12,.v (.pointer (some ⟨fb,3,none⟩))),(some 13,.v (wv F.self)),(some 14,.v (.tuple #[]))] [7] [6] (by kernel_rfl) (by rfl) (by rfl) (by kernel_rfl) (PhF.init h) (PhF.bel)
   (zf _ _ _ rfl rfl
   (fun s x hph hdf hv hl K hK=>by
    refine ZP (val:=zx) (c:=.tuple #[]) hph hv (fun S' sv mv hf=>yg (F.self) x hf) (by kernel_rfl) rfl (fun _ _ _=>rfl) (fun hno u pv x' hk=> ?_) (fun x' hp=>hK _ x' hp trivial nn1 rfl);rw[show zl F.self F=none from hno];exact⟨hdf,⟨_,_,rfl⟩,hk⟩)
   True.intro)
   (zf _ _ _ rfl rfl
   (fun k s x hk hlo hhi hph hdf hv hl K hK=>by
    exact zB (n:=F.self) (hv 12 _ rfl) (hph.cell (hsm k) 3 (by decide) (fun F=>.int .u64 (za F.self 0)) (fun _ _ _=>rfl) (fun G h=>congrArg (fun z=>Value.int .u64 (za z 0)) h.self)) (hph.cell (hsm k) 4 (by decide) (fun F=>.int .u64 (za F.self 1)) (fun _ _ _=>rfl) (fun G h=>congrArg (fun z=>Value.int .u64 (za z 1)) h.self)) (hph.cell (hsm k) 5 (by decide) (fun F=>.int .u64 (za F.self 2)) (fun _ _ _=>rfl) (fun G h=>congrArg (fun z=>Value.int .u64 (za z 2)) h.self)) (hph.cell (hsm k) 6 (by decide) (fun F=>.int .u64 (za F.self 3)) (fun _ _ _=>rfl) (fun G h=>congrArg (fun z=>Value.int .u64 (za z 3)) h.self)) (hK _ x (Below.refl _ _) nn1 rfl))
   True.intro)
   (fun _ _ _ h=>(zo rfl h).elim) (fun _ _ _ h=>(zo rfl h).elim) ?_
 intro gg x hph _;have HO:=zb (PhF.out1 hph);clear hph h;simp only[yy,yw,yx,Zg,zF,List.foldl_cons,List.foldl_nil,Act.put];simp only[sx9];go_wp2;go_end0;exact HO.out
theorem surr_51 {base fb:Nat} {F:Fz} {S:List Nat} {sv mv:Value} (w:World) (h:Fr base fb F S sv mv w):
  Calls prog 233 #[.pointer (some ⟨fb,0,none⟩),.int .u8 51] w (Out (zl F.caller F) zx base fb S w):=by
 have hsm:∀k:Nat,100000<((fun k=>match k with|0=>F|_=>zh (zl F.caller F)) k).gas\/Same F ((fun k=>match k with|0=>F|_=>zh (zl F.caller F)) k):=fun k=>by
  match k with
  |0=>exact Or.inr (Same.refl F)
  |_+1=>exact ZW (Or.inr (Same.refl F)) _
 go_enter func233,ntmps233;go_wp2
 refine zq (PhF base fb (fun k=>match k with|0=>F|_=>zh (zl F.caller F)) S w) (fun _ _ _=>True) [(0,(.pointer (some ⟨fb,0,none⟩)))] [(some 32,.v (.pointer (some ⟨fb,0,none⟩))),(some 33,.v (.pointer (some ⟨fb,0,none⟩))),(some 34,.v (.pointer (some ⟨fb,19,none⟩))),(some 35,.v (.pointer (some ⟨fb,0,none⟩))),(some 36,.v (.pointer (some ⟨fb,0,none⟩))),(some 37,.v (.pointer (some ⟨fb,7,none⟩))),(some 38,.v (wv F.caller)),(some 39,.v (.tuple #[]))] [7] [6] (by kernel_rfl) (by rfl) (by rfl) (by kernel_rfl) (PhF.init h) (PhF.bel)
   (zf _ _ _ rfl rfl
   (fun s x hph hdf hv hl K hK=>by
    refine ZP (val:=zx) (c:=.tuple #[]) hph hv (fun S' sv mv hf=>yg (F.caller) x hf) (by kernel_rfl) rfl (fun _ _ _=>rfl) (fun hno u pv x' hk=> ?_) (fun x' hp=>hK _ x' hp trivial nn1 rfl);rw[show zl F.caller F=none from hno];exact⟨hdf,⟨_,_,rfl⟩,hk⟩)
   True.intro)
   (zf _ _ _ rfl rfl
   (fun k s x hk hlo hhi hph hdf hv hl K hK=>by
    exact zB (n:=F.caller) (hv 37 _ rfl) (hph.cell (hsm k) 7 (by decide) (fun F=>.int .u64 (za F.caller 0)) (fun _ _ _=>rfl) (fun G h=>congrArg (fun z=>Value.int .u64 (za z 0)) h.caller)) (hph.cell (hsm k) 8 (by decide) (fun F=>.int .u64 (za F.caller 1)) (fun _ _ _=>rfl) (fun G h=>congrArg (fun z=>Value.int .u64 (za z 1)) h.caller)) (hph.cell (hsm k) 9 (by decide) (fun F=>.int .u64 (za F.caller 2)) (fun _ _ _=>rfl) (fun G h=>congrArg (fun z=>Value.int .u64 (za z 2)) h.caller)) (hph.cell (hsm k) 10 (by decide) (fun F=>.int .u64 (za F.caller 3)) (fun _ _ _=>rfl) (fun G h=>congrArg (fun z=>Value.int .u64 (za z 3)) h.caller)) (hK _ x (Below.refl _ _) nn1 rfl))
   True.intro)
   (fun _ _ _ h=>(zo rfl h).elim) (fun _ _ _ h=>(zo rfl h).elim) ?_
 intro gg x hph _;have HO:=zb (PhF.out1 hph);clear hph h;simp only[yy,yw,yx,Zg,zF,List.foldl_cons,List.foldl_nil,Act.put];simp only[sx9];go_wp2;go_end0;exact HO.out
theorem surr_52 {base fb:Nat} {F:Fz} {S:List Nat} {sv mv:Value} (w:World) (h:Fr base fb F S sv mv w):
  Calls prog 233 #[.pointer (some ⟨fb,0,none⟩),.int .u8 52] w (Out (zl F.value F) zx base fb S w):=by
 have hsm:∀k:Nat,100000<((fun k=>match k with|0=>F|_=>zh (zl F.value F)) k).gas\/Same F ((fun k=>match k with|0=>F|_=>zh (zl F.value F)) k):=fun k=>by
  match k with
  |0=>exact Or.inr (Same.refl F)
  |_+1=>exact ZW (Or.inr (Same.refl F)) _
 go_enter func233,ntmps233;go_wp2
 refine zq (PhF base fb (fun k=>match k with|0=>F|_=>zh (zl F.value F)) S w) (fun _ _ _=>True) [(0,(.pointer (some ⟨fb,0,none⟩)))] [(some 42,.v (.pointer (some ⟨fb,0,none⟩))),(some 43,.v (.pointer (some ⟨fb,0,none⟩))),(some 44,.v (.pointer (some ⟨fb,19,none⟩))),(some 45,.v (.pointer (some ⟨fb,0,none⟩))),(some 46,.v (.pointer (some ⟨fb,0,none⟩))),(some 47,.v (.pointer (some ⟨fb,11,none⟩))),(some 48,.v (wv F.value)),(some 49,.v (.tuple #[]))] [7] [6] (by kernel_rfl) (by rfl) (by rfl) (by kernel_rfl) (PhF.init h) (PhF.bel)
   (zf _ _ _ rfl rfl
   (fun s x hph hdf hv hl K hK=>by
    refine ZP (val:=zx) (c:=.tuple #[]) hph hv (fun S' sv mv hf=>yg (F.value) x hf) (by kernel_rfl) rfl (fun _ _ _=>rfl) (fun hno u pv x' hk=> ?_) (fun x' hp=>hK _ x' hp trivial nn1 rfl);rw[show zl F.value F=none from hno];exact⟨hdf,⟨_,_,rfl⟩,hk⟩)
   True.intro)
   (zf _ _ _ rfl rfl
   (fun k s x hk hlo hhi hph hdf hv hl K hK=>by
    exact zB (n:=F.value) (hv 47 _ rfl) (hph.cell (hsm k) 11 (by decide) (fun F=>.int .u64 (za F.value 0)) (fun _ _ _=>rfl) (fun G h=>congrArg (fun z=>Value.int .u64 (za z 0)) h.value)) (hph.cell (hsm k) 12 (by decide) (fun F=>.int .u64 (za F.value 1)) (fun _ _ _=>rfl) (fun G h=>congrArg (fun z=>Value.int .u64 (za z 1)) h.value)) (hph.cell (hsm k) 13 (by decide) (fun F=>.int .u64 (za F.value 2)) (fun _ _ _=>rfl) (fun G h=>congrArg (fun z=>Value.int .u64 (za z 2)) h.value)) (hph.cell (hsm k) 14 (by decide) (fun F=>.int .u64 (za F.value 3)) (fun _ _ _=>rfl) (fun G h=>congrArg (fun z=>Value.int .u64 (za z 3)) h.value)) (hK _ x (Below.refl _ _) nn1 rfl))
   True.intro)
   (fun _ _ _ h=>(zo rfl h).elim) (fun _ _ _ h=>(zo rfl h).elim) ?_
 intro gg x hph _;have HO:=zb (PhF.out1 hph);clear hph h;simp only[yy,yw,yx,Zg,zF,List.foldl_cons,List.foldl_nil,Act.put];simp only[sx9];go_wp2;go_end0;exact HO.out
theorem surr_54 {base fb:Nat} {F:Fz} {S:List Nat} {sv mv:Value} (hds:F.data.size<=100000) (w:World) (h:Fr base fb F S sv mv w):
  Calls prog 233 #[.pointer (some ⟨fb,0,none⟩),.int .u8 54] w (Out (zl F.data.size F) zx base fb S w):=by
 have hsm:∀k:Nat,100000<((fun k=>match k with|0=>F|_=>zh (zl F.data.size F)) k).gas\/Same F ((fun k=>match k with|0=>F|_=>zh (zl F.data.size F)) k):=fun k=>by
  match k with
  |0=>exact Or.inr (Same.refl F)
  |_+1=>exact ZW (Or.inr (Same.refl F)) _
 go_enter func233,ntmps233;go_wp2
 refine zq (PhF base fb (fun k=>match k with|0=>F|_=>zh (zl F.data.size F)) S w) (fun _ _ _=>True) [(0,(.pointer (some ⟨fb,0,none⟩)))] [(some 68,.v (.pointer (some ⟨fb,0,none⟩))),(some 69,.v (.pointer (some ⟨fb,0,none⟩))),(some 70,.v (.pointer (some ⟨fb,19,none⟩))),(some 71,.v (.pointer (some ⟨fb,0,none⟩))),(some 72,.v (.pointer (some ⟨fb,0,none⟩))),(some 73,.v (.pointer (some ⟨fb,15,none⟩))),(some 74,.v (.string F.data)),(some 75,.v (.int .i64 (F.data.size:Int))),(some 76,.v (wv F.data.size)),(some 77,.v (.tuple #[]))] [9] [6,8] (by kernel_rfl) (by rfl) (by rfl) (by kernel_rfl) (PhF.init h) (PhF.bel)
   (zf _ _ _ rfl rfl
   (fun s x hph hdf hv hl K hK=>by
    refine ZP (val:=zx) (c:=.tuple #[]) hph hv (fun S' sv mv hf=>yg (F.data.size) x hf) (by kernel_rfl) rfl (fun _ _ _=>rfl) (fun hno u pv x' hk=> ?_) (fun x' hp=>hK _ x' hp trivial nn1 rfl);rw[show zl F.data.size F=none from hno];exact⟨hdf,⟨_,_,rfl⟩,hk⟩)
   True.intro)
   (zf _ _ _ rfl rfl
   (fun k s x hk hlo hhi hph hdf hv hl K hK=>by
    exact zv (v:=.string F.data) (fun w=>by kernel_rfl) (hv 73 _ rfl) (hph.cell (hsm k) 15 (by decide) (fun F=>.string F.data) (fun _ _ _=>rfl) (fun G h=>congrArg Value.string h.data)) (hK _ x (Below.refl _ _) nn1 rfl))
   (zf _ _ _ rfl rfl
   (fun k s x hk hlo hhi hph hdf hv hl K hK=>by
    refine zW hv (ZI (F.data.size) (by omega) x) (by kernel_rfl) (fun v y h=> ?_) (fun l y h=>absurd h.1 (by simp)) (fun y h=>absurd h.1 (by simp));obtain⟨e,hb⟩:=h;injection e with e
    subst e;exact hK _ y hb nn1 rfl)
   True.intro))
   (fun _ _ _ h=>(zo rfl h).elim) (fun _ _ _ h=>(zo rfl h).elim) ?_
 intro gg x hph _;have HO:=zb (PhF.out1 hph);clear hph h;simp only[yy,yw,yx,Zg,zF,List.foldl_cons,List.foldl_nil,Act.put];simp only[sx9];go_wp2;go_end0;exact HO.out
theorem surr_56 {base fb:Nat} {F:Fz} {S:List Nat} {sv mv:Value} (hds:F.code.size<=100000) (w:World) (h:Fr base fb F S sv mv w):
  Calls prog 233 #[.pointer (some ⟨fb,0,none⟩),.int .u8 56] w (Out (zl F.code.size F) zx base fb S w):=by
 have hsm:∀k:Nat,100000<((fun k=>match k with|0=>F|_=>zh (zl F.code.size F)) k).gas\/Same F ((fun k=>match k with|0=>F|_=>zh (zl F.code.size F)) k):=fun k=>by
  match k with
  |0=>exact Or.inr (Same.refl F)
  |_+1=>exact ZW (Or.inr (Same.refl F)) _
 go_enter func233,ntmps233;go_wp2
 refine zq (PhF base fb (fun k=>match k with|0=>F|_=>zh (zl F.code.size F)) S w) (fun _ _ _=>True) [(0,(.pointer (some ⟨fb,0,none⟩)))] [(some 88,.v (.pointer (some ⟨fb,0,none⟩))),(some 89,.v (.pointer (some ⟨fb,0,none⟩))),(some 90,.v (.pointer (some ⟨fb,19,none⟩))),(some 91,.v (.pointer (some ⟨fb,0,none⟩))),(some 92,.v (.pointer (some ⟨fb,0,none⟩))),(some 93,.v (.pointer (some ⟨fb,1,none⟩))),(some 94,.v (.string F.code)),(some 95,.v (.int .i64 (F.code.size:Int))),(some 96,.v (wv F.code.size)),(some 97,.v (.tuple #[]))] [9] [6,8] (by kernel_rfl) (by rfl) (by rfl) (by kernel_rfl) (PhF.init h) (PhF.bel)
   (zf _ _ _ rfl rfl
   (fun s x hph hdf hv hl K hK=>by
    refine ZP (val:=zx) (c:=.tuple #[]) hph hv (fun S' sv mv hf=>yg (F.code.size) x hf) (by kernel_rfl) rfl (fun _ _ _=>rfl) (fun hno u pv x' hk=> ?_) (fun x' hp=>hK _ x' hp trivial nn1 rfl);rw[show zl F.code.size F=none from hno];exact⟨hdf,⟨_,_,rfl⟩,hk⟩)
   True.intro)
   (zf _ _ _ rfl rfl
   (fun k s x hk hlo hhi hph hdf hv hl K hK=>by
    exact zv (v:=.string F.code) (fun w=>by kernel_rfl) (hv 93 _ rfl) (hph.cell (hsm k) 1 (by decide) (fun F=>.string F.code) (fun _ _ _=>rfl) (fun G h=>congrArg Value.string h.code)) (hK _ x (Below.refl _ _) nn1 rfl))
   (zf _ _ _ rfl rfl
   (fun k s x hk hlo hhi hph hdf hv hl K hK=>by
    refine zW hv (ZI (F.code.size) (by omega) x) (by kernel_rfl) (fun v y h=> ?_) (fun l y h=>absurd h.1 (by simp)) (fun y h=>absurd h.1 (by simp));obtain⟨e,hb⟩:=h;injection e with e
    subst e;exact hK _ y hb nn1 rfl)
   True.intro))
   (fun _ _ _ h=>(zo rfl h).elim) (fun _ _ _ h=>(zo rfl h).elim) ?_
 intro gg x hph _;have HO:=zb (PhF.out1 hph);clear hph h;simp only[yy,yw,yx,Zg,zF,List.foldl_cons,List.foldl_nil,Act.put];simp only[sx9];go_wp2;go_end0;exact HO.out
theorem surr_61 {base fb:Nat} {F:Fz} {S:List Nat} {sv mv:Value} (hds:F.ret.size<=100000) (w:World) (h:Fr base fb F S sv mv w):
  Calls prog 233 #[.pointer (some ⟨fb,0,none⟩),.int .u8 61] w (Out (zl F.ret.size F) zx base fb S w):=by
 have hsm:∀k:Nat,100000<((fun k=>match k with|0=>F|_=>zh (zl F.ret.size F)) k).gas\/Same F ((fun k=>match k with|0=>F|_=>zh (zl F.ret.size F)) k):=fun k=>by
  match k with
  |0=>exact Or.inr (Same.refl F)
  |_+1=>exact ZW (Or.inr (Same.refl F)) _
 go_enter func233,ntmps233;go_wp2
 refine zq (PhF base fb (fun k=>match k with|0=>F|_=>zh (zl F.ret.size F)) S w) (fun _ _ _=>True) [(0,(.pointer (some ⟨fb,0,none⟩)))] [(some 108,.v (.pointer (some ⟨fb,0,none⟩))),(some 109,.v (.pointer (some ⟨fb,0,none⟩))),(some 110,.v (.pointer (some ⟨fb,19,none⟩))),(some 111,.v (.pointer (some ⟨fb,0,none⟩))),(some 112,.v (.pointer (some ⟨fb,0,none⟩))),(some 113,.v (.pointer (some ⟨fb,21,none⟩))),(some 114,.v (.string F.ret)),(some 115,.v (.int .i64 (F.ret.size:Int))),(some 116,.v (wv F.ret.size)),(some 117,.v (.tuple #[]))] [9] [6,8] (by kernel_rfl) (by rfl) (by rfl) (by kernel_rfl) (PhF.init h) (PhF.bel)
   (zf _ _ _ rfl rfl
   (fun s x hph hdf hv hl K hK=>by
    refine ZP (val:=zx) (c:=.tuple #[]) hph hv (fun S' sv mv hf=>yg (F.ret.size) x hf) (by kernel_rfl) rfl (fun _ _ _=>rfl) (fun hno u pv x' hk=> ?_) (fun x' hp=>hK _ x' hp trivial nn1 rfl);rw[show zl F.ret.size F=none from hno];exact⟨hdf,⟨_,_,rfl⟩,hk⟩)
   True.intro)
   (zf _ _ _ rfl rfl
   (fun k s x hk hlo hhi hph hdf hv hl K hK=>by
    exact zv (v:=.string F.ret) (fun w=>by kernel_rfl) (hv 113 _ rfl) (hph.cell (hsm k) 21 (by decide) (fun F=>.string F.ret) (fun _ _ _=>rfl) (fun G h=>congrArg Value.string h.ret)) (hK _ x (Below.refl _ _) nn1 rfl))
   (zf _ _ _ rfl rfl
   (fun k s x hk hlo hhi hph hdf hv hl K hK=>by
    refine zW hv (ZI (F.ret.size) (by omega) x) (by kernel_rfl) (fun v y h=> ?_) (fun l y h=>absurd h.1 (by simp)) (fun y h=>absurd h.1 (by simp));obtain⟨e,hb⟩:=h;injection e with e
    subst e;exact hK _ y hb nn1 rfl)
   True.intro))
   (fun _ _ _ h=>(zo rfl h).elim) (fun _ _ _ h=>(zo rfl h).elim) ?_
 intro gg x hph _;have HO:=zb (PhF.out1 hph);clear hph h;simp only[yy,yw,yx,Zg,zF,List.foldl_cons,List.foldl_nil,Act.put];simp only[sx9];go_wp2;go_end0;exact HO.out
theorem zpl {base fb:Nat} {F:Fz} {S:List Nat} {sv mv:Value} (hds:F.pc<=10000000) (w:World) (h:Fr base fb F S sv mv w):
  Calls prog 234 #[.pointer (some ⟨fb,0,none⟩),.int .u8 88] w (Out (zl F.pc F) zx base fb S w):=by
 have hsm:∀k:Nat,100000<((fun k=>match k with|0=>F|_=>zh (zl F.pc F)) k).gas\/Same F ((fun k=>match k with|0=>F|_=>zh (zl F.pc F)) k):=fun k=>by
  match k with
  |0=>exact Or.inr (Same.refl F)
  |_+1=>exact ZW (Or.inr (Same.refl F)) _
 go_enter func234,ntmps234;go_wp2
 refine zq (PhF base fb (fun k=>match k with|0=>F|_=>zh (zl F.pc F)) S w) (fun _ _ _=>True) [(0,(.pointer (some ⟨fb,0,none⟩)))] [(some 45,.v (.pointer (some ⟨fb,0,none⟩))),(some 46,.v (.pointer (some ⟨fb,0,none⟩))),(some 47,.v (.pointer (some ⟨fb,19,none⟩))),(some 48,.v (.pointer (some ⟨fb,0,none⟩))),(some 49,.v (.pointer (some ⟨fb,0,none⟩))),(some 50,.v (.pointer (some ⟨fb,22,none⟩))),(some 51,.v (.int .i64 (F.pc:Int))),(some 52,.v (wv F.pc)),(some 53,.v (.tuple #[]))] [8] [6,7] (by kernel_rfl) (by rfl) (by rfl) (by kernel_rfl) (PhF.init h) (PhF.bel)
   (zf _ _ _ rfl rfl
   (fun s x hph hdf hv hl K hK=>by
    refine ZP (val:=zx) (c:=.tuple #[]) hph hv (fun S' sv mv hf=>yg (F.pc) x hf) (by kernel_rfl) rfl (fun _ _ _=>rfl) (fun hno u pv x' hk=> ?_) (fun x' hp=>hK _ x' hp trivial nn1 rfl);rw[show zl F.pc F=none from hno];exact⟨hdf,⟨_,_,rfl⟩,hk⟩)
   True.intro)
   (zf _ _ _ rfl rfl
   (fun k s x hk hlo hhi hph hdf hv hl K hK=>by
    exact zv (v:=.int .i64 (F.pc:Int)) (fun w=>by kernel_rfl) (hv 50 _ rfl) (hph.cell (hsm k) 22 (by decide) (fun F=>.int .i64 (F.pc:Int)) (fun _ _ _=>rfl) (fun G h=>congrArg (fun z:Nat=>Value.int .i64 (z:Int)) h.pc)) (hK _ x (Below.refl _ _) nn1 rfl))
   (zf _ _ _ rfl rfl
   (fun k s x hk hlo hhi hph hdf hv hl K hK=>by
    refine zW hv (ZI (F.pc) (by omega) x) (by kernel_rfl) (fun v y h=> ?_) (fun l y h=>absurd h.1 (by simp)) (fun y h=>absurd h.1 (by simp));obtain⟨e,hb⟩:=h;injection e with e
    subst e;exact hK _ y hb nn1 rfl)
   True.intro))
   (fun _ _ _ h=>(zo rfl h).elim) (fun _ _ _ h=>(zo rfl h).elim) ?_
 intro gg x hph _;have HO:=zb (PhF.out1 hph);clear hph h;simp only[yy,yw,yx,Zg,zF,List.foldl_cons,List.foldl_nil,Act.put];simp only[sx9];go_wp2;go_end0;exact HO.out
theorem znj {base fb:Nat} {F:Fz} {S:List Nat} {sv mv:Value} (hds:F.gas<=10000000) (w:World) (h:Fr base fb F S sv mv w):
  Calls prog 234 #[.pointer (some ⟨fb,0,none⟩),.int .u8 90] w (Out (zl F.gas F) zx base fb S w):=by
 have hsm:∀k:Nat,100000<((fun k=>match k with|0=>F|_=>zh (zl F.gas F)) k).gas\/Same F ((fun k=>match k with|0=>F|_=>zh (zl F.gas F)) k):=fun k=>by
  match k with
  |0=>exact Or.inr (Same.refl F)
  |_+1=>exact ZW (Or.inr (Same.refl F)) _
 go_enter func234,ntmps234;go_wp2
 refine zq (PhF base fb (fun k=>match k with|0=>F|_=>zh (zl F.gas F)) S w) (fun _ _ _=>True) [(0,(.pointer (some ⟨fb,0,none⟩)))] [(some 68,.v (.pointer (some ⟨fb,0,none⟩))),(some 69,.v (.pointer (some ⟨fb,0,none⟩))),(some 70,.v (.pointer (some ⟨fb,19,none⟩))),(some 71,.v (.pointer (some ⟨fb,0,none⟩))),(some 72,.v (.pointer (some ⟨fb,0,none⟩))),(some 73,.v (.pointer (some ⟨fb,16,none⟩))),(some 74,.v (.int .i64 (F.gas:Int))),(some 75,.v (wv F.gas)),(some 76,.v (.tuple #[]))] [8] [6,7] (by kernel_rfl) (by rfl) (by rfl) (by kernel_rfl) (PhF.init h) (PhF.bel)
   (zf _ _ _ rfl rfl
   (fun s x hph hdf hv hl K hK=>by
    refine ZP (val:=zx) (c:=.tuple #[]) hph hv (fun S' sv mv hf=>yg (F.gas) x hf) (by kernel_rfl) rfl (fun _ _ _=>rfl) (fun hno u pv x' hk=> ?_) (fun x' hp=>hK _ x' hp trivial nn1 rfl);rw[show zl F.gas F=none from hno];exact⟨hdf,⟨_,_,rfl⟩,hk⟩)
   True.intro)
   (zf _ _ _ rfl rfl
   (fun k s x hk hlo hhi hph hdf hv hl K hK=>by
    exact zv (v:=.int .i64 (F.gas:Int)) (fun w=>by kernel_rfl) (hv 73 _ rfl) (hph.cell (hsm k) 16 (by decide) (fun F=>.int .i64 (F.gas:Int)) (fun _ _ _=>rfl) (fun G h=>congrArg (fun z:Nat=>Value.int .i64 (z:Int)) h.gas)) (hK _ x (Below.refl _ _) nn1 rfl))
   (zf _ _ _ rfl rfl
   (fun k s x hk hlo hhi hph hdf hv hl K hK=>by
    refine zW hv (ZI (F.gas) (by omega) x) (by kernel_rfl) (fun v y h=> ?_) (fun l y h=>absurd h.1 (by simp)) (fun y h=>absurd h.1 (by simp));obtain⟨e,hb⟩:=h;injection e with e
    subst e;exact hK _ y hb nn1 rfl)
   True.intro))
   (fun _ _ _ h=>(zo rfl h).elim) (fun _ _ _ h=>(zo rfl h).elim) ?_
 intro gg x hph _;have HO:=zb (PhF.out1 hph);clear hph h;simp only[yy,yw,yx,Zg,zF,List.foldl_cons,List.foldl_nil,Act.put];simp only[sx9];go_wp2;go_end0;exact HO.out
theorem surr_53 {base fb:Nat} {F:Fz} {S:List Nat} {sv mv:Value} (hds:F.data.size<=100000) (w:World) (h:Fr base fb F S sv mv w):
  Calls prog 233 #[.pointer (some ⟨fb,0,none⟩),.int .u8 53] w (Out (zK (zi F) (zl (ofL (zS F.data (zA (zi F)%M) 32)) (zh (zi F)))) zx base fb S w):=by
 have hsm:∀k:Nat,100000<((fun k=>match k with|0=>F|1=>zh (zi F)|_=>zh (zl (ofL (zS F.data (zA (zi F)%M) 32)) (zh (zi F)))) k).gas\/Same F ((fun k=>match k with|0=>F|1=>zh (zi F)|_=>zh (zl (ofL (zS F.data (zA (zi F)%M) 32)) (zh (zi F)))) k):=fun k=>by
  match k with
  |0=>exact Or.inr (Same.refl F)
  |1=>exact Zp (Or.inr (Same.refl F))
  |_+2=>exact ZW (Zp (Or.inr (Same.refl F))) _
 go_enter func233,ntmps233;go_wp2
 refine zq (PhF base fb (fun k=>match k with|0=>F|1=>zh (zi F)|_=>zh (zl (ofL (zS F.data (zA (zi F)%M) 32)) (zh (zi F)))) S w) (fun _ _ _=>True) [(0,(.pointer (some ⟨fb,0,none⟩)))] [(some 52,.v (.pointer (some ⟨fb,0,none⟩))),(some 53,.v (.pointer (some ⟨fb,0,none⟩))),(some 54,.v (.pointer (some ⟨fb,19,none⟩))),(some 55,.v (.pointer (some ⟨fb,0,none⟩))),(some 56,.v (.pointer (some ⟨fb,0,none⟩))),(some 57,.v (.pointer (some ⟨fb,15,none⟩))),(some 58,.v (.string F.data)),(some 59,.v (.pointer (some ⟨fb,0,none⟩))),(some 60,.v (.pointer (some ⟨fb,0,none⟩))),(some 61,.v (.pointer (some ⟨fb,19,none⟩))),(some 62,.v (wv (zA (zi F)))),(some 63,.l (PcK (zS F.data (zA (zi F)%M) 32))),(some 64,.v (wv (ofL (zS F.data (zA (zi F)%M) 32)))),(some 65,.v (.tuple #[]))] [10,13] [6,11,12] (by kernel_rfl) (by rfl) (by rfl) (by kernel_rfl) (PhF.init h) (PhF.bel)
   (zf _ _ _ rfl rfl
   (fun s x hph hdf hv hl K hK=>by
    refine ZP (val:=wv) (c:=wv (zA (zi F))) hph hv (fun S' sv mv hf=>Ym x hf) (by kernel_rfl) rfl (fun a F' h=>congrArg wv (zly h)) (fun hno u pv x' hk=> ?_) (fun x' hp=>hK _ x' hp trivial nn1 rfl);rw[show zK (zi F) (zl (ofL (zS F.data (zA (zi F)%M) 32)) (zh (zi F)))=none from zn (Or.inl hno)];exact⟨hdf,⟨_,_,rfl⟩,hk⟩)
   (zf _ _ _ rfl rfl
   (fun s x hph hdf hv hl K hK=>by
    refine ZP (val:=zx) (c:=.tuple #[]) hph hv (fun S' sv mv hf=>yg (ofL (zS F.data (zA (zi F)%M) 32)) x hf) (by kernel_rfl) rfl (fun _ _ _=>rfl) (fun hno u pv x' hk=> ?_) (fun x' hp=>hK _ x' hp trivial nn1 rfl);rw[show zK (zi F) (zl (ofL (zS F.data (zA (zi F)%M) 32)) (zh (zi F)))=none from zn (Or.inr hno)];exact⟨hdf,⟨_,_,rfl⟩,hk⟩)
   True.intro))
   (zf _ _ _ rfl rfl
   (fun k s x hk hlo hhi hph hdf hv hl K hK=>by
    exact zv (v:=.string F.data) (fun w=>by kernel_rfl) (hv 57 _ rfl) (hph.cell (hsm k) 15 (by decide) (fun F=>.string F.data) (fun _ _ _=>rfl) (fun G h=>congrArg Value.string h.data)) (hK _ x (Below.refl _ _) nn1 rfl))
   (zf _ _ _ rfl rfl
   (fun k s x hk hlo hhi hph hdf hv hl K hK=>by
    refine zW hv (zdE F.data (zA (zi F)) 32 hds (by omega) x) (by kernel_rfl) (fun v y h=> ?_) (fun l y h=>by obtain⟨v,e,_⟩:=h;cases e) (fun y h=>by obtain⟨v,e,_⟩:=h;cases e);obtain⟨v',e,hby,hb⟩:=h;injection e with e
    subst e;have k1:=hlo 0 10 rfl (by kernel_rfl);have k2:=hhi 1 13 rfl (by kernel_rfl);exact hK _ y hb nn1 ⟨by omega,fun _=>hby.rds⟩)
   (zf _ _ _ rfl rfl
   (fun k s x hk hlo hhi hph hdf hv hl K hK=>by
    have k1:=hlo 0 10 rfl (by kernel_rfl);have k2:=hhi 1 13 rfl (by kernel_rfl);have hp:=(hl 63 _ rfl).2 (by omega);refine zW hv (args:=#[s.tmps.getD 63 undef]) (zax _ (by rw[zac];omega) _ x hp) (by kernel_rfl) (fun v y h=> ?_) (fun l y h=>absurd h.1 (by simp)) (fun y h=>absurd h.1 (by simp));obtain⟨e,hb⟩:=h;injection e with e
    subst e;exact hK _ y hb nn1 rfl)
   True.intro)))
   ?_ ?_ ?_
 ·intro i d T he p v x x' _ hp hph _ hT;have hm:=List.mem_of_getElem? he;simp only[List.mem_cons,Prod.mk.injEq,reduceCtorEq,and_false,false_or,or_false,List.not_mem_nil,En.l.injEq] at hm;obtain⟨-,rfl⟩:=hm;exact pck_s1 hT
 ·intro i d T he p v x x' hph hb hT;have hm:=List.mem_of_getElem? he;simp only[List.mem_cons,Prod.mk.injEq,reduceCtorEq,and_false,false_or,or_false,List.not_mem_nil,En.l.injEq] at hm;obtain⟨-,rfl⟩:=hm;exact pck_s2 hT hb
 intro gg x hph _;have HO:=zb (PhF.out2 (r0:=zi F) (fun e=>zcQ (zV e)) hph);clear hph h;simp only[yy,yw,yx,Zg,zF,List.foldl_cons,List.foldl_nil,Act.put];simp only[sx9];go_wp2;go_end0;exact HO.out
theorem zo9 {base fb:Nat} {F:Fz} {S:List Nat} {sv mv:Value} (hds:F.mem.length<=100000) (w:World) (h:Fr base fb F S sv mv w):
  Calls prog 234 #[.pointer (some ⟨fb,0,none⟩),.int .u8 89] w (Out (zl F.mem.length F) zx base fb S w):=by
 have hsm:∀k:Nat,100000<((fun k=>match k with|0=>F|_=>zh (zl F.mem.length F)) k).gas\/Same F ((fun k=>match k with|0=>F|_=>zh (zl F.mem.length F)) k):=fun k=>by
  match k with
  |0=>exact Or.inr (Same.refl F)
  |_+1=>exact ZW (Or.inr (Same.refl F)) _
 go_enter func234,ntmps234;go_wp2
 refine zq (PhF base fb (fun k=>match k with|0=>F|_=>zh (zl F.mem.length F)) S w) (fun _ _ _=>True) [(0,(.pointer (some ⟨fb,0,none⟩)))] [(some 56,.v (.pointer (some ⟨fb,0,none⟩))),(some 57,.v (.pointer (some ⟨fb,0,none⟩))),(some 58,.v (.pointer (some ⟨fb,19,none⟩))),(some 59,.v (.pointer (some ⟨fb,0,none⟩))),(some 60,.v (.pointer (some ⟨fb,0,none⟩))),(some 61,.v (.pointer (some ⟨fb,20,none⟩))),(some 62,.l (SlL F.mem.length)),(some 63,.v (.int .i64 (F.mem.length:Int))),(some 64,.v (wv F.mem.length)),(some 65,.v (.tuple #[]))] [9] [6,7,8] (by kernel_rfl) (by rfl) (by rfl) (by kernel_rfl) (PhF.init h) (PhF.bel)
   (zf _ _ _ rfl rfl
   (fun s x hph hdf hv hl K hK=>by
    refine ZP (val:=zx) (c:=.tuple #[]) hph hv (fun S' sv mv hf=>yg (F.mem.length) x hf) (by kernel_rfl) rfl (fun _ _ _=>rfl) (fun hno u pv x' hk=> ?_) (fun x' hp=>hK _ x' hp trivial nn1 rfl);rw[show zl F.mem.length F=none from hno];exact⟨hdf,⟨_,_,rfl⟩,hk⟩)
   True.intro)
   (zf _ _ _ rfl rfl
   (fun k s x hk hlo hhi hph hdf hv hl K hK=>by
    have k2:=hhi 0 9 rfl (by kernel_rfl);obtain rfl:k=0:=by omega
    obtain⟨S',sv,mv,hf,_⟩:=hph;obtain⟨ad,cp,rfl⟩:=Zk hf.me;exact zv (v:=.slice ad F.mem.length cp) (fun w=>by kernel_rfl) (hv 61 _ rfl) (hf.row.cell (i:=20) (by decide)) (hK _ x (Below.refl _ _) nn1 ⟨_,_,rfl⟩))
   (zf _ _ _ rfl rfl
   (fun k s x hk hlo hhi hph hdf hv hl K hK=>by
    obtain⟨ad,cp,e⟩:=hl 62 _ rfl;exact st_lenB (t:=62) e (hK _ x (Below.refl _ _) nn1 rfl))
   (zf _ _ _ rfl rfl
   (fun k s x hk hlo hhi hph hdf hv hl K hK=>by
    refine zW hv (ZI F.mem.length (by omega) x) (by kernel_rfl) (fun v y h=> ?_) (fun l y h=>absurd h.1 (by simp)) (fun y h=>absurd h.1 (by simp));obtain⟨e,hb⟩:=h;injection e with e
    subst e;exact hK _ y hb nn1 rfl)
   True.intro)))
   (fun i d T he p v x x' _ _ _ _ hT=>by
  have hm:=List.mem_of_getElem? he;simp only[List.mem_cons,Prod.mk.injEq,reduceCtorEq,and_false,false_or,or_false,List.not_mem_nil,En.l.injEq] at hm;obtain⟨-,rfl⟩:=hm;exact hT) (fun i d T he p v x x' _ _ hT=>by
  have hm:=List.mem_of_getElem? he;simp only[List.mem_cons,Prod.mk.injEq,reduceCtorEq,and_false,false_or,or_false,List.not_mem_nil,En.l.injEq] at hm;obtain⟨-,rfl⟩:=hm;exact hT) ?_
 intro gg x hph _;have HO:=zb (PhF.out1 hph);clear hph h;simp only[yy,yw,yx,Zg,zF,List.foldl_cons,List.foldl_nil,Act.put];simp only[sx9];go_wp2;go_end0;exact HO.out
theorem surr_49 {base fb:Nat} {F:Fz} {S:List Nat} {sv mv:Value} {tb:Nat} {T:TS} {V:TV} (hptr:F.trail=.pointer (some ⟨tb,0,none⟩)) (hdis:∀k∈S,¬zG tb T V k) (hno:0∉S) (w:World) (htr:Tr base tb T V w) (h:Fr base fb F S sv mv w):
  Calls prog 233 #[.pointer (some ⟨fb,0,none⟩),.int .u8 49] w (Out (zK (zi F) (zl (T.acc (zA (zi F))).bal (zh (zi F)))) zx base fb S w):=by
 have hsm:∀k:Nat,100000<((fun k=>match k with|0=>F|1=>zh (zi F)|_=>zh (zl (T.acc (zA (zi F))).bal (zh (zi F)))) k).gas\/Same F ((fun k=>match k with|0=>F|1=>zh (zi F)|_=>zh (zl (T.acc (zA (zi F))).bal (zh (zi F)))) k):=fun k=>by
  match k with
  |0=>exact Or.inr (Same.refl F)
  |1=>exact Zp (Or.inr (Same.refl F))
  |_+2=>exact ZW (Zp (Or.inr (Same.refl F))) _
 go_enter func233,ntmps233;go_wp2
 refine zq (PhF base fb (fun k=>match k with|0=>F|1=>zh (zi F)|_=>zh (zl (T.acc (zA (zi F))).bal (zh (zi F)))) S w) (fun _ _ _=>True) [(0,(.pointer (some ⟨fb,0,none⟩)))] [(some 17,.v (.pointer (some ⟨fb,0,none⟩))),(some 18,.v (.pointer (some ⟨fb,0,none⟩))),(some 19,.v (.pointer (some ⟨fb,19,none⟩))),(some 20,.v (.pointer (some ⟨fb,0,none⟩))),(some 21,.v (.pointer (some ⟨fb,0,none⟩))),(some 22,.v (.pointer (some ⟨fb,0,none⟩))),(some 23,.v (.pointer (some ⟨tb,0,none⟩))),(some 24,.v (.pointer (some ⟨fb,0,none⟩))),(some 25,.v (.pointer (some ⟨fb,0,none⟩))),(some 26,.v (.pointer (some ⟨fb,19,none⟩))),(some 27,.v (wv (zA (zi F)))),(some 28,.v (wv (T.acc (zA (zi F))).bal)),(some 29,.v (.tuple #[]))] [10,12] [6,11] (by kernel_rfl) (by rfl) (by rfl) (by kernel_rfl) (PhF.init h) (PhF.bel)
   (zf _ _ _ rfl rfl
   (fun s x hph hdf hv hl K hK=>by
    refine ZP (val:=wv) (c:=wv (zA (zi F))) hph hv (fun S' sv mv hf=>Ym x hf) (by kernel_rfl) rfl (fun a F' h=>congrArg wv (zly h)) (fun hno u pv x' hk=> ?_) (fun x' hp=>hK _ x' hp trivial nn1 rfl);rw[show zK (zi F) (zl (T.acc (zA (zi F))).bal (zh (zi F)))=none from zn (Or.inl hno)];exact⟨hdf,⟨_,_,rfl⟩,hk⟩)
   (zf _ _ _ rfl rfl
   (fun s x hph hdf hv hl K hK=>by
    refine ZP (val:=zx) (c:=.tuple #[]) hph hv (fun S' sv mv hf=>yg ((T.acc (zA (zi F))).bal) x hf) (by kernel_rfl) rfl (fun _ _ _=>rfl) (fun hno u pv x' hk=> ?_) (fun x' hp=>hK _ x' hp trivial nn1 rfl);rw[show zK (zi F) (zl (T.acc (zA (zi F))).bal (zh (zi F)))=none from zn (Or.inr hno)];exact⟨hdf,⟨_,_,rfl⟩,hk⟩)
   True.intro))
   (zf _ _ _ rfl rfl
   (fun k s x hk hlo hhi hph hdf hv hl K hK=>by
    exact zv (v:=.pointer (some ⟨tb,0,none⟩)) (fun w=>by kernel_rfl) (hv 22 _ rfl) ((hph.cell (hsm k) 0 (by decide) (fun F=>F.trail) (fun _ _ _=>rfl) (fun G h=>h.trail)).trans (congrArg some hptr)) (hK _ x (Below.refl _ _) nn1 rfl))
   (zf _ _ _ rfl rfl
   (fun k s x hk hlo hhi hph hdf hv hl K hK=>by
    obtain⟨S',sv,mv,_,hkb,_⟩:=hph;refine zW hv (zau (zA (zi F)) x (htr.kb hkb hdis hno)) (by kernel_rfl) (fun v y h=> ?_) (fun l y h=>absurd h.1 (by simp)) (fun y h=>absurd h.1 (by simp));obtain⟨e,hb⟩:=h;injection e with e
    subst e;exact hK _ y hb nn1 rfl)
   True.intro))
   (fun _ _ _ h=>(zo rfl h).elim) (fun _ _ _ h=>(zo rfl h).elim) ?_
 intro gg x hph _;have HO:=zb (PhF.out2 (r0:=zi F) (fun e=>zcQ (zV e)) hph);clear hph h htr;simp only[yy,yw,yx,Zg,zF,List.foldl_cons,List.foldl_nil,Act.put];simp only[sx9];go_wp2;go_end0;exact HO.out
theorem surr_55 {base fb:Nat} {F:Fz} {S:List Nat} {sv mv:Value} (hds:F.data.size<=100000) (w:World) (h:Fr base fb F S sv mv w):
  Calls prog 233 #[.pointer (some ⟨fb,0,none⟩),.int .u8 55] w (Out (ZR F.data F) zx base fb S w):=by
 have HC:=zb (zcM F.data hds w h);have c1:=h.row.cell (i:=15) (by decide);rw[show F.cell sv mv 15=.string F.data from rfl] at c1;clear h;go_enter func233,ntmps233;go_wp2_with fail
 refine HC.out.mono ?_;intro e x hq;have HQ:=zb hq;rcases zaY e x hq with rfl|⟨u,pv,rfl⟩
 ·clear hq HC;go_wp2;go_end0;exact HQ.out
 ·exact⟨rfl,HQ.out⟩
theorem surr_57 {base fb:Nat} {F:Fz} {S:List Nat} {sv mv:Value} (hds:F.code.size<=100000) (w:World) (h:Fr base fb F S sv mv w):
  Calls prog 233 #[.pointer (some ⟨fb,0,none⟩),.int .u8 57] w (Out (ZR F.code F) zx base fb S w):=by
 have HC:=zb (zcM F.code hds w h);have c1:=h.row.cell (i:=1) (by decide);rw[show F.cell sv mv 1=.string F.code from rfl] at c1;clear h;go_enter func233,ntmps233;go_wp2_with fail
 refine HC.out.mono ?_;intro e x hq;have HQ:=zb hq;rcases zaY e x hq with rfl|⟨u,pv,rfl⟩
 ·clear hq HC;go_wp2;go_end0;exact HQ.out
 ·exact⟨rfl,HQ.out⟩
theorem surr_62 {base fb:Nat} {F:Fz} {S:List Nat} {sv mv:Value} (hds:F.ret.size<=100000) (w:World) (h:Fr base fb F S sv mv w):
  Calls prog 233 #[.pointer (some ⟨fb,0,none⟩),.int .u8 62] w (Out (ZT F) zx base fb S w):=by
 have HC:=zb (zfr hds w h);clear h;go_enter func233,ntmps233;go_wp2_with fail
 refine HC.out.mono ?_;intro e x hq;have HQ:=zb hq;rcases zaY e x hq with rfl|⟨u,pv,rfl⟩
 ·clear hq HC;go_wp2;go_end0;exact HQ.out
 ·exact⟨rfl,HQ.out⟩
def zhu (F:Fz):Option (Unit×Fz):=(zi F).map fun y=>((),y.2)
theorem zob {base fb:Nat} {F:Fz} {S:List Nat} {sv mv:Value} (w:World) (h:Fr base fb F S sv mv w):
  Calls prog 234 #[.pointer (some ⟨fb,0,none⟩),.int .u8 80] w (Out (zhu F) zx base fb S w):=by
 have HC:=zb (Ym w h);clear h;go_enter func234,ntmps234;go_wp2_with fail
 refine HC.out.mono ?_;intro e x hq;unfold zhu;cases hp:zi F with
 |none=>
  rw[hp] at hq;obtain⟨⟨u,pv,rfl⟩,hk⟩:=hq;exact⟨rfl,⟨_,_,rfl⟩,hk⟩
 |some r=>
  obtain⟨n,F1⟩:=r;rw[hp] at hq;obtain⟨rfl,hto⟩:=hq;have HTO:=zb hto;clear hto HC;go_wp2;go_end0;unfold zhu;rw[hp];exact⟨rfl,HTO.out⟩
def Old (mv:Value) (m:List UInt8) (x:World):Prop:=∀g len cap,mv=.slice (some ⟨g,0,none⟩) len cap->g<x.heap.size/\∀i (h:i<m.length),x.cell? ⟨g,i,none⟩=some (u8v m[i])
theorem Old.of {w:World} {base:Nat} {mv:Value} {m m':List UInt8} (h:Bys w base mv (m++m')):Old mv m w:=by
 intro g len cap e;subst e
 obtain⟨h1,h2⟩:len=(m++m').length/\True:=by
  rcases h.2 with⟨h1,h2⟩|⟨g',cap',cur,h1,_⟩
  ·cases h1
  ·injection h1 with _ h1 _;exact⟨h1,trivial⟩
 subst h1;refine⟨(h.lt g rfl).2,fun i hi=> ?_⟩;rw[World.ownsRow.cellAt h i (by rw[List.length_append];omega),List.map_append,List.getElem?_append_left (by simpa using hi),List.getElem?_map,List.getElem?_eq_getElem hi];rfl
theorem Old.me {w:World} {base fb:Nat} {F:Fz} {S:List Nat} {sv mv:Value} (h:Fr base fb F S sv mv w):Old mv F.mem w:=Old.of (m':=[]) (by rw[List.append_nil];exact h.me)
theorem Old.kb {w x:World} {S:List Nat} {mv:Value} {m:List UInt8} (h:Old mv m w) (hk:Kb S w x) (hS:∀k,mv.ownBlock=some k->k∉S):Old mv m x:=by
 intro g len cap e;obtain⟨h1,h2⟩:=h g len cap e;exact⟨Nat.lt_of_lt_of_le h1 hk.size,fun i hi=>(World.cell?_of_block (w:=w) (hk.block g h1 (hS g (by rw[e];rfl)))).trans (h2 i hi)⟩
theorem Old.below {w x:World} {mv:Value} {m:List UInt8} (h:Old mv m w) (hb:Below w.heap.size w x):Old mv m x:=h.kb (Kb.of_below (S:=[]) hb) (by simp)
theorem zfh (w w':World) (base k:Nat) (v v':Value) (l:List UInt8) (hv:Bys w base v l) (hk:0<k) (hl:l.length+k<=100000) (ty:TypeId) (hr:(Builtin.append_ #[26,3] ty #[v,.int .i64 (k:Int)]).run prog w=.ok v' w'):
  v'.ownBlock=v.ownBlock\/Kb [] w w':=by
 obtain⟨i,hi,hz,hs,hby⟩:=info_parts zlc;have hzc:(Value.int .u8 0).cells=#[.int .u8 0]:=rfl;rcases hv.2 with⟨rfl,h0⟩|⟨g,cap,cur,rfl,hg1,hg,hnc,hcm,hcs,htk⟩
 ·right;obtain rfl:l=[]:=List.length_eq_zero_iff.1 h0;have hrun:=Lib.run_append_nil_zeros (P:=prog) w 26 3 ty 5 i (.int .u8 0) .i64 .i64 Yz zbI hi hz k hk (by omega) (by simp at hl;omega) (by rw[hby];simp at hl;omega);rw[hr] at hrun;injection hrun with e1 e2
  subst e2;exact⟨rfl,rfl,rfl,by simp,fun j hj _=>Below.heap_alloc w.drew _ j hj⟩
 ·have hcur:cur.size=cap:=by rw[hcs,Nat.mul_one]
  rw[Nat.mul_one] at htk;by_cases hr2:l.length+k<=cap
  ·left;have hrun:=Yp (P:=prog) (k:=k) w 26 3 ty 5 i (.int .u8 0) .i64 .i64 Yz zbI hi hz hs g l.length cap cur hg hcur (by rw[hzc,Z3];exact zbU _) (by rw[hzc];exact Z9 k) hk hr2 (by rw[hby];omega) (by omega);rw[hr] at hrun;injection hrun with e1 e2
   subst e1;rfl
  ·right
   have hrun:=Lib.run_append_grow_zeros (P:=prog) w 26 3 ty 5 i (.int .u8 0) .i64 .i64 Yz zbI hi hz (some ⟨g,0,none⟩) l.length cap (l.map u8v)
    (run_firstCells_some (P:=prog) w.drew i.size l.length ⟨g,0,none⟩ l.length cap (l.map u8v) (by rw[hs];simp) (fun j u hj=>hv.cells rfl j u hj)) k hk (by omega) (by omega) (by omega) (by rw[hby];omega) (growslice_fits (by omega) (by rw[hby];omega))
   rw[hr] at hrun;injection hrun with e1 e2
   subst e2;exact⟨rfl,rfl,rfl,by simp,fun j hj _=>Below.heap_alloc w.drew _ j hj⟩
theorem grow_K {base fb:Nat} {F:Fz} {S:List Nat} {sv mv:Value} (n:Nat) (hn:n<=2048) (w:World) (h:Fr base fb F S sv mv w):
  Calls prog 293 #[.pointer (some ⟨fb,0,none⟩),.int .i64 (n:Int)] w fun e w'=>Out (yt n F) zx base fb S w e w'/\(yt n F≠none->Old mv F.mem w'):=by
 have hml:=h.mel;have HOLD:=zb (Old.me h);obtain⟨ad,cap,rfl⟩:=Zk h.me;have hc:w.cell? ⟨fb,20,none⟩=some (.slice ad F.mem.length cap):=h.row.cell (i:=20) (by decide);obtain⟨q,hq⟩:∃q,q=zD F.mem.length:=⟨_,rfl⟩;have hqb:q<=2048:=by rw[hq];unfold zD;omega
 have HS:Hid (∀w,Calls prog 287 #[.int .i64 (F.mem.length:Int)] w fun e w'=>e=.returned (.int .i64 (q:Int))/\w'=w):=fun w=>by rw[hq];exact YT F.mem.length (by omega) w
 unfold yt;rw[<-hq];by_cases hle:n<=q
 ·rw[if_pos hle];have d:decide ((n:Int) - (q:Int)<=0)=true:=decide_eq_true (by omega);have HT:=zb h.to;clear h hq;go_enter func293,ntmps293;go_wp2_with fail
  refine(HS.out _).mono ?_;rintro e w1 ⟨rfl,rfl⟩;go_wp2
  first|go_end0|refine bodyPost_ret (results_none rfl _ _ _) rfl ?_
  exact⟨⟨rfl,HT.out⟩,fun _=>HOLD.out⟩
 ·rw[if_neg hle];obtain⟨m,hm⟩:∃m:Nat,(n:Int) - (q:Int)=(m:Int):=⟨n - q,by omega⟩;have hm2:n - q=m:=by omega
  have hm3:0<m:=by omega
  have hm4:m<=2048:=by omega
  have d:decide ((m:Int)<=0)=false:=decide_eq_false (by omega);rw[hm2]
  have HP:Hid (Calls prog 204 #[.pointer (some ⟨fb,0,none⟩),.int .i64 (3*(m:Int))] w fun e w'=>if F.gas<3*m then Pan e/\Kb S w w' else e=.returned (.tuple #[])/\Fr base fb {F with gas:=F.gas - 3*m} S sv (.slice ad F.mem.length cap) w'/\Kb S w w'):=by
   have h9:=pay_K (3*m) (by omega) w h;rw[show((3*m:Nat):Int)=3*(m:Int) by omega] at h9;exact h9
  have HQ:Hid (F.mem.length+32*m<=65536):=by show _<=_;rw[hq] at hm2;unfold zD at hm2;omega
  have hpf:yC (3*m) F=if F.gas<3*m then none else some ((),{F with gas:=F.gas - 3*m}):=rfl
  by_cases hg:F.gas<3*m
  ·rw[hpf,if_pos hg];simp only[if_pos hg] at HP;clear h hq hpf;go_enter func293,ntmps293;go_wp2_with fail
   refine(HS.out _).mono ?_;rintro e w1 ⟨rfl,rfl⟩;go_wp2_with fail
   refine HP.out.mono ?_;rintro e w2 ⟨⟨u,pv,rfl⟩,hk⟩;exact⟨rfl,⟨⟨_,_,rfl⟩,hk⟩,fun h=>absurd rfl h⟩
  ·rw[hpf,if_neg hg];simp only[if_neg hg] at HP;clear h hq hpf;go_enter func293,ntmps293;go_wp2_with fail
   refine(HS.out _).mono ?_;rintro e w1 ⟨rfl,rfl⟩;go_wp2_with fail
   refine HP.out.mono ?_;rintro e w2 ⟨rfl,hf1,hk1⟩;have hlen:=HQ.out;obtain⟨v',w3,hrun,hby,hgr,hfr⟩:=zdd w2 base (32*m) (.slice ad F.mem.length cap) F.mem hf1.me (by omega) (by omega) hf1.hb 26;have hwh:=zfh w2 w3 base (32*m) (.slice ad F.mem.length cap) v' F.mem hf1.me (by omega) (by omega) 26 hrun;rw[show((32*m:Nat):Int)=32*(m:Int) by omega] at hrun;obtain⟨g',cap',rfl,hg1,hg2,hg3⟩:=yq hby (by simp;omega);have hc2:w2.cell? ⟨fb,20,none⟩=some (.slice ad F.mem.length cap):=hf1.row.cell (i:=20) (by decide);have hkb:Kb (Value.slice ad F.mem.length cap).ownBlock.toList w2 w3:=(Kb.refl _ _).grown hgr (fun k hk=>Or.inl (by rw[hk];simp));have hni:fb∉(Value.slice ad F.mem.length cap).ownBlock.toList:=fun hm=>hf1.fm fb (by simpa using hm) rfl
   have hro3:=hkb.row hf1.row hni;have hc3:w3.cell? ⟨fb,20,none⟩=some (.slice ad F.mem.length cap):=hro3.cell (i:=20) (by decide);have hz3:=hro3.frozen 20
   have HOL3:Hid (Old (.slice ad F.mem.length cap) F.mem w3):=by
    rcases hwh with e|e
    ·intro g len cp e2;injection e2 with e3 e4 e5
     subst e3;obtain rfl:g'=g:=by simpa[Value.ownBlock] using e
     exact Old.of (m':=List.replicate (32*m) 0) hby g' _ _ rfl
    ·exact(Old.me hf1).kb e (by simp)
   have HR3:=zb hro3;have HBY:=zb hby;have HFR:=zb hfr;have HKB:=zb hkb;have HF1:=zb hf1;have HK1:=zb hk1;have HRUN:=zb hrun;have HNI:=zb hni;clear hro3 hby hfr hkb hf1 hk1 hrun hgr hni HP HS hm2 hg1 hg2 hg3 hwh;go_wp2_with (at_builtin;refine Lib.wpList_append_run _ rfl _ _ _ _ rfl _ _ rfl rfl _ _ HRUN.out ?_)
   go_end0;have e:(F.mem++List.replicate (32*m) (0:UInt8)).length=F.mem.length+32*m:=by simp
   have hby:=HBY.out;have hfr:=HFR.out;rw[e] at hby hfr;refine⟨⟨rfl,To.pre HK1.out (fun k hk=>Or.inl hk) (HF1.out.memory (by rw[e];exact hlen) (by rw[e];have:=HF1.out.m32;show(F.mem.length+32*m)%32=0;have h2:F.mem.length%32=0:=this;omega) (yV hby (zI HR3.out hby tB) _ _) hfr (Up.mk' _ HKB.out HNI.out HF1.out.row.lt))⟩,fun _=>HOL3.out.kb ((Kb.refl [fb] w3).setCell (p:=⟨fb,20,none⟩) (Or.inl (by simp)) _) (fun k hk hm=>HNI.out (by rw[<-List.mem_singleton.1 hm,hk];simp))⟩
theorem reach_K {base fb:Nat} {F:Fz} {S:List Nat} {sv mv:Value} (p n:Nat) (w:World) (h:Fr base fb F S sv mv w):
  Calls prog 288 #[.pointer (some ⟨fb,0,none⟩),wv p,wv n] w fun e w'=>Out (zk p n F) zdS base fb S w e w'/\(zk p n F≠none->Old mv F.mem w'):=by
 have HOLD:=zb (Old.me h);have hez:=Z5 n;have hs:=W2.start w p n;have hf2:=h.below hs.be;obtain⟨z0,z1,z2,z3⟩:_/\_/\_/\_:=⟨hf2.zr 0 (by omega),hf2.zr 1 (by omega),hf2.zr 2 (by omega),hf2.zr 3 (by omega)⟩;unfold zk;by_cases hn:n%M=0
 ·rw[if_pos hn];rw[YY hn] at hez;have HT:Hid (To base fb F S w ((w.alloc (wc p)).alloc (wc n))):=⟨S,sv,mv,hf2,Kb.of_below hs.be,fun k hk=>Or.inl hk⟩;have HBW:=zb hs.be;clear hf2 hs h hn;go_enter func288,ntmps288;go_wp2;go_ret2;exact⟨⟨rfl,HT.out⟩,fun _=>HOLD.out.below HBW.out⟩
 ·rw[if_neg hn];rw[Ys hn] at hez;by_cases hsp:Yq p n 65536
  ·rw[if_pos hsp];have hsi:=zhN p n 65536 (by omega) hsp;have hsle:p%M+n%M<=65536:=hsp.2.2;obtain⟨q,HQ⟩:∃q:Nat,Hid (q=p%M):=⟨_,rfl⟩;obtain⟨m,HM⟩:∃m:Nat,Hid (m=n%M):=⟨_,rfl⟩;have HSP:Hid (∀w,Calls prog 286 #[wv p,wv n,.int .i64 65536] w fun e w'=>e=.returned (.tuple #[.int .i64 (q:Int),.int .i64 (m:Int),.bool true])/\Below w.heap.size w w'):=fun w=>(hsi w).mono fun e w' ⟨q',m',h1,h2,h3,h4⟩=>⟨by rw[h3,h1.out,h2.out,HQ.out,HM.out],h4⟩
   rw[<-HQ.out,<-HM.out] at hsle⊢;have HF:=zb h;have HS:=zb hs
   have HST:Hid (∀w,Calls prog 287 #[.int .i64 ((q:Int)+(m:Int))] w fun e w'=>e=.returned (.int .i64 ((zD (q+m):Nat):Int))/\w'=w):=fun w=>by
    have h9:=YT (q+m) (by omega) w;rw[show((q+m:Nat):Int)=(q:Int)+(m:Int) by omega] at h9;exact h9
   have HG:Hid (∀w1,Below w.heap.size w w1->Calls prog 293 #[.pointer (some ⟨fb,0,none⟩),.int .i64 ((zD (q+m):Nat):Int)] w1 fun e w'=>Out (yt (zD (q+m)) F) zx base fb S w1 e w'/\(yt (zD (q+m)) F≠none->Old mv F.mem w')):=fun w1 hb=>grow_K (zD (q+m)) (by unfold zD;omega) w1 (HF.out.below hb)
   generalize zD (q+m)=t at*;clear hf2 hs h hn hsp hsi HQ HM;cases hg:yt t F with
   |none=>
    rw[hg] at HG;show Calls _ _ _ _ (fun e w'=>Out none zdS base fb S w e w'/\((none:Option ((Nat×Nat)×Fz))≠none->Old mv F.mem w'));go_enter func288,ntmps288;go_wp2_with fail
    refine(HSP.out _).mono ?_;rintro e w1 ⟨rfl,hb1⟩;have HBE:=zb (HS.out.call hb1).be;clear hb1;go_wp2_with fail
    refine(HST.out _).mono ?_;rintro e w2 ⟨rfl,rfl⟩;go_wp2_with fail
    refine(HG.out _ HBE.out).mono ?_;rintro e w3 ⟨⟨⟨u,pv,rfl⟩,hk⟩,_⟩;exact⟨rfl,⟨⟨_,_,rfl⟩,(Kb.of_below HBE.out).trans hk (fun i hi=>Or.inl hi)⟩,fun h=>absurd rfl h⟩
   |some r=>
    obtain⟨u,F1⟩:=r;rw[hg] at HG;show Calls _ _ _ _ (fun e w'=>Out (some ((q,m),F1)) zdS base fb S w e w'/\(some ((q,m),F1)≠none->Old mv F.mem w'));go_enter func288,ntmps288;go_wp2_with fail
    refine(HSP.out _).mono ?_;rintro e w1 ⟨rfl,hb1⟩;have HBE:=zb (HS.out.call hb1).be;clear hb1;go_wp2_with fail
    refine(HST.out _).mono ?_;rintro e w2 ⟨rfl,rfl⟩;go_wp2_with fail
    refine(HG.out _ HBE.out).mono ?_;rintro e w3 ⟨⟨rfl,hto⟩,hol⟩;have HOL:=zb (hol (by simp));have HTO:=zb (To.pre (Kb.of_below HBE.out) (fun k hk=>Or.inl hk) hto);clear hto hol;go_wp2;go_ret2;exact⟨⟨rfl,HTO.out⟩,fun _=>HOL.out⟩
  ·rw[if_neg hsp];have HSP:=zb (zew p n 65536 (by omega) hsp);have HS:=zb hs;clear hf2 hs h hn hsp;go_enter func288,ntmps288;go_wp2_with fail
   refine(HSP.out _).mono ?_;rintro e w1 ⟨rfl,hb1⟩;have HBE:=zb (HS.out.call hb1).be;clear hb1;go_wp2;exact⟨rfl,⟨⟨_,_,rfl⟩,Kb.of_below HBE.out⟩,fun h=>absurd rfl h⟩
theorem zo6 {base fb:Nat} {F:Fz} {S:List Nat} {sv mv:Value} (p n:Nat) (w:World) (h:Fr base fb F S sv mv w):
  Calls prog 275 #[.pointer (some ⟨fb,0,none⟩),wv p,wv n] w fun e w'=>OutP (zk p n F) base fb S w e w'/\(zk p n F≠none->Old mv F.mem w'):=by
 have hs:=W2.start w p n;have HR:=zb (reach_K p n _ (h.below hs.be));have HBE:=zb hs.be;have h32:=h.m32;clear hs h;cases hr:zk p n F with
 |none=>
  rw[hr] at HR;clear hr;go_enter func275,ntmps275;go_wp2_with fail
  refine HR.out.mono ?_;rintro e w1 ⟨⟨⟨u,pv,rfl⟩,hk⟩,_⟩;exact⟨rfl,⟨⟨_,_,rfl⟩,(Kb.of_below HBE.out).trans hk (fun i hi=>Or.inl hi)⟩,fun h=>absurd rfl h⟩
 |some r=>
  obtain⟨⟨a,b⟩,F1⟩:=r;have HL:=zb (yh hr h32);rw[hr] at HR;clear hr;go_enter func275,ntmps275;go_wp2_with fail
  refine HR.out.mono ?_;rintro e w1 ⟨⟨rfl,S1,sv1,mv1,hf1,hk1,hs1⟩,hol⟩;have HOL:=zb (hol (by simp));clear hol;obtain⟨ad1,cap1,rfl⟩:=Zk hf1.me
  have hcap:F1.mem.length<=cap1:=by
   rcases hf1.me.2 with⟨h1,h2⟩|⟨g,cap,cur,h1,_,_,h4,_⟩
   ·omega
   ·injection h1 with _ _ h5
    omega
  have hmel:=hf1.mel;have hc1:w1.cell? ⟨fb,20,none⟩=some (.slice ad1 F1.mem.length cap1):=hf1.row.cell (i:=20) (by decide);have hle:=HL.out;have HF1:=zb hf1;have HK:=zb ((Kb.of_below (S:=S) HBE.out).trans hk1 (fun i hi=>Or.inl hi));have HS1:Hid (∀k∈S1,k∈S\/w.heap.size<=k):=fun k hk=>(hs1 k hk).imp id (fun h=>Nat.le_trans HBE.out.size h)
  have HNIL:Hid (ad1=none->cap1=0):=fun e=>by
   rcases hf1.me.2 with⟨h1,h2⟩|⟨g,cap,cur,h1,_⟩
   ·injection h1
   ·rw[e] at h1;injection h1 with h1;cases h1
  clear hf1 hk1 hs1 HR;unfold zdS;go_wp2
  ·go_ret;refine⟨⟨_,S1,sv1,_,rfl,HF1.out,HK.out,HS1.out,_,_,rfl,by omega,fun hb=>absurd hb (by omega)⟩,by first|exact HOL.out|exact fun _=>HOL.out⟩
  ·go_ret;refine⟨⟨_,S1,sv1,_,rfl,HF1.out,HK.out,HS1.out,_,_,rfl,by show b<=cap1 - a;omega,fun hb=> ?_⟩,by first|exact HOL.out|exact fun _=>HOL.out⟩;obtain⟨g,cap',e1,_⟩:=yq HF1.out.me (by show F1.mem.length≠0;simp at hb;omega);injection e1 with e1 e2 e3
   subst e1;exact⟨g,F1.mem.length,cap1,rfl,by simp[Addr.add];exact fun h=>h.symm,hle⟩
end cin
end Go.Proofs.YtohoajjdoihekaaGreatDoor
