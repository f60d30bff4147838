import Derived.Test.YtohoajjdoihekaaGreatDoorHj
set_option linter.unusedVariables false
set_option linter.unusedSimpArgs false
namespace Go.Proofs.YtohoajjdoihekaaGreatDoor
namespace cin
open Go.RowKit Go.Proofs.Tryz Tryz
set_option maxRecDepth 100000
set_option maxHeartbeats 8000000
section
abbrev zw:Obj:=.cells #[.int .u64 0,.int .u64 0,.int .u64 0,.int .u64 0] 24
theorem zbu {d:Nat} {ty:TypeId} {s:Act} {x:World} {pos:String} {af:Array Edge} {g:Option (Nat×Bool)} {K:Act->World->Prop} {Q:Exit->Act->World->Prop}
  (hK:K (s.put (some d) (.pointer (some ⟨x.heap.size,0,none⟩))) (x.alloc zw)):
  Oper.wp prog ⟨some d,.alloc 24,ty,pos,af,g⟩ s x K Q:=by
 go_simp;exact hK
abbrev Kn:=Nat×Value->List Nat->Value->World->Prop
def yv (T:Kn):Prop:=∀c c' S S' v x x',T c S v x->((c'=c/\S'=S/\Below x.heap.size x x')\/(c.1<c'.1/\Kb S x x'/\∀k∈S',k∈S\/x.heap.size<=k))->T c' S' v x'
theorem ye {T:Kn} (h:∀c c' S S' v x x',T c S v x->(c'=c\/c.1<c'.1)->Kb S x x'->(∀k∈S',k∈S\/x.heap.size<=k)->T c' S' v x'):yv T:=fun c c' S S' v x x' ht hk=>by
 rcases hk with⟨h1,h2,h3⟩|⟨h1,h2,h3⟩
 ·exact h c c' S S' v x x' ht (Or.inl h1) (Kb.of_below h3) (fun k hk=>Or.inl (h2▸hk))
 ·exact h c c' S S' v x x' ht (Or.inr h1) h2 h3
def zft (T:Kn):Prop:=∀c S v x x',T c S v x->x.heap.size<=x'.heap.size->T c S v x'
def Cst (c:Value):Kn:=fun _ _ v _=>v=c
theorem zcV (c:Value):yv (Cst c):=ye fun _ _ _ _ _ _ _ h _ _ _=>h
theorem zhh (c:Value):zft (Cst c):=fun _ _ _ _ _ h _=>h
def Plc:Kn:=fun _ S v x=>∃b,v=.pointer (some ⟨b,0,none⟩)/\b∉S/\b<x.heap.size
theorem zhP:yv Plc:=ye fun _ _ S S' v x x' ⟨b,h1,h2,h3⟩ _ hk hs=>⟨b,h1,fun hm=>(hs b hm).elim h2 (fun h=>by omega),Nat.lt_of_lt_of_le h3 hk.size⟩
theorem zhm:zft Plc:=fun _ S v x x' ⟨b,h1,h2,h3⟩ hs=>⟨b,h1,h2,Nat.lt_of_lt_of_le h3 hs⟩
structure Bx where
 ia:Nat
 is:Nat
 sl:Nat
 n:Nat
abbrev Tb:=List (Option Nat×Kn)
abbrev zs (tab:Tb):List Nat:=tab.filterMap Prod.fst
def Zk (s:Act):Option Nat->Value
 |some d=>s.tmps.getD d undef
 |none=>undef
def zai:Tb->List Value->List (Nat×Value)
 |(some d,_)::l,v::vs=>(d,v)::zai l vs
 |(none,_)::l,_::vs=>zai l vs
 |_,_=>[]
theorem YP (s:Act):∀tab:Tb,zai tab (tab.map fun p=>Zk s p.1)=(zs tab).map fun d=>(d,s.tmps.getD d undef)
 |[]=>rfl
 |(some d,T)::l=>by
  show(d,_)::zai l _=_;rw[YP s l];rfl
 |(none,T)::l=>by
  show zai l _=_;rw[YP s l];rfl
theorem zaQ:∀(tab:Tb),(zs tab).Nodup->∀(i j d:Nat) (T T':Kn),tab[i]? =some (some d,T)->tab[j]? =some (some d,T')->i=j
 |[],_,i,_,_,_,_,h,_=>by simp at h
 |p::l,hn,0,0,_,_,_,_,_=>rfl
 |p::l,hn,0,j+1,d,T,T',h,h'=>by
  obtain rfl:p=(some d,T):=by simpa using h
  exfalso;have hm:d∈zs l:=List.mem_filterMap.2 ⟨(some d,T'),List.mem_of_getElem? (by simpa using h'),rfl⟩;exact(List.nodup_cons.1 (show(d::zs l).Nodup from hn)).1 hm
 |p::l,hn,i+1,0,d,T,T',h,h'=>by
  obtain rfl:p=(some d,T'):=by simpa using h'
  exfalso;have hm:d∈zs l:=List.mem_filterMap.2 ⟨(some d,T),List.mem_of_getElem? (by simpa using h),rfl⟩;exact(List.nodup_cons.1 (show(d::zs l).Nodup from hn)).1 hm
 |p::l,hn,i+1,j+1,d,T,T',h,h'=>by
  have hn':(zs l).Nodup:=by
   obtain⟨o,T0⟩:=p;cases o with
   |none=>exact hn
   |some d0=>exact(List.nodup_cons.1 (show(d0::zs l).Nodup from hn)).2
  rw[zaQ l hn' i j d T T' (by simpa using h) (by simpa using h')]
theorem Zy {tab:Tb} {i d:Nat} {T:Kn} (h:tab[i]? =some (some d,T)):d∈zs tab:=List.mem_filterMap.2 ⟨_,List.mem_of_getElem? h,rfl⟩
theorem yp (s:Act) (d:Option Nat) (v:Value) (k:Nat) (hd:∀e,d=some e->e<s.tmps.size/\e≠k):(s.put d v).tmps.getD k undef=s.tmps.getD k undef:=by
 cases d with
 |none=>rfl
 |some e=>rw[ZA _ _ _ _ (hd e rfl).1,if_neg (fun h=>(hd e rfl).2 h.symm)]
theorem Fr.footlt {base fb:Nat} {F:Fz} {S:List Nat} {sv mv:Value} {w:World} (h:Fr base fb F S sv mv w):∀k∈S,k<w.heap.size:=by
 intro k hk;rw[h.foot] at hk;rcases List.mem_cons.1 hk with h1|h1
 ·rw[h1];exact h.row.lt
 ·rcases List.mem_append.1 h1 with h2|h2
  ·exact(h.st.lt k (by simpa using h2)).2
  ·exact(h.me.lt k (by simpa using h2)).2
theorem Fr.kb {base fb:Nat} {F:Fz} {S T:List Nat} {sv mv:Value} {w w':World} (h:Fr base fb F S sv mv w) (hk:Kb T w w') (hT:∀k∈S,k∉T) (h0:0∉T) (hbn:∀g N f,w.rowIs g 4 N f->g∉T):Fr base fb F S sv mv w':=
 ⟨hk.row h.row (hT fb (by rw[h.foot];simp)),hk.own h.st (fun k hk2=>hT k (by rw[h.foot];simp[hk2])),hk.own h.me (fun k hk2=>hT k (by rw[h.foot];simp[hk2])),h.foot,h.stl,h.mel,h.gal,Nat.le_trans h.hb hk.size,zc0 h.zr hk h0 h.hs,h.hb1,h.hfb,h.m32,h.jr.kb hk hbn⟩
def put4 (x:World) (b n:Nat):World:=(((x.setCell ⟨b,0,none⟩ (.int .u64 (za n 0))).setCell ⟨b,1,none⟩ (.int .u64 (za n 1))).setCell ⟨b,2,none⟩ (.int .u64 (za n 2))).setCell ⟨b,3,none⟩ (.int .u64 (za n 3))
theorem put4_kb (x:World) (b n:Nat):Kb [b] x (put4 x b n):=((((Kb.refl [b] x).setCell (Or.inl (by simp)) _).setCell (Or.inl (by simp)) _).setCell (Or.inl (by simp)) _).setCell (Or.inl (by simp)) _
theorem zx (l:Array Bool) (i j:Nat) (hi:i<l.size):(l.setIfInBounds i true).getD j false=if i=j then true else l.getD j false:=by
 by_cases e:i=j
 ·subst e;simp[Array.getD_eq_getD_getElem?,hi]
 ·simp[Array.getD_eq_getD_getElem?,Array.getElem?_setIfInBounds,e]
variable {ops:Array Oper} {Q:Exit->Act->World->Prop}
structure GG (ops:Array Oper) (base fb:Nat) (Fk:Nat->Fz) (S0:List Nat) (w0:World) (tab:Tb) (calls:List Nat) (bxs:List Bx) (a:Act) (l:Array Bool) (s:Act) (x:World) (k:Nat) (S:List Nat) (sv mv:Value):Prop where
 cnt:∀(p c:Nat),calls[p]? =some c->(l.getD c false=true↔p<k)
 kle:k<=calls.length
 fr:Fr base fb (Fk k) S sv mv x
 kb:Kb S0 w0 x
 sub:∀j∈S,j∈S0\/w0.heap.size<=j
 sz:s.tmps.size=a.tmps.size
 df:s.defers=a.defers
 out:∀j,j∉zs tab->s.tmps.getD j undef=a.tmps.getD j undef
 kn:∀(i:Nat) (d:Option Nat) (T:Kn),tab[i]? =some (d,T)->l.getD i false=true->T (k,mv) S (Zk s d) x
 bx:∀b∈bxs,l.getD b.ia false=true->∀bl,s.tmps.getD b.sl undef=.pointer (some ⟨bl,0,none⟩)->w0.heap.size<=bl/\x.rowIs bl 24 4 (zj (if l.getD b.is false=true then za b.n else fun _=>0))
 bc:∀b∈bxs,l.getD b.is false=true->l.getD b.ia false=true
 cl:∀i j,l.getD i false=true->ys ops i j=true->l.getD j false=true
 bd:∀b∈bxs,∀b'∈bxs,b.ia≠b'.ia->l.getD b.ia false=true->l.getD b'.ia false=true->s.tmps.getD b.sl undef≠s.tmps.getD b'.sl undef
theorem zb1 {i j:Nat} {o:Oper} (ho:ops[i]? =some o) (h:ys ops i j=true):∃e∈o.after,Region.binds .any e=true/\e.on=j:=by
 unfold ys at h;rw[ho] at h;simp only[Option.map_some,Option.getD_some,Array.any_eq_true',Bool.and_eq_true,beq_iff_eq] at h;obtain⟨e,he,h1,h2⟩:=h;exact⟨e,he,h1,h2⟩
theorem GG.upd {base fb:Nat} {Fk:Nat->Fz} {S0:List Nat} {w0:World} {tab:Tb} {calls:List Nat} {bxs:List Bx} {a:Act} {l:Array Bool} {s:Act} {x:World} {k:Nat} {S:List Nat} {sv mv:Value}
  (G:GG ops base fb Fk S0 w0 tab calls bxs a l s x k S sv mv) (hnd:(zs tab).Nodup) (hlt:∀d,d∈zs tab->d<a.tmps.size)
  (hstab:∀(i:Nat) (d:Option Nat) (T:Kn),tab[i]? =some (d,T)->yv T) (hba:∀b∈bxs,tab[b.ia]? =some (some b.sl,Plc))
  {i:Nat} {d:Option Nat} {T:Kn} {v:Value} {x':World} {k':Nat} {S':List Nat} {sv' mv':Value} (hi:i<l.size) (hdv:tab[i]? =some (d,T)) (hnb:∀b∈bxs,i≠b.ia/\i≠b.is)
  (hcl:∀i' j,(l.setIfInBounds i true).getD i' false=true->ys ops i' j=true->(l.setIfInBounds i true).getD j false=true) (hcnt:∀(p c:Nat),calls[p]? =some c->((l.setIfInBounds i true).getD c false=true↔p<k')) (hkle:k'<=calls.length) (hF:Fr base fb (Fk k') S' sv' mv' x') (hkb:Kb S x x') (hsub:∀j∈S',j∈S\/x.heap.size<=j) (hv:d=none->v=undef) (hkk:((k',mv')=(k,mv)/\S'=S/\Below x.heap.size x x')\/(k<k'/\Kb S x x'/\∀k∈S',k∈S\/x.heap.size<=k)) (hT:T (k',mv') S' v x'):
  GG ops base fb Fk S0 w0 tab calls bxs a (l.setIfInBounds i true) (s.put d v) x' k' S' sv' mv':=by
 have hds:∀e,d=some e->e<s.tmps.size:=fun e he=>by rw[G.sz];exact hlt e (Zy (by rw[hdv,he]))
 have hother:∀(j:Nat) (dj:Option Nat) (Tj:Kn),tab[j]? =some (dj,Tj)->j≠i->Zk (s.put d v) dj=Zk s dj:=fun j dj Tj hj hne=>by
  cases dj with
  |none=>rfl
  |some e=>
   refine yp s d v e fun e' he'=>⟨hds e' he',fun h=> ?_⟩
   subst h;exact hne (zaQ tab hnd j i e' Tj T hj (by rw[hdv,he']))
 have hslot:∀b∈bxs,(s.put d v).tmps.getD b.sl undef=s.tmps.getD b.sl undef:=fun b hb=>hother b.ia (some b.sl) Plc (hba b hb) (hnb b hb).1.symm
 refine⟨hcnt,hkle,hF,G.kb.trans hkb G.sub,fun j hj=> ?_, ?_, ?_,fun j hj=> ?_,fun j dj Tj hj hl=> ?_,fun b hb hl bl hbl=> ?_,fun b hb hl=> ?_,hcl,fun b hb b' hb' hne hl hl'=> ?_⟩
 ·rcases hsub j hj with h|h
  ·exact G.sub j h
  ·exact Or.inr (Nat.le_trans G.kb.size h)
 ·rw[<-G.sz];cases d<;>simp[Act.put]
 ·rw[<-G.df];cases d<;>rfl
 ·rw[<-G.out j hj];refine yp s d v j fun e he=>⟨hds e he,fun h=>hj ?_⟩
  subst h;exact Zy (by rw[hdv,he])
 ·by_cases e:j=i
  ·subst e;rw[hdv] at hj;obtain⟨rfl,rfl⟩:=Prod.mk.inj (Option.some.inj hj);cases d with
   |none=>rw[hv rfl] at hT;exact hT
   |some e'=>
    show T (k',mv') S' ((s.put (some e') v).tmps.getD e' undef) x';rw[ZA _ _ _ _ (hds e' rfl),if_pos rfl];exact hT
  ·rw[zx l i j hi,if_neg (fun h=>e h.symm)] at hl;rw[hother j dj Tj hj e];exact hstab j dj Tj hj (k,mv) (k',mv') S S' _ x x' (G.kn j dj Tj hj hl) hkk
 ·rw[zx l i b.ia hi,if_neg (hnb b hb).1] at hl;rw[hslot b hb] at hbl;rw[zx l i b.is hi,if_neg (hnb b hb).2];obtain⟨b0,e0,h0,_⟩:=G.kn b.ia (some b.sl) Plc (hba b hb) hl
  have e1:b0=bl:=by
   have:Value.pointer (some ⟨b0,0,none⟩)=Value.pointer (some ⟨bl,0,none⟩):=e0.symm.trans hbl;injection this with this
   injection this with this
   injection this
  subst e1;exact⟨(G.bx b hb hl _ hbl).1,hkb.row (G.bx b hb hl _ hbl).2 h0⟩
 ·rw[zx l i b.is hi,if_neg (hnb b hb).2] at hl;rw[zx l i b.ia hi,if_neg (hnb b hb).1];exact G.bc b hb hl
 ·rw[zx l i b.ia hi,if_neg (hnb b hb).1] at hl;rw[zx l i b'.ia hi,if_neg (hnb b' hb').1] at hl';rw[hslot b hb,hslot b' hb'];exact G.bd b hb b' hb' hne hl hl'
theorem zio:∀{bxs:List Bx},(bxs.flatMap fun b=>[b.ia,b.is]).Nodup->∀{b b':Bx},b∈bxs->b'∈bxs->b.ia=b'.ia->b=b'
 |c::r,hn,b,b',hb,hb',h=>by
  have hn2:(c.ia::c.is::r.flatMap fun b=>[b.ia,b.is]).Nodup:=hn;obtain⟨h1,h2⟩:=List.nodup_cons.1 hn2;have h3:=(List.nodup_cons.1 h2).2;rcases List.mem_cons.1 hb with rfl|hb1<;>rcases List.mem_cons.1 hb' with rfl|hb2
  ·rfl
  ·exact absurd (List.mem_cons_of_mem _ (List.mem_flatMap.2 ⟨b',hb2,by simp[h]⟩)) h1
  ·exact absurd (List.mem_cons_of_mem _ (List.mem_flatMap.2 ⟨b,hb1,by simp[h]⟩)) h1
  ·exact zio h3 hb1 hb2 h
theorem zd7:∀{bxs:List Bx},(bxs.flatMap fun b=>[b.ia,b.is]).Nodup->∀{b b':Bx},b∈bxs->b'∈bxs->b.is=b'.is->b.ia=b'.ia
 |c::r,hn,b,b',hb,hb',h=>by
  have hn2:(c.ia::c.is::r.flatMap fun b=>[b.ia,b.is]).Nodup:=hn;obtain⟨h1,h2⟩:=List.nodup_cons.1 hn2;obtain⟨h4,h3⟩:=List.nodup_cons.1 h2;rcases List.mem_cons.1 hb with rfl|hb1<;>rcases List.mem_cons.1 hb' with rfl|hb2
  ·rfl
  ·exact absurd (List.mem_flatMap.2 ⟨b',hb2,by simp[h]⟩) h4
  ·exact absurd (List.mem_flatMap.2 ⟨b,hb1,by simp[h]⟩) h4
  ·exact zd7 h3 hb1 hb2 h
def YQ (ops:Array Oper):Nat->Nat->Nat->Bool
 |0,i,c=>ys ops i c
 |f+1,i,c=>ys ops i c||(List.range ops.size).any fun j=>ys ops i j&&YQ ops f j c
theorem Ys {l:Array Bool} (hcl:∀i j,l.getD i false=true->ys ops i j=true->l.getD j false=true):∀(f i c:Nat),(∀j,ys ops i j=true->l.getD j false=true)->YQ ops f i c=true->l.getD c false=true
 |0,i,c,hd,h=>hd c h
 |f+1,i,c,hd,h=>by
  unfold YQ at h;rcases(Bool.or_eq_true_iff.1 h) with h1|h1
  ·exact hd c h1
  ·obtain⟨j,_,h2⟩:=List.any_eq_true.1 h1;obtain⟨h3,h4⟩:=Bool.and_eq_true_iff.1 h2;exact Ys hcl f j c (fun k hk=>hcl j k (hd j h3) hk) h4
theorem zbh {id:Nat} {a:Act} {w:World} (hm:prog.follows .mixedOrders=true) (hdown:zat ops=true)
  (base fb:Nat) (Fk:Nat->Fz) (S0:List Nat) (w0:World) (hw0:0<w0.heap.size) (tab:Tb) (calls:List Nat) (bxs:List Bx)
  (hlen:tab.length=ops.size) (hnd:decide (zs tab).Nodup=true) (hlt0:((zs tab).all fun d=>decide (d<a.tmps.size))=true)
  (hstab:∀(i:Nat) (d:Option Nat) (T:Kn),tab[i]? =some (d,T)->yv T) (hstabB:bxs≠[]->∀(i:Nat) (d:Option Nat) (T:Kn),tab[i]? =some (d,T)->zft T)
  (S1:List Nat) (sv1 mv1:Value) (hF:Fr base fb (Fk 0) S1 sv1 mv1 w.drew) (hK0:Kb S0 w0 w.drew) (hS0:∀j∈S1,j∈S0\/w0.heap.size<=j)
  (bas:List (Nat×Value)) (hbas:∀p∈bas,a.tmps.getD p.1 undef=p.2) (hapart:(bas.all fun p=> !(zs tab).contains p.1)=true)
  (hchain:((List.range (calls.length - 1)).all fun p=>YQ ops 3 (calls.getD (p+1) 0) (calls.getD p 0))=true)
  (hix:decide (calls++bxs.flatMap fun b=>[b.ia,b.is]).Nodup=true) (hcl:(calls.all fun c=>decide (c<ops.size))=true)
  (hba:∀b∈bxs,tab[b.ia]? =some (some b.sl,Plc)/\tab[b.is]? =some (none,Cst undef)/\ys ops b.is b.ia=true)
  (hq:∀(i:Nat) (o:Oper) (d:Option Nat) (T:Kn),ops[i]? =some o->tab[i]? =some (d,T)->i∉calls->(∀b∈bxs,i≠b.ia/\i≠b.is)->∀s x k S sv mv,Fr base fb (Fk k) S sv mv x->Kb S0 w0 x->(∀p∈bas,s.tmps.getD p.1 undef=p.2)->
   (∀e∈o.after,Region.binds .any e=true->∀(d':Option Nat) (T':Kn),tab[e.on]? =some (d',T')->T' (k,mv) S (Zk s d') x)->
   (∀p c,calls[p]? =some c->YQ ops 3 c i=true->k<=p)->
   (Region.wanted o (yielded ops s.tmps)=true/\∀K:Act->World->Prop,(∀v x',Below x.heap.size x x'->(d=none->v=undef)->T (k,mv) S v x'->K (s.put d v) x')->Oper.wp prog o s x K Q))
  (hc:∀(p i:Nat) (o:Oper) (d:Option Nat) (T:Kn),calls[p]? =some i->ops[i]? =some o->tab[i]? =some (d,T)->∀s x S sv mv,Fr base fb (Fk p) S sv mv x->Kb S0 w0 x->(∀j∈S,j∈S0\/w0.heap.size<=j)->s.defers=a.defers->(∀p∈bas,s.tmps.getD p.1 undef=p.2)->
   (∀e∈o.after,Region.binds .any e=true->∀(d':Option Nat) (T':Kn),tab[e.on]? =some (d',T')->T' (p,mv) S (Zk s d') x)->
   (Region.wanted o (yielded ops s.tmps)=true/\∀K:Act->World->Prop,(∀v S' sv' mv' x',Fr base fb (Fk (p+1)) S' sv' mv' x'->Kb S x x'->(∀j∈S',j∈S\/x.heap.size<=j)->(d=none->v=undef)->T (p+1,mv') S' v x'->K (s.put d v) x')->Oper.wp prog o s x K Q))
  (hal:∀b∈bxs,∀o,ops[b.ia]? =some o->∀s x,(Region.wanted o (yielded ops s.tmps)=true/\∀K:Act->World->Prop,K (s.put (some b.sl) (.pointer (some ⟨x.heap.size,0,none⟩))) (x.alloc zw)->Oper.wp prog o s x K Q))
  (hst:∀b∈bxs,∀o,ops[b.is]? =some o->∀s x bl f S c,s.tmps.getD b.sl undef=.pointer (some ⟨bl,0,none⟩)->x.rowIs bl 24 4 f->
   (∀e∈o.after,Region.binds .any e=true->∀(d':Option Nat) (T':Kn),tab[e.on]? =some (d',T')->T' c S (Zk s d') x)->
   (Region.wanted o (yielded ops s.tmps)=true/\∀K:Act->World->Prop,K (s.put none undef) (put4 x bl b.n)->Oper.wp prog o s x K Q))
  (hdone:∀(vs:List Value) x S sv mv,Fr base fb (Fk calls.length) S sv mv x->Kb S0 w0 x->(∀j∈S,j∈S0\/w0.heap.size<=j)->vs.length=tab.length->(∀(i:Nat) (d:Option Nat) (T:Kn),tab[i]? =some (d,T)->T (calls.length,mv) S (vs.getD i undef) x)->
   (∀b∈bxs,∀bl,vs.getD b.ia undef=.pointer (some ⟨bl,0,none⟩)->w0.heap.size<=bl/\x.rowIs bl 24 4 (zj (za b.n)))->Q .normal (zL a (zai tab vs)) x):
  (Code.region id ops true).wp prog Q a w:=by
 have hnd:=of_decide_eq_true hnd;have hix:=of_decide_eq_true hix;have hlt:∀d,d∈zs tab->d<a.tmps.size:=fun d hd=>of_decide_eq_true (List.all_eq_true.1 hlt0 d hd)
 have hap:∀p∈bas,p.1∉zs tab:=fun p hp hm=>by
  have:=List.all_eq_true.1 hapart p hp;simp only[Bool.not_eq_true',List.contains_eq_mem,decide_eq_false_iff_not] at this;exact this hm
 have hnotc:∀b∈bxs,b.ia∉calls/\b.is∉calls:=fun b hb=>by
  have hd:=(List.nodup_append.1 hix).2.2;exact⟨fun h=>hd b.ia h b.ia (List.mem_flatMap.2 ⟨b,hb,by simp⟩) rfl,fun h=>hd b.is h b.is (List.mem_flatMap.2 ⟨b,hb,by simp⟩) rfl⟩
 have hbp:∀b∈bxs,tab[b.ia]? =some (some b.sl,Plc):=fun b hb=>(hba b hb).1
 refine Yk hm hdown (fun l s x=>∃k S sv mv,GG ops base fb Fk S0 w0 tab calls bxs a l s x k S sv mv) ?_ ?_ ?_
 ·have hrep:∀j,(Array.replicate ops.size false).getD j false=false:=fun j=>by
   rw[Array.getD_eq_getD_getElem?,Array.getElem?_replicate];split<;>rfl
  exact⟨0,S1,sv1,mv1,⟨fun p c _=>(by rw[hrep];simp),Nat.zero_le _,hF,hK0,hS0,rfl,rfl,fun _ _=>rfl,fun i d T _ hl=>(by rw[hrep] at hl;cases hl),fun b _ hl=>(by rw[hrep] at hl;cases hl),fun b _ hl=>(by rw[hrep] at hl;cases hl),fun i j hl=>(by rw[hrep] at hl;cases hl),fun b _ b' _ _ hl=>(by rw[hrep] at hl;cases hl)⟩⟩
 ·rintro l i o hls ho hnl hdep s x ⟨k,S,sv,mv,G⟩;have hio:i<ops.size:=(Array.getElem?_eq_some_iff.1 ho).1;have hil:i<l.size:=by omega
  obtain⟨⟨d,T⟩,hdv⟩:∃p,tab[i]? =some p:=⟨_,List.getElem?_eq_getElem (by omega)⟩;have hb':∀p∈bas,s.tmps.getD p.1 undef=p.2:=fun p hp=>(G.out p.1 (hap p hp)).trans (hbas p hp)
  have hdp:∀e∈o.after,Region.binds .any e=true->∀(d':Option Nat) (T':Kn),tab[e.on]? =some (d',T')->T' (k,mv) S (Zk s d') x:=fun e he hb d' T' h=>G.kn _ _ _ h (hdep e he hb)
  have hdj:∀j,ys ops i j=true->l.getD j false=true:=fun j hj=>by
   obtain⟨e,he,hb,hon⟩:=zb1 ho hj;exact hon▸hdep e he hb
  have hcl2:∀i' j,(l.setIfInBounds i true).getD i' false=true->ys ops i' j=true->(l.setIfInBounds i true).getD j false=true:=fun i' j h1 h2=>by
   rw[zx l i j hil];by_cases e:i=j
   ·rw[if_pos e]
   ·rw[if_neg e];rw[zx l i i' hil] at h1;by_cases e2:i=i'
    ·subst e2;exact hdj j h2
    ·rw[if_neg e2] at h1;exact G.cl i' j h1 h2
  refine wpOp_step ho fun K hK=> ?_
  by_cases hic:i∈calls
  ·obtain⟨p,hp⟩:=List.getElem?_of_mem hic;have hcn:calls.Nodup:=(List.nodup_append.1 hix).1
   have hkp:k=p:=by
    have h1:¬p<k:=fun h=>by rw[(G.cnt p i hp).2 h] at hnl;cases hnl
    cases p with
    |zero=>omega
    |succ q=>
     have hq2:q<calls.length:=by have:=(List.getElem?_eq_some_iff.1 hp).1;omega
     have h2:=List.all_eq_true.1 hchain q (List.mem_range.2 (by have:=(List.getElem?_eq_some_iff.1 hp).1;omega));rw[List.getD_eq_getElem?_getD,hp,Option.getD_some] at h2;have h3:=Ys G.cl 3 i _ hdj h2;rw[List.getD_eq_getElem?_getD,List.getElem?_eq_getElem hq2,Option.getD_some] at h3;have h4:=(G.cnt q _ (List.getElem?_eq_getElem hq2)).1 h3;omega
   subst hkp;obtain⟨hw,hrun⟩:=hc k i o d T hp ho hdv s x S sv mv G.fr G.kb G.sub G.df hb' hdp;rw[if_pos hw];refine hrun K fun v S' sv' mv' x' hF' hkb hsub hv hT=>hK _ _ ⟨k+1,S',sv',mv',G.upd hnd hlt hstab hbp hil hdv (fun b hb=>⟨fun h=>(hnotc b hb).1 (h▸hic),fun h=>(hnotc b hb).2 (h▸hic)⟩) hcl2 (fun q c hqc=> ?_) (by have:=(List.getElem?_eq_some_iff.1 hp).1;omega) hF' hkb hsub hv (Or.inr ⟨Nat.lt_succ_self k,hkb,hsub⟩) hT⟩
   rw[zx l i c hil];by_cases e:i=c
   ·subst e;have:q=k:=(List.getElem?_inj (List.getElem?_eq_some_iff.1 hqc).1 hcn).1 (hqc.trans hp.symm);subst this;simp
   ·rw[if_neg e,G.cnt q c hqc];have:q≠k:=fun h=>e (by subst h;rw[hp] at hqc;exact Option.some.inj hqc)
    omega
  ·have hcnt':∀(p c:Nat),calls[p]? =some c->((l.setIfInBounds i true).getD c false=true↔p<k):=fun p c hpc=>by
    rw[zx l i c hil,if_neg (fun h=>hic (by rw[h];exact List.mem_of_getElem? hpc))];exact G.cnt p c hpc
   by_cases hia:∃b∈bxs,i=b.ia
   ·obtain⟨b,hb,rfl⟩:=hia;obtain⟨hw,hrun⟩:=hal b hb o ho s x;have hbs:b.sl<s.tmps.size:=by rw[G.sz];exact hlt _ (Zy (hbp b hb))
    have hget:(s.put (some b.sl) (.pointer (some ⟨x.heap.size,0,none⟩))).tmps.getD b.sl undef=.pointer (some ⟨x.heap.size,0,none⟩):=by rw[ZA _ _ _ _ hbs,if_pos rfl]
    have hother:∀(j:Nat) (dj:Option Nat) (Tj:Kn),tab[j]? =some (dj,Tj)->j≠b.ia->Zk (s.put (some b.sl) (.pointer (some ⟨x.heap.size,0,none⟩))) dj=Zk s dj:=fun j dj Tj hj hne=>by
     cases dj with
     |none=>rfl
     |some e=>
      refine yp s (some b.sl) _ e fun e' he'=> ?_
      obtain rfl:=Option.some.inj he';exact⟨hbs,fun h=>hne (zaQ tab hnd j b.ia e Tj Plc hj (by rw[hbp b hb,h]))⟩
    have hbel:Below x.heap.size x (x.alloc zw):=bal (Below.refl _ x) _;have hsame:∀b'∈bxs,b'.ia=b.ia->b'=b:=fun b' hb' h=>zio (List.nodup_append.1 hix).2.1 hb' hb h
    rw[if_pos hw];refine hrun K (hK _ _ ⟨k,S,sv,mv,hcnt',G.kle,G.fr.below hbel,G.kb.alloc _,G.sub,by rw[yt];exact G.sz,by rw[yI];exact G.df,fun j hj=> ?_,fun j dj Tj hj hl=> ?_,fun b' hb' hl bl hbl=> ?_,fun b' hb' hl=> ?_,hcl2,fun b1 hb1 b2 hb2 hne hl1 hl2=> ?_⟩)
    ·rw[<-G.out j hj];refine yp s (some b.sl) _ j fun e he=> ?_
     obtain rfl:=Option.some.inj he;exact⟨hbs,fun h=>hj (h▸Zy (hbp b hb))⟩
    ·by_cases e:j=b.ia
     ·subst e;rw[hbp b hb] at hj;obtain⟨rfl,rfl⟩:=Prod.mk.inj (Option.some.inj hj);exact⟨x.heap.size,hget,fun hm=>Nat.lt_irrefl _ (G.fr.footlt _ hm),by simp⟩
     ·rw[zx l b.ia j hil,if_neg (fun h=>e h.symm)] at hl;rw[hother j dj Tj hj e];exact hstab j dj Tj hj (k,mv) (k,mv) S S _ x _ (G.kn j dj Tj hj hl) (Or.inl ⟨rfl,rfl,hbel⟩)
    ·by_cases e:b'.ia=b.ia
     ·obtain rfl:=hsame b' hb' e;rw[hget] at hbl;injection hbl with hbl
      injection hbl with hbl
      injection hbl with hbl
      subst hbl
      have hns:l.getD b'.is false=false:=by
       cases h:l.getD b'.is false
       ·rfl
       ·rw[G.bc b' hb' h] at hnl;cases hnl
      have hne2:¬b'.ia=b'.is:=fun h=>by have h9:=(hba b' hb').2.1;rw[<-h,hbp b' hb'] at h9;cases h9
      rw[zx l b'.ia b'.is hil,if_neg hne2,hns];exact⟨G.kb.size,zh (fun _=>0) rfl rfl rfl rfl rfl⟩
     ·rw[zx l b.ia b'.ia hil,if_neg (fun h=>e h.symm)] at hl;have h2:(s.put (some b.sl) (.pointer (some ⟨x.heap.size,0,none⟩))).tmps.getD b'.sl undef=s.tmps.getD b'.sl undef:=hother b'.ia (some b'.sl) Plc (hbp b' hb') e;rw[h2] at hbl;have hne2:¬b.ia=b'.is:=fun h=>by have:=(hba b' hb').2.1;rw[<-h,hbp b hb] at this;cases this
      rw[zx l b.ia b'.is hil,if_neg hne2];exact⟨(G.bx b' hb' hl bl hbl).1,(G.bx b' hb' hl bl hbl).2.alloc _⟩
    ·have hne2:¬b.ia=b'.is:=fun h=>by have:=(hba b' hb').2.1;rw[<-h,hbp b hb] at this;cases this
     rw[zx l b.ia b'.is hil,if_neg hne2] at hl;rw[zx l b.ia b'.ia hil];by_cases e:b.ia=b'.ia
     ·rw[if_pos e]
     ·rw[if_neg e];exact G.bc b' hb' hl
    ·rw[zx l b.ia b1.ia hil] at hl1;rw[zx l b.ia b2.ia hil] at hl2;by_cases e1:b.ia=b1.ia
     ·obtain rfl:=hsame b1 hb1 e1.symm;rw[if_neg hne] at hl2;rw[hget,show(s.put (some b1.sl) (.pointer (some ⟨x.heap.size,0,none⟩))).tmps.getD b2.sl undef=s.tmps.getD b2.sl undef from hother b2.ia (some b2.sl) Plc (hbp b2 hb2) (Ne.symm hne)];obtain⟨b0,e0,_,h0⟩:=G.kn b2.ia (some b2.sl) Plc (hbp b2 hb2) hl2;intro h;have:Value.pointer (some ⟨x.heap.size,0,none⟩)=Value.pointer (some ⟨b0,0,none⟩):=h.trans e0;injection this with this
      injection this with this
      injection this with this
      omega
     ·rw[if_neg e1] at hl1;have h1:(s.put (some b.sl) (.pointer (some ⟨x.heap.size,0,none⟩))).tmps.getD b1.sl undef=s.tmps.getD b1.sl undef:=hother b1.ia (some b1.sl) Plc (hbp b1 hb1) (fun h=>e1 h.symm);by_cases e2:b.ia=b2.ia
      ·obtain rfl:=hsame b2 hb2 e2.symm;rw[hget,h1];obtain⟨b0,e0,_,h0⟩:=G.kn b1.ia (some b1.sl) Plc (hbp b1 hb1) hl1;intro h;have:Value.pointer (some ⟨b0,0,none⟩)=Value.pointer (some ⟨x.heap.size,0,none⟩):=e0.symm.trans h;injection this with this
       injection this with this
       injection this with this
       omega
      ·rw[if_neg e2] at hl2;rw[h1,show(s.put (some b.sl) (.pointer (some ⟨x.heap.size,0,none⟩))).tmps.getD b2.sl undef=s.tmps.getD b2.sl undef from hother b2.ia (some b2.sl) Plc (hbp b2 hb2) (fun h=>e2 h.symm)];exact G.bd b1 hb1 b2 hb2 hne hl1 hl2
   ·by_cases his:∃b∈bxs,i=b.is
    ·obtain⟨b,hb,rfl⟩:=his;obtain⟨e,he,hbi,hon⟩:=zb1 ho (hba b hb).2.2;have hla:l.getD b.ia false=true:=hon▸hdep e he hbi;obtain⟨bl,e0,h0,h1⟩:=G.kn b.ia (some b.sl) Plc (hbp b hb) hla;obtain⟨g1,g2⟩:=G.bx b hb hla bl e0;obtain⟨hw,hrun⟩:=hst b hb o ho s x bl _ S (k,mv) e0 g2 hdp;have hkb:=put4_kb x bl b.n;have hne:bxs≠[]:=fun h=>by rw[h] at hb;cases hb
     rw[if_pos hw];refine hrun K (hK _ _ ⟨k,S,sv,mv,hcnt',G.kle,G.fr.kb hkb (fun j hj=>by simp;exact fun h=>h0 (h▸hj)) (by simp;omega) (fun g N f hr hm=>yF hr g2 tb1 (by simpa using hm)),G.kb.trans hkb (fun j hj=>Or.inr (by simp at hj;rw[hj];exact g1)),G.sub,G.sz,G.df,G.out,fun j dj Tj hj hl=> ?_,fun b' hb' hl bl' hbl=> ?_,fun b' hb' hl=> ?_,hcl2,fun b1 hb1 b2 hb2 hne hl1 hl2=> ?_⟩)
     ·by_cases e2:j=b.is
      ·subst e2;rw[(hba b hb).2.1] at hj;obtain⟨rfl,rfl⟩:=Prod.mk.inj (Option.some.inj hj);rfl
      ·rw[zx l b.is j hil,if_neg (fun h=>e2 h.symm)] at hl;exact hstabB hne j dj Tj hj _ S _ x _ (G.kn j dj Tj hj hl) hkb.size
     ·have hne2:¬b.is=b'.ia:=fun h=>hia ⟨b',hb',h⟩
      rw[zx l b.is b'.ia hil,if_neg hne2] at hl;have hbl2:s.tmps.getD b'.sl undef=.pointer (some ⟨bl',0,none⟩):=hbl;by_cases e2:b'.ia=b.ia
      ·obtain rfl:=zio (List.nodup_append.1 hix).2.1 hb' hb e2
       have:bl=bl':=by
        have:Value.pointer (some ⟨bl,0,none⟩)=Value.pointer (some ⟨bl',0,none⟩):=e0.symm.trans hbl2;injection this with this
        injection this with this
        injection this
       subst this;rw[zx l b'.is b'.is hil,if_pos rfl,if_pos rfl];exact⟨g1,zm g2 (za b'.n) rfl rfl rfl rfl⟩
      ·have hsd:=G.bd b' hb' b hb e2 hl hla;obtain⟨g3,g4⟩:=G.bx b' hb' hl bl' hbl2;have hbb:bl'≠bl:=fun h=>hsd (by rw[hbl2,h];exact e0.symm)
       have hne3:¬b.is=b'.is:=fun h=>e2 (zd7 (List.nodup_append.1 hix).2.1 hb' hb h.symm)
       rw[zx l b.is b'.is hil,if_neg hne3];exact⟨g3,hkb.row g4 (by simpa using hbb)⟩
     ·have hne2:¬b.is=b'.ia:=fun h=>hia ⟨b',hb',h⟩
      rw[zx l b.is b'.ia hil,if_neg hne2];rw[zx l b.is b'.is hil] at hl;by_cases e2:b.is=b'.is
      ·rw[<-zd7 (List.nodup_append.1 hix).2.1 hb hb' e2];exact hla
      ·rw[if_neg e2] at hl;exact G.bc b' hb' hl
     ·rw[zx l b.is b1.ia hil,if_neg (fun h=>hia ⟨b1,hb1,h⟩)] at hl1;rw[zx l b.is b2.ia hil,if_neg (fun h=>hia ⟨b2,hb2,h⟩)] at hl2;exact G.bd b1 hb1 b2 hb2 hne hl1 hl2
    ·have hnb:∀b∈bxs,i≠b.ia/\i≠b.is:=fun b hb=>⟨fun h=>hia ⟨b,hb,h⟩,fun h=>his ⟨b,hb,h⟩⟩
     obtain⟨hw,hrun⟩:=hq i o d T ho hdv hic hnb s x k S sv mv G.fr G.kb hb' hdp (fun p c hpc han=>by
      refine Nat.le_of_not_lt fun hlt2=> ?_
      have hdone:=(G.cnt p c hpc).2 hlt2;have:=Ys G.cl 3 c i (fun j hj=>G.cl c j hdone hj) han;rw[this] at hnl;cases hnl)
     rw[if_pos hw];refine hrun K fun v x' hbel hv hT=>hK _ _ ⟨k,S,sv,mv,G.upd hnd hlt hstab hbp hil hdv hnb hcl2 hcnt' G.kle (G.fr.below hbel) (Kb.of_below hbel) (fun j hj=>Or.inl hj) hv (Or.inl ⟨rfl,rfl,hbel⟩) hT⟩
 ·rintro l s x hls hall ⟨k,S,sv,mv,G⟩
  have hk:k=calls.length:=by
   refine Nat.le_antisymm G.kle (Nat.le_of_not_lt fun h=> ?_);have h1:=List.getElem?_eq_getElem h;have h2:=(G.cnt k _ h1).1 (hall _ (of_decide_eq_true (List.all_eq_true.1 hcl _ (List.getElem_mem h))));omega
  subst hk
  have hmemt:∀p∈(zs tab).map (fun d=>(d,s.tmps.getD d undef)),p.1<a.tmps.size:=fun p hp=>by
   obtain⟨d,hd,rfl⟩:=List.mem_map.1 hp;exact hlt d hd
  have hfst:((zs tab).map (fun d=>(d,s.tmps.getD d undef))).map Prod.fst=zs tab:=by simp[List.map_map,Function.comp_def]
  have e:s=zL a (zai tab (tab.map fun p=>Zk s p.1)):=by
   rw[YP];refine zb2 (by rw[yS,G.sz]) (by rw[yq,G.df]) fun k _=> ?_
   by_cases hk:k∈zs tab
   ·rw[za0 _ a k (s.tmps.getD k undef) hmemt (by rw[hfst];exact hnd) (List.mem_map.2 ⟨k,hk,rfl⟩)]
   ·rw[G.out k hk,Yc _ a k hmemt fun p hp e=>hk (by obtain⟨d,hd,rfl⟩:=List.mem_map.1 hp;exact e▸hd)]
  have hat:∀(i:Nat) (d:Option Nat) (T:Kn),tab[i]? =some (d,T)->(tab.map fun p=>Zk s p.1).getD i undef=Zk s d:=fun i d T h=>by rw[List.getD_eq_getElem?_getD,List.getElem?_map,h];rfl
  have hli:∀(i:Nat) (d:Option Nat) (T:Kn),tab[i]? =some (d,T)->l.getD i false=true:=fun i d T h=>hall i (by rw[<-hlen];exact(List.getElem?_eq_some_iff.1 h).1)
  have h:=hdone (tab.map fun p=>Zk s p.1) x S sv mv G.fr G.kb G.sub (by simp) (fun i d T h=>by rw[hat i d T h];exact G.kn i d T h (hli i d T h)) (fun b hb bl hbl=>by
   rw[hat b.ia (some b.sl) Plc (hbp b hb)] at hbl;have h2:=G.bx b hb (hli _ _ _ (hbp b hb)) bl hbl;rw[if_pos (hli _ _ _ (hba b hb).2.1)] at h2;exact h2)
  rwa[<-e] at h
end
section
variable {ops:Array Oper} {Q:Exit->Act->World->Prop}
abbrev Kp:=Nat->Value->World->Prop
def kn (T:Kp):Kn:=fun c _ v x=>T c.1 v x
abbrev Tp:=List (Option Nat×Kp)
def tbp (t:Tp):Tb:=t.map fun p=>(p.1,kn p.2)
theorem zhB {t:Tp} {i:Nat} {d:Option Nat} {T:Kn} (h:(tbp t)[i]? =some (d,T)):∃U,t[i]? =some (d,U)/\T=kn U:=by
 unfold tbp at h;rw[List.getElem?_map] at h;cases e:t[i]? with
 |none=>rw[e] at h;cases h
 |some p=>
  rw[e] at h;obtain⟨h1,h2⟩:=Prod.mk.inj (Option.some.inj h);exact⟨p.2,by rw[<-h1],h2.symm⟩
theorem YH {t:Tp} {i:Nat} {d:Option Nat} {U:Kp} (h:t[i]? =some (d,U)):(tbp t)[i]? =some (d,kn U):=by
 unfold tbp;rw[List.getElem?_map,h];rfl
structure GP (ops:Array Oper) (Ph:Nat->World->Prop) (tab:Tb) (calls:List Nat) (a:Act) (l:Array Bool) (s:Act) (x:World) (k:Nat):Prop where
 cnt:∀(p c:Nat),calls[p]? =some c->(l.getD c false=true↔p<k)
 kle:k<=calls.length
 ph:Ph k x
 sz:s.tmps.size=a.tmps.size
 df:s.defers=a.defers
 out:∀j,j∉zs tab->s.tmps.getD j undef=a.tmps.getD j undef
 kn:∀(i:Nat) (d:Option Nat) (T:Kn),tab[i]? =some (d,T)->l.getD i false=true->T (k,undef) [] (Zk s d) x
 cl:∀i j,l.getD i false=true->ys ops i j=true->l.getD j false=true
theorem GP.upd {Ph:Nat->World->Prop} {tab:Tb} {calls:List Nat} {a:Act} {l:Array Bool} {s:Act} {x:World} {k:Nat}
  (G:GP ops Ph tab calls a l s x k) (hnd:(zs tab).Nodup) (hlt:∀d,d∈zs tab->d<a.tmps.size)
  {i:Nat} {d:Option Nat} {T:Kn} {v:Value} {x':World} {k':Nat} (hi:i<l.size) (hdv:tab[i]? =some (d,T))
  (hcl:∀i' j,(l.setIfInBounds i true).getD i' false=true->ys ops i' j=true->(l.setIfInBounds i true).getD j false=true) (hcnt:∀(p c:Nat),calls[p]? =some c->((l.setIfInBounds i true).getD c false=true↔p<k')) (hkle:k'<=calls.length) (hF:Ph k' x') (hv:d=none->v=undef) (hT:T (k',undef) [] v x')
  (hst:∀(j:Nat) (dj:Option Nat) (Tj:Kn),tab[j]? =some (dj,Tj)->j≠i->∀u,Tj (k,undef) [] u x->Tj (k',undef) [] u x'):GP ops Ph tab calls a (l.setIfInBounds i true) (s.put d v) x' k':=by
 have hds:∀e,d=some e->e<s.tmps.size:=fun e he=>by rw[G.sz];exact hlt e (Zy (by rw[hdv,he]))
 have hother:∀(j:Nat) (dj:Option Nat) (Tj:Kn),tab[j]? =some (dj,Tj)->j≠i->Zk (s.put d v) dj=Zk s dj:=fun j dj Tj hj hne=>by
  cases dj with
  |none=>rfl
  |some e=>
   refine yp s d v e fun e' he'=>⟨hds e' he',fun h=> ?_⟩
   subst h;exact hne (zaQ tab hnd j i e' Tj T hj (by rw[hdv,he']))
 refine⟨hcnt,hkle,hF, ?_, ?_,fun j hj=> ?_,fun j dj Tj hj hl=> ?_,hcl⟩
 ·cases d with
  |none=>exact G.sz
  |some e=>rw[yt];exact G.sz
 ·cases d with
  |none=>exact G.df
  |some e=>rw[yI];exact G.df
 ·rw[<-G.out j hj];exact yp s d v j fun e he=>⟨hds e he,fun h=>hj (h▸Zy (by rw[hdv,he]))⟩
 ·by_cases e:j=i
  ·subst e;rw[hdv] at hj;obtain⟨rfl,rfl⟩:=Prod.mk.inj (Option.some.inj hj);cases d with
   |none=>rw[hv rfl] at hT;exact hT
   |some e=>
    have:Zk (s.put (some e) v) (some e)=v:=by
     show(s.put (some e) v).tmps.getD e undef=v;rw[ZA _ _ _ _ (hds e rfl),if_pos rfl]
    rw[this];exact hT
  ·rw[zx l i j hi,if_neg (fun h=>e h.symm)] at hl;rw[hother j dj Tj hj e];exact hst j dj Tj hj e _ (G.kn j dj Tj hj hl)
theorem Yt {id:Nat} {a:Act} {w:World} (hm:prog.follows .mixedOrders=true) (hdown:zat ops=true) (Ph:Nat->World->Prop) (Rel:Nat->World->World->Prop) (tab:Tp) (calls:List Nat)
  (hlen:tab.length=ops.size) (hnd:decide (zs (tbp tab)).Nodup=true) (hlt0:((zs (tbp tab)).all fun d=>decide (d<a.tmps.size))=true) (h0:Ph 0 w.drew)
  (bas:List (Nat×Value)) (hbas:∀p∈bas,a.tmps.getD p.1 undef=p.2) (hapart:(bas.all fun p=> !(zs (tbp tab)).contains p.1)=true)
  (hchain:((List.range (calls.length - 1)).all fun q=>YQ ops 3 (calls.getD (q+1) 0) (calls.getD q 0))=true) (hcn:decide calls.Nodup=true) (hcl:(calls.all fun c=>decide (c<ops.size))=true)
  (hstab:∀(j:Nat) (d:Option Nat) (T:Kp),tab[j]? =some (d,T)->∀p v x x',calls[p]? ≠some j->p<calls.length->Ph p x->Rel p x x'->T p v x->T (p+1) v x')
  (hpure:∀(i:Nat) (o:Oper) (d:Option Nat) (T:Kp),ops[i]? =some o->tab[i]? =some (d,T)->i∉calls->∀k s x,k<=calls.length->(∀q c,calls[q]? =some c->YQ ops 3 i c=true->q<k)->(∀q c,calls[q]? =some c->YQ ops 3 c i=true->k<=q)->Ph k x->s.defers=a.defers->(∀p∈bas,s.tmps.getD p.1 undef=p.2)->
   (∀e∈o.after,Region.binds .any e=true->∀(d':Option Nat) (T':Kp),tab[e.on]? =some (d',T')->T' k (Zk s d') x)->
   (Region.wanted o (yielded ops s.tmps)=true/\∀K:Act->World->Prop,(∀v,(d=none->v=undef)->T k v x->K (s.put d v) x)->Oper.wp prog o s x K Q))
  (himp:∀(p i:Nat) (o:Oper) (d:Option Nat) (T:Kp),calls[p]? =some i->ops[i]? =some o->tab[i]? =some (d,T)->∀s x,Ph p x->s.defers=a.defers->(∀p∈bas,s.tmps.getD p.1 undef=p.2)->
   (∀e∈o.after,Region.binds .any e=true->∀(d':Option Nat) (T':Kp),tab[e.on]? =some (d',T')->T' p (Zk s d') x)->
   (Region.wanted o (yielded ops s.tmps)=true/\∀K:Act->World->Prop,(∀v x',Ph (p+1) x'->Rel p x x'->(d=none->v=undef)->T (p+1) v x'->K (s.put d v) x')->Oper.wp prog o s x K Q))
  (hdone:∀(vs:List Value) x,Ph calls.length x->vs.length=tab.length->(∀(i:Nat) (d:Option Nat) (T:Kp),tab[i]? =some (d,T)->T calls.length (vs.getD i undef) x)->Q .normal (zL a (zai (tbp tab) vs)) x):
  (Code.region id ops true).wp prog Q a w:=by
 have hnd:=of_decide_eq_true hnd;have hcn:=of_decide_eq_true hcn;have hlt:∀d,d∈zs (tbp tab)->d<a.tmps.size:=fun d hd=>of_decide_eq_true (List.all_eq_true.1 hlt0 d hd)
 have hap:∀p∈bas,p.1∉zs (tbp tab):=fun p hp hm=>by
  have:=List.all_eq_true.1 hapart p hp;simp only[Bool.not_eq_true',List.contains_eq_mem,decide_eq_false_iff_not] at this;exact this hm
 have hlen2:(tbp tab).length=ops.size:=by unfold tbp;simpa using hlen
 refine Yk hm hdown (fun l s x=>∃k,GP ops Ph (tbp tab) calls a l s x k) ?_ ?_ ?_
 ·have hrep:∀j,(Array.replicate ops.size false).getD j false=false:=fun j=>by
   rw[Array.getD_eq_getD_getElem?,Array.getElem?_replicate];split<;>rfl
  exact⟨0,⟨fun p c _=>(by rw[hrep];simp),Nat.zero_le _,h0,rfl,rfl,fun _ _=>rfl,fun i d T _ hl=>(by rw[hrep] at hl;cases hl),fun i j hl=>(by rw[hrep] at hl;cases hl)⟩⟩
 ·rintro l i o hls ho hnl hdep s x ⟨k,G⟩;have hio:i<ops.size:=(Array.getElem?_eq_some_iff.1 ho).1;have hil:i<l.size:=by omega
  obtain⟨⟨d,U⟩,hdu⟩:∃p,tab[i]? =some p:=⟨_,List.getElem?_eq_getElem (by omega)⟩;have hdv:=YH hdu;have hb':∀p∈bas,s.tmps.getD p.1 undef=p.2:=fun p hp=>(G.out p.1 (hap p hp)).trans (hbas p hp)
  have hdp:∀e∈o.after,Region.binds .any e=true->∀(d':Option Nat) (T':Kp),tab[e.on]? =some (d',T')->T' k (Zk s d') x:=fun e he hb d' T' h=>G.kn _ _ _ (YH h) (hdep e he hb)
  have hdj:∀j,ys ops i j=true->l.getD j false=true:=fun j hj=>by
   obtain⟨e,he,hb,hon⟩:=zb1 ho hj;exact hon▸hdep e he hb
  have hcl2:∀i' j,(l.setIfInBounds i true).getD i' false=true->ys ops i' j=true->(l.setIfInBounds i true).getD j false=true:=fun i' j h1 h2=>by
   rw[zx l i j hil];by_cases e:i=j
   ·rw[if_pos e]
   ·rw[if_neg e];rw[zx l i i' hil] at h1;by_cases e2:i=i'
    ·subst e2;exact hdj j h2
    ·rw[if_neg e2] at h1;exact G.cl i' j h1 h2
  refine wpOp_step ho fun K hK=> ?_
  by_cases hic:i∈calls
  ·obtain⟨p,hp⟩:=List.getElem?_of_mem hic
   have hkp:k=p:=by
    have h1:¬p<k:=fun h=>by rw[(G.cnt p i hp).2 h] at hnl;cases hnl
    cases p with
    |zero=>omega
    |succ q=>
     have hq2:q<calls.length:=by have:=(List.getElem?_eq_some_iff.1 hp).1;omega
     have h2:=List.all_eq_true.1 hchain q (List.mem_range.2 (by have:=(List.getElem?_eq_some_iff.1 hp).1;omega));rw[List.getD_eq_getElem?_getD,hp,Option.getD_some] at h2;have h3:=Ys G.cl 3 i _ hdj h2;rw[List.getD_eq_getElem?_getD,List.getElem?_eq_getElem hq2,Option.getD_some] at h3;have h4:=(G.cnt q _ (List.getElem?_eq_getElem hq2)).1 h3;omega
   subst hkp;have hkl:=(List.getElem?_eq_some_iff.1 hp).1;obtain⟨hw,hrun⟩:=himp k i o d U hp ho hdu s x G.ph G.df hb' hdp;rw[if_pos hw];refine hrun K fun v x' hF' hr hv hT=>hK _ _ ⟨k+1,G.upd hnd hlt hil hdv hcl2 (fun q c hqc=> ?_) (by omega) hF' hv hT (fun j dj Tj hj hne u hu=> ?_)⟩
   ·rw[zx l i c hil];by_cases e:i=c
    ·subst e;have:q=k:=(List.getElem?_inj (List.getElem?_eq_some_iff.1 hqc).1 hcn).1 (hqc.trans hp.symm);subst this;simp
    ·rw[if_neg e,G.cnt q c hqc];have:q≠k:=fun h=>e (by subst h;rw[hp] at hqc;exact Option.some.inj hqc)
     omega
   ·obtain⟨Uj,h1,rfl⟩:=zhB hj;exact hstab j dj Uj h1 k u x x' (fun h=>hne (Option.some.inj (h.symm.trans hp))) hkl G.ph hr hu
  ·have hcnt':∀(p c:Nat),calls[p]? =some c->((l.setIfInBounds i true).getD c false=true↔p<k):=fun p c hpc=>by
    rw[zx l i c hil,if_neg (fun h=>hic (by rw[h];exact List.mem_of_getElem? hpc))];exact G.cnt p c hpc
   obtain⟨hw,hrun⟩:=hpure i o d U ho hdu hic k s x G.kle (fun q c hq ha=>(G.cnt q c hq).1 (Ys G.cl 3 i c hdj ha)) (fun q c hq ha=>Nat.le_of_not_lt fun hlt=>by
    have h1:=(G.cnt q c hq).2 hlt;rw[Ys G.cl 3 c i (fun j hj=>G.cl c j h1 hj) ha] at hnl;cases hnl) G.ph G.df hb' hdp
   rw[if_pos hw];exact hrun K fun v hv hT=>hK _ _ ⟨k,G.upd hnd hlt hil hdv hcl2 hcnt' G.kle G.ph hv hT (fun j dj Tj hj hne u hu=>hu)⟩
 ·rintro l s x hls hall ⟨k,G⟩
  have hk:k=calls.length:=by
   refine Nat.le_antisymm G.kle (Nat.le_of_not_lt fun h=> ?_);have h1:=List.getElem?_eq_getElem h;have h2:=(G.cnt k _ h1).1 (hall _ (of_decide_eq_true (List.all_eq_true.1 hcl _ (List.getElem_mem h))));omega
  subst hk
  have hmemt:∀p∈(zs (tbp tab)).map (fun d=>(d,s.tmps.getD d undef)),p.1<a.tmps.size:=fun p hp=>by
   obtain⟨d,hd,rfl⟩:=List.mem_map.1 hp;exact hlt d hd
  have hfst:((zs (tbp tab)).map (fun d=>(d,s.tmps.getD d undef))).map Prod.fst=zs (tbp tab):=by simp[List.map_map,Function.comp_def]
  have e:s=zL a (zai (tbp tab) ((tbp tab).map fun p=>Zk s p.1)):=by
   rw[YP];refine zb2 (by rw[yS,G.sz]) (by rw[yq,G.df]) fun k _=> ?_
   by_cases hk:k∈zs (tbp tab)
   ·rw[za0 _ a k (s.tmps.getD k undef) hmemt (by rw[hfst];exact hnd) (List.mem_map.2 ⟨k,hk,rfl⟩)]
   ·rw[G.out k hk,Yc _ a k hmemt fun p hp e=>hk (by obtain⟨d,hd,rfl⟩:=List.mem_map.1 hp;exact e▸hd)]
  have hat:∀(i:Nat) (d:Option Nat) (T:Kp),tab[i]? =some (d,T)->((tbp tab).map fun p=>Zk s p.1).getD i undef=Zk s d:=fun i d T h=>by rw[List.getD_eq_getElem?_getD,List.getElem?_map,YH h];rfl
  have hli:∀(i:Nat) (d:Option Nat) (T:Kp),tab[i]? =some (d,T)->l.getD i false=true:=fun i d T h=>hall i (by rw[<-hlen];exact(List.getElem?_eq_some_iff.1 h).1)
  have h:=hdone ((tbp tab).map fun p=>Zk s p.1) x G.ph (by simp[tbp]) (fun i d T h=>by rw[hat i d T h];exact G.kn i d _ (YH h) (hli i d T h));rwa[<-e] at h
end
section
variable {ops:Array Oper} {Q:Exit->Act->World->Prop}
theorem GP.upd2 {Ph:Nat->World->Prop} {tab:Tb} {calls:List Nat} {a:Act} {l:Array Bool} {s:Act} {x:World} {k:Nat}
  (G:GP ops Ph tab calls a l s x k) (hnd:(zs tab).Nodup) (hlt:∀d,d∈zs tab->d<a.tmps.size)
  {i:Nat} {d:Option Nat} {T:Kn} {v:Value} {x':World} {k':Nat} (hi:i<l.size) (hdv:tab[i]? =some (d,T))
  (hcl:∀i' j,(l.setIfInBounds i true).getD i' false=true->ys ops i' j=true->(l.setIfInBounds i true).getD j false=true) (hcnt:∀(p c:Nat),calls[p]? =some c->((l.setIfInBounds i true).getD c false=true↔p<k')) (hkle:k'<=calls.length) (hF:Ph k' x') (hv:d=none->v=undef) (hT:T (k',undef) [] v x')
  (hst:∀(j:Nat) (dj:Option Nat) (Tj:Kn),tab[j]? =some (dj,Tj)->j≠i->Tj (k,undef) [] (Zk s dj) x->Tj (k',undef) [] (Zk s dj) x'):GP ops Ph tab calls a (l.setIfInBounds i true) (s.put d v) x' k':=by
 have hds:∀e,d=some e->e<s.tmps.size:=fun e he=>by rw[G.sz];exact hlt e (Zy (by rw[hdv,he]))
 have hother:∀(j:Nat) (dj:Option Nat) (Tj:Kn),tab[j]? =some (dj,Tj)->j≠i->Zk (s.put d v) dj=Zk s dj:=fun j dj Tj hj hne=>by
  cases dj with
  |none=>rfl
  |some e=>
   refine yp s d v e fun e' he'=>⟨hds e' he',fun h=> ?_⟩
   subst h;exact hne (zaQ tab hnd j i e' Tj T hj (by rw[hdv,he']))
 refine⟨hcnt,hkle,hF, ?_, ?_,fun j hj=> ?_,fun j dj Tj hj hl=> ?_,hcl⟩
 ·cases d with
  |none=>exact G.sz
  |some e=>rw[yt];exact G.sz
 ·cases d with
  |none=>exact G.df
  |some e=>rw[yI];exact G.df
 ·rw[<-G.out j hj];exact yp s d v j fun e he=>⟨hds e he,fun h=>hj (h▸Zy (by rw[hdv,he]))⟩
 ·by_cases e:j=i
  ·subst e;rw[hdv] at hj;obtain⟨rfl,rfl⟩:=Prod.mk.inj (Option.some.inj hj);cases d with
   |none=>rw[hv rfl] at hT;exact hT
   |some e=>
    have:Zk (s.put (some e) v) (some e)=v:=by
     show(s.put (some e) v).tmps.getD e undef=v;rw[ZA _ _ _ _ (hds e rfl),if_pos rfl]
    rw[this];exact hT
  ·rw[zx l i j hi,if_neg (fun h=>e h.symm)] at hl;rw[hother j dj Tj hj e];exact hst j dj Tj hj e (G.kn j dj Tj hj hl)
def zda (ops:Array Oper) (tab:Tp) (bas:List (Nat×Value)):Bool:=(bas.all fun p=> !(zs (tbp tab)).contains p.1)||
 (((List.range ops.size).all fun j=>j==ops.size - 1||ys ops (ops.size - 1) j)&&((List.range tab.length).all fun j=>j==ops.size - 1||(match tab[j]? with
  |some (some d,_)=>bas.all fun p=> !(d==p.1)
  |_=>true)))
theorem zbM {ops:Array Oper} {tab:Tp} {bas:List (Nat×Value)} (h:zda ops tab bas=true):(∀p∈bas,p.1∉zs (tbp tab))\/((∀j,j<ops.size->j≠ops.size - 1->ys ops (ops.size - 1) j=true)/\∀(i:Nat) (q:Option Nat×Kp),tab[i]? =some q->¬i=ops.size - 1->∀p∈bas,∀{e:Nat},q.1=some e->¬e=p.1):=by
 unfold zda at h;rw[Bool.or_eq_true] at h;rcases h with h|h
 ·left;intro p hp hm;have:=List.all_eq_true.1 h p hp;simp only[Bool.not_eq_true',List.contains_eq_mem,decide_eq_false_iff_not] at this;exact this hm
 ·right;rw[Bool.and_eq_true] at h;refine⟨fun j hj hne=> ?_,fun i q hq hne p hp e he e2=> ?_⟩
  ·have:=List.all_eq_true.1 h.1 j (List.mem_range.2 hj);rw[Bool.or_eq_true] at this;rcases this with h2|h2
   ·exact absurd (by simpa using h2) hne
   ·exact h2
  ·have:=List.all_eq_true.1 h.2 i (List.mem_range.2 (List.getElem?_eq_some_iff.1 hq).1);rw[Bool.or_eq_true] at this;rcases this with h2|h2
   ·exact hne (by simpa using h2)
   ·obtain⟨d,T⟩:=q;dsimp only at he;subst he;rw[hq] at h2;have:=List.all_eq_true.1 h2 p hp;simp[e2] at this
theorem zbe (B:World->World->Prop) {id:Nat} {a:Act} {w:World} (hm:prog.follows .mixedOrders=true) (hdown:zat ops=true) (Ph:Nat->World->Prop) (Rel:Nat->Act->World->World->Prop) (tab:Tp) (calls:List Nat)
  (hlen:tab.length=ops.size) (hnd:decide (zs (tbp tab)).Nodup=true) (hlt0:((zs (tbp tab)).all fun d=>decide (d<a.tmps.size))=true) (h0:Ph 0 w.drew)
  (bas:List (Nat×Value)) (hbas:∀p∈bas,a.tmps.getD p.1 undef=p.2) (hapart:zda ops tab bas=true)
  (hchain:((List.range (calls.length - 1)).all fun q=>YQ ops 3 (calls.getD (q+1) 0) (calls.getD q 0))=true) (hcn:decide calls.Nodup=true) (hcl:(calls.all fun c=>decide (c<ops.size))=true)
  (hstab:∀(j:Nat) (d:Option Nat) (T:Kp),tab[j]? =some (d,T)->∀p s x x',calls[p]? ≠some j->p<calls.length->Ph p x->Rel p s x x'->T p (Zk s d) x->T (p+1) (Zk s d) x')
  (hst2:∀(j:Nat) (d:Option Nat) (T:Kp),tab[j]? =some (d,T)->∀p v x x',Ph p x->B x x'->T p v x->T p v x')
  (hpure:∀(i:Nat) (o:Oper) (d:Option Nat) (T:Kp),ops[i]? =some o->tab[i]? =some (d,T)->i∉calls->∀k s x,k<=calls.length->(∀q c,calls[q]? =some c->YQ ops 3 i c=true->q<k)->(∀q c,calls[q]? =some c->YQ ops 3 c i=true->k<=q)->Ph k x->s.defers=a.defers->(∀p∈bas,s.tmps.getD p.1 undef=p.2)->
   (∀e∈o.after,Region.binds .any e=true->∀(d':Option Nat) (T':Kp),tab[e.on]? =some (d',T')->T' k (Zk s d') x)->
   (Region.wanted o (yielded ops s.tmps)=true/\∀K:Act->World->Prop,(∀v x',Ph k x'->B x x'->(d=none->v=undef)->T k v x'->K (s.put d v) x')->Oper.wp prog o s x K Q))
  (himp:∀(p i:Nat) (o:Oper) (d:Option Nat) (T:Kp),calls[p]? =some i->ops[i]? =some o->tab[i]? =some (d,T)->∀s x,Ph p x->s.defers=a.defers->(∀p∈bas,s.tmps.getD p.1 undef=p.2)->
   (∀e∈o.after,Region.binds .any e=true->∀(d':Option Nat) (T':Kp),tab[e.on]? =some (d',T')->T' p (Zk s d') x)->
   (Region.wanted o (yielded ops s.tmps)=true/\∀K:Act->World->Prop,(∀v x',Ph (p+1) x'->Rel p s x x'->(d=none->v=undef)->T (p+1) v x'->K (s.put d v) x')->Oper.wp prog o s x K Q))
  (hdone:∀(vs:List Value) x,Ph calls.length x->vs.length=tab.length->(∀(i:Nat) (d:Option Nat) (T:Kp),tab[i]? =some (d,T)->T calls.length (vs.getD i undef) x)->Q .normal (zL a (zai (tbp tab) vs)) x):
  (Code.region id ops true).wp prog Q a w:=by
 have hnd:=of_decide_eq_true hnd;have hcn:=of_decide_eq_true hcn;have hlt:∀d,d∈zs (tbp tab)->d<a.tmps.size:=fun d hd=>of_decide_eq_true (List.all_eq_true.1 hlt0 d hd)
 have hlen2:(tbp tab).length=ops.size:=by unfold tbp;simpa using hlen
 refine Yk hm hdown (fun l s x=>∃k,GP ops Ph (tbp tab) calls a l s x k/\(l.getD (ops.size - 1) false=false->∀p∈bas,s.tmps.getD p.1 undef=p.2)) ?_ ?_ ?_
 ·have hrep:∀j,(Array.replicate ops.size false).getD j false=false:=fun j=>by
   rw[Array.getD_eq_getD_getElem?,Array.getElem?_replicate];split<;>rfl
  exact⟨0,⟨fun p c _=>(by rw[hrep];simp),Nat.zero_le _,h0,rfl,rfl,fun _ _=>rfl,fun i d T _ hl=>(by rw[hrep] at hl;cases hl),fun i j hl=>(by rw[hrep] at hl;cases hl)⟩,fun _=>hbas⟩
 ·rintro l i o hls ho hnl hdep s x ⟨k,G,hBb⟩;have hio:i<ops.size:=(Array.getElem?_eq_some_iff.1 ho).1;have hil:i<l.size:=by omega
  obtain⟨⟨d,U⟩,hdu⟩:∃p,tab[i]? =some p:=⟨_,List.getElem?_eq_getElem (by omega)⟩;have hdv:=YH hdu
  have hb':∀p∈bas,s.tmps.getD p.1 undef=p.2:=by
   rcases zbM hapart with ha|⟨hdl,_⟩
   ·exact fun p hp=>(G.out p.1 (ha p hp)).trans (hbas p hp)
   ·refine hBb ?_;cases hll:l.getD (ops.size - 1) false with
    |false=>rfl
    |true=>
     by_cases e:i=ops.size - 1
     ·rw[<-e,hnl] at hll;cases hll
     ·have:=G.cl (ops.size - 1) i hll (hdl i hio e);rw[hnl] at this;cases this
  have hBbn:∀v,(l.setIfInBounds i true).getD (ops.size - 1) false=false->∀p∈bas,(s.put d v).tmps.getD p.1 undef=p.2:=fun v hl p hp=>by
   refine Eq.trans ?_ (hb' p hp);cases d with
   |none=>rfl
   |some e=>
    have hds:e<s.tmps.size:=by rw[G.sz];exact hlt e (Zy hdv)
    rw[ZA _ _ _ _ hds];refine if_neg fun he=> ?_
    rcases zbM hapart with ha|⟨_,hd⟩
    ·exact ha p hp (by rw[he];exact Zy hdv)
    ·refine hd i _ hdu (fun e9=> ?_) p hp rfl he.symm;rw[zx l i _ hil,if_pos e9] at hl;cases hl
  have hdp:∀e∈o.after,Region.binds .any e=true->∀(d':Option Nat) (T':Kp),tab[e.on]? =some (d',T')->T' k (Zk s d') x:=fun e he hb d' T' h=>G.kn _ _ _ (YH h) (hdep e he hb)
  have hdj:∀j,ys ops i j=true->l.getD j false=true:=fun j hj=>by
   obtain⟨e,he,hb,hon⟩:=zb1 ho hj;exact hon▸hdep e he hb
  have hcl2:∀i' j,(l.setIfInBounds i true).getD i' false=true->ys ops i' j=true->(l.setIfInBounds i true).getD j false=true:=fun i' j h1 h2=>by
   rw[zx l i j hil];by_cases e:i=j
   ·rw[if_pos e]
   ·rw[if_neg e];rw[zx l i i' hil] at h1;by_cases e2:i=i'
    ·subst e2;exact hdj j h2
    ·rw[if_neg e2] at h1;exact G.cl i' j h1 h2
  refine wpOp_step ho fun K hK=> ?_
  by_cases hic:i∈calls
  ·obtain⟨p,hp⟩:=List.getElem?_of_mem hic
   have hkp:k=p:=by
    have h1:¬p<k:=fun h=>by rw[(G.cnt p i hp).2 h] at hnl;cases hnl
    cases p with
    |zero=>omega
    |succ q=>
     have hq2:q<calls.length:=by have:=(List.getElem?_eq_some_iff.1 hp).1;omega
     have h2:=List.all_eq_true.1 hchain q (List.mem_range.2 (by have:=(List.getElem?_eq_some_iff.1 hp).1;omega));rw[List.getD_eq_getElem?_getD,hp,Option.getD_some] at h2;have h3:=Ys G.cl 3 i _ hdj h2;rw[List.getD_eq_getElem?_getD,List.getElem?_eq_getElem hq2,Option.getD_some] at h3;have h4:=(G.cnt q _ (List.getElem?_eq_getElem hq2)).1 h3;omega
   subst hkp;have hkl:=(List.getElem?_eq_some_iff.1 hp).1;obtain⟨hw,hrun⟩:=himp k i o d U hp ho hdu s x G.ph G.df hb' hdp;rw[if_pos hw];refine hrun K fun v x' hF' hr hv hT=>hK _ _ ⟨k+1,G.upd2 hnd hlt hil hdv hcl2 (fun q c hqc=> ?_) (by omega) hF' hv hT (fun j dj Tj hj hne hu=> ?_),hBbn v⟩
   ·rw[zx l i c hil];by_cases e:i=c
    ·subst e;have:q=k:=(List.getElem?_inj (List.getElem?_eq_some_iff.1 hqc).1 hcn).1 (hqc.trans hp.symm);subst this;simp
    ·rw[if_neg e,G.cnt q c hqc];have:q≠k:=fun h=>e (by subst h;rw[hp] at hqc;exact Option.some.inj hqc)
     omega
   ·obtain⟨Uj,h1,rfl⟩:=zhB hj;exact hstab j dj Uj h1 k s x x' (fun h=>hne (Option.some.inj (h.symm.trans hp))) hkl G.ph hr hu
  ·have hcnt':∀(p c:Nat),calls[p]? =some c->((l.setIfInBounds i true).getD c false=true↔p<k):=fun p c hpc=>by
    rw[zx l i c hil,if_neg (fun h=>hic (by rw[h];exact List.mem_of_getElem? hpc))];exact G.cnt p c hpc
   obtain⟨hw,hrun⟩:=hpure i o d U ho hdu hic k s x G.kle (fun q c hq ha=>(G.cnt q c hq).1 (Ys G.cl 3 i c hdj ha)) (fun q c hq ha=>Nat.le_of_not_lt fun hlt=>by
    have h1:=(G.cnt q c hq).2 hlt;rw[Ys G.cl 3 c i (fun j hj=>G.cl c j h1 hj) ha] at hnl;cases hnl) G.ph G.df hb' hdp
   rw[if_pos hw]
   exact hrun K fun v x' hP hS hv hT=>hK _ _ ⟨k,G.upd2 hnd hlt hil hdv hcl2 hcnt' G.kle hP hv hT (fun j dj Tj hj hne hu=>by
    obtain⟨Uj,h1,rfl⟩:=zhB hj;exact hst2 j dj Uj h1 k _ x x' G.ph hS hu),hBbn v⟩
 ·rintro l s x hls hall ⟨k,G, -⟩
  have hk:k=calls.length:=by
   refine Nat.le_antisymm G.kle (Nat.le_of_not_lt fun h=> ?_);have h1:=List.getElem?_eq_getElem h;have h2:=(G.cnt k _ h1).1 (hall _ (of_decide_eq_true (List.all_eq_true.1 hcl _ (List.getElem_mem h))));omega
  subst hk
  have hmemt:∀p∈(zs (tbp tab)).map (fun d=>(d,s.tmps.getD d undef)),p.1<a.tmps.size:=fun p hp=>by
   obtain⟨d,hd,rfl⟩:=List.mem_map.1 hp;exact hlt d hd
  have hfst:((zs (tbp tab)).map (fun d=>(d,s.tmps.getD d undef))).map Prod.fst=zs (tbp tab):=by simp[List.map_map,Function.comp_def]
  have e:s=zL a (zai (tbp tab) ((tbp tab).map fun p=>Zk s p.1)):=by
   rw[YP];refine zb2 (by rw[yS,G.sz]) (by rw[yq,G.df]) fun k _=> ?_
   by_cases hk:k∈zs (tbp tab)
   ·rw[za0 _ a k (s.tmps.getD k undef) hmemt (by rw[hfst];exact hnd) (List.mem_map.2 ⟨k,hk,rfl⟩)]
   ·rw[G.out k hk,Yc _ a k hmemt fun p hp e=>hk (by obtain⟨d,hd,rfl⟩:=List.mem_map.1 hp;exact e▸hd)]
  have hat:∀(i:Nat) (d:Option Nat) (T:Kp),tab[i]? =some (d,T)->((tbp tab).map fun p=>Zk s p.1).getD i undef=Zk s d:=fun i d T h=>by rw[List.getD_eq_getElem?_getD,List.getElem?_map,YH h];rfl
  have hli:∀(i:Nat) (d:Option Nat) (T:Kp),tab[i]? =some (d,T)->l.getD i false=true:=fun i d T h=>hall i (by rw[<-hlen];exact(List.getElem?_eq_some_iff.1 h).1)
  have h:=hdone ((tbp tab).map fun p=>Zk s p.1) x G.ph (by simp[tbp]) (fun i d T h=>by rw[hat i d T h];exact G.kn i d _ (YH h) (hli i d T h));rwa[<-e] at h
def Cp (c:Value):Kp:=fun _ v _=>v=c
end
abbrev En:=Value ⊕ Kp
abbrev En.v (c:Value):En:=.inl c
abbrev En.l (T:Kp):En:=.inr T
def En.kp:En->Kp
 |.inl c=>Cp c
 |.inr T=>T
def En.isV:En->Bool
 |.inl _=>true
 |.inr _=>false
abbrev Es:=List (Option Nat×En)
def YE (es:Es):Tp:=es.map fun p=>(p.1,p.2.kp)
def zgL (ops:Array Oper) (j t:Nat):Bool:=match ops[j]? with
 |some o=>o.dst==some t
 |none=>false
def onE (ops:Array Oper) (t:Nat):List Edge->Option Nat
 |[]=>none
 |e::r=>bif Region.binds .any e&&zgL ops e.on t then some e.on else onE ops t r
def evE (ops:Array Oper) (bas:List (Nat×Value)) (es:Es) (o:Oper) (t:Nat):Option Value:=match bas.lookup t with
 |some c=>some c
 |none=>match onE ops t o.after.toList with
  |some j=>match es[j]? with
   |some (_,.inl c)=>some c
   |_=>none
  |none=>none
def elE (ops:Array Oper) (es:Es) (o:Oper) (t:Nat):Option Kp:=match onE ops t o.after.toList with
 |some j=>match es[j]? with
  |some (_,.inr T)=>some T
  |_=>none
 |none=>none
def rhoE (env:Nat->Option Value) (s:Act):Operand->Value
 |.tmp t=>(env t).getD (s.tmps.getD t undef)
 |.const v=>v
 |.global g=>.pointer (some ⟨g,0,none⟩)
 |.func f=>.func (.func f) #[] #[]
def zhV (ops:Array Oper) (es:Es) (o:Oper):Bool:=match o.guard with
 |none=>true
 |some (j,b)=>(o.after.toList.any fun e=>Region.binds .any e&&e.on==j)&&(match ops[j]? with
  |some og=>og.dst.isSome
  |none=>false)&&(match es[j]? with
  |some (_,.inl (.bool c))=>c==b
  |_=>false)
def feE (g:Nat->Value):Es->Nat->List (Nat×Value)
 |[],_=>[]
 |(none,_)::r,i=>feE g r (i+1)
 |(some d,.inl c)::r,i=>(d,c)::feE g r (i+1)
 |(some d,.inr _)::r,i=>(d,g i)::feE g r (i+1)
theorem zlN (vs:List Value):∀(es:Es) (i:Nat),i+es.length=vs.length->(∀j d c,es[j]? =some (d,.v c)->vs.getD (i+j) undef=c)->zai (tbp (YE es)) (vs.drop i)=feE (fun k=>vs.getD k undef) es i
 |[],i,hl,_=>by
  rw[List.drop_eq_nil_of_le (by simp at hl;omega)];rfl
 |(d,E)::r,i,hl,hv=>by
  have hi:i<vs.length:=by simp at hl;omega
  rw[List.drop_eq_getElem_cons hi];have ih:=zlN vs r (i+1) (by simp at hl;omega) (fun j d c h=>by have:=hv (j+1) d c (by simpa using h);rwa[show i+(j+1)=i+1+j by omega] at this);have hg:vs[i]=vs.getD i undef:=by rw[List.getD_eq_getElem?_getD,List.getElem?_eq_getElem hi];rfl
  cases d with
  |none=>exact ih
  |some d=>
   cases E with
   |inl c=>
    have:=hv 0 (some d) c rfl;show(d,vs[i])::zai (tbp (YE r)) (vs.drop (i+1))=_;rw[hg,show vs.getD i undef=c from this,ih];rfl
   |inr T=>
    show(d,vs[i])::zai (tbp (YE r)) (vs.drop (i+1))=_;rw[hg,ih];rfl
theorem zbX {es:Es} {i:Nat} {d:Option Nat} {T:Kp} (h:(YE es)[i]? =some (d,T)):∃E,es[i]? =some (d,E)/\T=E.kp:=by
 unfold YE at h;rw[List.getElem?_map] at h;cases he:es[i]? with
 |none=>rw[he] at h;cases h
 |some p=>rw[he] at h;obtain⟨rfl,rfl⟩:=Prod.mk.inj (Option.some.inj h);exact⟨p.2,rfl,rfl⟩
theorem zbT {es:Es} {i:Nat} {d:Option Nat} {E:En} (h:es[i]? =some (d,E)):(YE es)[i]? =some (d,E.kp):=by
 unfold YE;rw[List.getElem?_map,h];rfl
theorem zcC {ops:Array Oper} {t j:Nat}:∀{l:List Edge},onE ops t l=some j->∃e∈l,Region.binds .any e=true/\e.on=j/\zgL ops j t=true
 |[],h=>by cases h
 |e::r,h=>by
  unfold onE at h;cases hb:(Region.binds .any e&&zgL ops e.on t) with
  |true=>
   rw[hb] at h;obtain rfl:=Option.some.inj h;rw[Bool.and_eq_true] at hb;exact⟨e,List.mem_cons_self ..,hb.1,rfl,hb.2⟩
  |false=>
   rw[hb] at h;obtain⟨e',h1,h2⟩:=zcC (l:=r) h;exact⟨e',List.mem_cons_of_mem _ h1,h2⟩
def znc (B:World->World->Prop) (ops:Array Oper) (bas:List (Nat×Value)) (es:Es) (calls:List Nat) (Ph:Nat->World->Prop) (df:List Deferred) (Q:Exit->Act->World->Prop) (i:Nat) (o:Oper) (d:Option Nat) (E:En):Prop:=
 ∀(k:Nat) (s:Act) (x:World),k<=calls.length->(∀q c,calls[q]? =some c->YQ ops 3 i c=true->q<k)->(∀q c,calls[q]? =some c->YQ ops 3 c i=true->k<=q)->Ph k x->s.defers=df->
  (∀t c,evE ops bas es o t=some c->s.tmps.getD t undef=c)->(∀t T,elE ops es o t=some T->T k (s.tmps.getD t undef) x)->
  ∀K:Act->World->Prop,(∀v x',B x x'->(d=none->v=undef)->E.kp k v x'->K (s.put d v) x')->Oper.wp prog o s x K Q
def zmU (ops:Array Oper) (bas:List (Nat×Value)) (es:Es) (Ph:Nat->World->Prop) (Rel:Nat->World->World->Prop) (df:List Deferred) (Q:Exit->Act->World->Prop) (p:Nat) (o:Oper) (d:Option Nat) (E:En):Prop:=
 ∀(s:Act) (x:World),Ph p x->s.defers=df->
  (∀t c,evE ops bas es o t=some c->s.tmps.getD t undef=c)->(∀t T,elE ops es o t=some T->T p (s.tmps.getD t undef) x)->
  ∀K:Act->World->Prop,(∀v x',Ph (p+1) x'->Rel p x x'->(d=none->v=undef)->E.kp (p+1) v x'->K (s.put d v) x')->Oper.wp prog o s x K Q
def AllOb {α:Type} (ops:Array Oper) (es:List (Option Nat×α)) (B:Nat->Nat->Oper->Option Nat->α->Prop):Nat->List Nat->Prop
 |_,[]=>True
 |p,i::l=>(∀o d E,ops[i]? =some o->es[i]? =some (d,E)->B p i o d E)/\AllOb ops es B (p+1) l
theorem AllOb.at {α:Type} {ops:Array Oper} {es:List (Option Nat×α)} {B:Nat->Nat->Oper->Option Nat->α->Prop}:∀{l:List Nat} {p q i:Nat},AllOb ops es B p l->l[q]? =some i->∀o d E,ops[i]? =some o->es[i]? =some (d,E)->B (p+q) i o d E
 |[],_,_,_,_,h=>by simp at h
 |j::l,p,0,i,h,hq=>by
  obtain rfl:j=i:=by simpa using hq
  exact h.1
 |j::l,p,q+1,i,h,hq=>by
  have:=AllOb.at (q:=q) h.2 (by simpa using hq);rwa[show p+1+q=p+(q+1) by omega] at this
theorem zk {α:Type} {ops:Array Oper} {es:List (Option Nat×α)} {B:Nat->Nat->Oper->Option Nat->α->Prop} {p i:Nat} {l:List Nat} (o:Oper) (d:Option Nat) (E:α) (ho:ops[i]? =some o) (he:es[i]? =some (d,E)) (h:B p i o d E) (hl:AllOb ops es B (p+1) l):AllOb ops es B p (i::l):=by
 refine⟨fun o' d' E' h1 h2=> ?_,hl⟩;rw[ho] at h1;rw[he] at h2;obtain rfl:=Option.some.inj h1;obtain⟨rfl,rfl⟩:=Prod.mk.inj (Option.some.inj h2);exact h
def zfj (B:Nat->Kp->Prop):Es->Nat->Prop
 |[],_=>True
 |(_,.inl _)::r,i=>zfj B r (i+1)
 |(_,.inr T)::r,i=>B i T/\zfj B r (i+1)
theorem zcD {B:Nat->Kp->Prop}:∀{es:Es} {k:Nat},zfj B es k->∀(i:Nat) (d:Option Nat) (T:Kp),es[i]? =some (d,.l T)->B (k+i) T
 |[],_,_,i,_,_,h=>by simp at h
 |(d',.inl _)::r,k,hl,0,d,T,h=>by simp at h
 |(d',.inr U)::r,k,hl,0,d,T,h=>by
  obtain⟨_,rfl⟩:d'=d/\U=T:=by simpa using h
  exact hl.1
 |(d',.inl _)::r,k,hl,i+1,d,T,h=>by
  have:=zcD (es:=r) (k:=k+1) hl i d T (by simpa using h);rwa[show k+1+i=k+(i+1) by omega] at this
 |(d',.inr U)::r,k,hl,i+1,d,T,h=>by
  have:=zcD (es:=r) (k:=k+1) hl.2 i d T (by simpa using h);rwa[show k+1+i=k+(i+1) by omega] at this
theorem zcp {es:Es} {B:Nat->Kp->Prop} (h:zfj B es 0) (i:Nat) (d:Option Nat) (T:Kp) (he:es[i]? =some (d,.l T)):B i T:=by
 have:=zcD h i d T he;rwa[Nat.zero_add] at this
theorem zW {α:Type} {a b:α} {l m:List α} (h:a=b) (h':l=m):a::l=b::m:=by rw[h,h']
theorem yH {es:Es} (h:(es.all fun p=>p.2.isV)=true) {i:Nat} {d:Option Nat} {T:Kp} (he:es[i]? =some (d,.l T)):False:=by
 have:=List.all_eq_true.1 h _ (List.mem_of_getElem? he);cases this
theorem ze2 (B:World->World->Prop) (hBr:∀x,B x x) {ops:Array Oper} {Q:Exit->Act->World->Prop} {id:Nat} {a:Act} {w:World} (Ph:Nat->World->Prop) (Rel:Nat->World->World->Prop) (bas:List (Nat×Value)) (es:Es) (calls loads:List Nat)
  (hst:(zat ops&&(es.length==ops.size)&&decide (zs (tbp (YE es))).Nodup&&zda ops (YE es) bas&&((List.range (calls.length - 1)).all fun q=>YQ ops 3 (calls.getD (q+1) 0) (calls.getD q 0))&&decide calls.Nodup&&(calls.all fun c=>decide (c<ops.size))&&(es.map Prod.fst==ops.toList.map (·.dst))&&(ops.toList.all fun o=>zhV ops es o))=true) (hsz:((zs (tbp (YE es))).all fun d=>decide (d<a.tmps.size))=true) (hbas:(bas.map fun p=>a.tmps.getD p.1 undef)=bas.map Prod.snd)
  (hauto:(fun s x=>(List.range ops.size).map fun i=>bif (calls++loads).contains i then none else match ops[i]? with|some o=>some ((execOp (rhoE (evE ops bas es o) s) o).run prog x)|none=>none)=fun _ x=>(List.range ops.size).map fun i=>bif (calls++loads).contains i then none else match(es)[i]? with|some (some _,.inl c)=>some (.ok (.value c) x)|_=>none)
  (h0:Ph 0 w.drew) (hbel:∀k x x',Ph k x->B x x'->Ph k x')
  (hcalls:AllOb ops es (fun p _=>zmU ops bas es Ph Rel a.defers Q p) 0 calls)
  (hloads:AllOb ops es (fun _=>znc B ops bas es calls Ph a.defers Q) 0 loads)
  (hs1:∀(i:Nat) (d:Option Nat) (T:Kp),es[i]? =some (d,En.l T)->∀p v x x',calls[p]? ≠some i->p<calls.length->Ph p x->Rel p x x'->T p v x->T (p+1) v x')
  (hs2:∀(i:Nat) (d:Option Nat) (T:Kp),es[i]? =some (d,En.l T)->∀p v x x',Ph p x->B x x'->T p v x->T p v x')
  (hdone:∀(g:Nat->Value) x,Ph calls.length x->(∀(i:Nat) (d:Option Nat) (T:Kp),es[i]? =some (d,En.l T)->T calls.length (g i) x)->Q .normal (zL a (feE g es 0)) x):
  (Code.region id ops true).wp prog Q a w:=by
 simp only[Bool.and_eq_true] at hst;obtain⟨⟨⟨⟨⟨⟨⟨⟨e1,e2⟩,e3⟩,e4⟩,e5⟩,e6⟩,e7⟩,e8⟩,e9⟩:=hst;have hlen:es.length=ops.size:=by simpa using e2
 have hdst:∀(i:Nat) (o:Oper) (d:Option Nat) (E:En),ops[i]? =some o->es[i]? =some (d,E)->o.dst=d:=fun i o d E ho he=>by
  have h8:es.map Prod.fst=ops.toList.map (·.dst):=by simpa using e8
  have h:=congrArg (fun l:List (Option Nat)=>l[i]?) h8;simp only[List.getElem?_map,he,Array.getElem?_toList,ho,Option.map_some] at h;exact(Option.some.inj h).symm
 have hbase:∀p∈bas,a.tmps.getD p.1 undef=p.2:=fun p hp=>by
  obtain⟨i,hi,rfl⟩:=List.getElem_of_mem hp;have h:=congrArg (fun l:List Value=>l[i]?) hbas;simp only[List.getElem?_map,List.getElem?_eq_getElem hi,Option.map_some] at h;exact Option.some.inj h
 have hlook:∀{t:Nat} {c:Value},bas.lookup t=some c->(t,c)∈bas:=fun{t c} h=>by
  obtain⟨l1,l2,h1,_⟩:=List.lookup_eq_some_iff.1 h;rw[h1];simp
 have hval:∀(k:Nat) (o:Oper) (s:Act) (x:World),(∀p∈bas,s.tmps.getD p.1 undef=p.2)->(∀e∈o.after,Region.binds .any e=true->∀(d':Option Nat) (T':Kp),(YE es)[e.on]? =some (d',T')->T' k (Zk s d') x)->(∀t c,evE ops bas es o t=some c->s.tmps.getD t undef=c)/\(∀t T,elE ops es o t=some T->T k (s.tmps.getD t undef) x):=fun k o s x hb hdep=>by
  have key:∀(j t:Nat) (E:En) (d:Option Nat),onE ops t o.after.toList=some j->es[j]? =some (d,E)->E.kp k (s.tmps.getD t undef) x:=fun j t E d h1 h2=>by
   obtain⟨e,he,hbi,rfl,hd⟩:=zcC h1;have h3:=hdep e (by simpa using he) hbi d E.kp (zbT h2);unfold zgL at hd;cases ho:ops[e.on]? with
   |none=>rw[ho] at hd;cases hd
   |some o'=>
    rw[ho] at hd;have h4:o'.dst=some t:=by simpa using hd
    rw[hdst _ _ _ _ ho h2] at h4;rw[h4] at h3;exact h3
  constructor
  ·intro t c h;unfold evE at h;cases hl:bas.lookup t with
   |some c'=>rw[hl] at h;obtain rfl:=Option.some.inj h;exact hb _ (hlook hl)
   |none=>
    rw[hl] at h;cases hj:onE ops t o.after.toList with
    |none=>rw[hj] at h;cases h
    |some j=>
     rw[hj] at h;dsimp only at h;split at h
     ·obtain rfl:=Option.some.inj h;exact key j t _ _ hj (by assumption)
     ·cases h
  ·intro t T h;unfold elE at h;cases hj:onE ops t o.after.toList with
   |none=>rw[hj] at h;cases h
   |some j=>
    rw[hj] at h;dsimp only at h;split at h
    ·obtain rfl:=Option.some.inj h;exact key j t _ _ hj (by assumption)
    ·cases h
 have hwant:∀(k i:Nat) (o:Oper) (s:Act) (x:World),ops[i]? =some o->(∀e∈o.after,Region.binds .any e=true->∀(d':Option Nat) (T':Kp),(YE es)[e.on]? =some (d',T')->T' k (Zk s d') x)->Region.wanted o (yielded ops s.tmps)=true:=fun k i o s x ho hdep=>by
  have hg:=List.all_eq_true.1 e9 o (by rw[<-Array.mem_def];exact Array.mem_of_getElem? ho);unfold zhV at hg;cases hgu:o.guard with
  |none=>exact zg hgu
  |some jb=>
   obtain⟨j,b⟩:=jb;rw[hgu] at hg;simp only[Bool.and_eq_true] at hg;obtain⟨⟨g1,g2⟩,g3⟩:=hg;obtain⟨e,he,heb⟩:=List.any_eq_true.1 g1;rw[Bool.and_eq_true] at heb;have hon:e.on=j:=by simpa using heb.2
   cases hoj:ops[j]? with
   |none=>rw[hoj] at g2;cases g2
   |some og=>
    rw[hoj] at g2;obtain⟨dd,hdd⟩:=Option.isSome_iff_exists.1 g2;split at g3
    ·rename_i q d c hq;have hc:c=b:=by simpa using g3
     subst hc;have h3:=hdep e (by simpa using he) heb.1 _ _ (by rw[hon];exact zbT hq);have h4:=hdst _ _ _ _ hoj hq;rw[hdd] at h4;rw[<-h4] at h3;cases c with
     |true=>exact zV hgu hoj hdd h3
     |false=>exact zij hgu hoj hdd h3
    ·cases g3
 refine zbe B (by kernel_rfl) e1 Ph (fun p _ x x'=>Rel p x x') (YE es) calls (by unfold YE;simpa using hlen) e3 hsz h0 bas hbase e4 e5 e6 e7 ?_ ?_ ?_ ?_ ?_
 ·intro j d T hj p s x x' h1 h2 h3 h4 h5;obtain⟨E,he,rfl⟩:=zbX hj;cases E with
  |inl c=>exact h5
  |inr T=>exact hs1 j d T he p _ x x' h1 h2 h3 h4 h5
 ·intro j d T hj p v x x' h1 h2 h3;obtain⟨E,he,rfl⟩:=zbX hj;cases E with
  |inl c=>exact h3
  |inr T=>exact hs2 j d T he p v x x' h1 h2 h3
 ·intro i o d T ho ht hic k s x hk hlo hhi hph hdf hb hdep;obtain⟨E,he,rfl⟩:=zbX ht;obtain⟨v1,v2⟩:=hval k o s x hb hdep;refine⟨hwant k i o s x ho hdep,fun K hK=> ?_⟩;by_cases hil:i∈loads
  ·obtain⟨q,hq⟩:=List.getElem?_of_mem hil;exact hloads.at hq o d E ho he k s x hk hlo hhi hph hdf v1 v2 K fun v x' h1 h2 h3=>hK v x' (hbel k x x' hph h1) h1 h2 h3
  ·have hi:i<ops.size:=(Array.getElem?_eq_some_iff.1 ho).1;have h:=congrArg (fun l:List (Option (Result Next))=>l[i]?) (congrFun (congrFun hauto s) x);have hsk:(calls++loads).contains i=false:=by simp[hic,hil]
   simp only[List.getElem?_map,List.getElem?_range hi,Option.map_some,hsk,cond_false,ho,he] at h
   have hrho:rhoE (evE ops bas es o) s=s.eval:=by
    funext q;cases q with
    |tmp t=>
     show(evE ops bas es o t).getD _=_;cases hv:evE ops bas es o t with
     |none=>rfl
     |some c=>exact(v1 t c hv).symm
    |const v=>rfl
    |global g=>rfl
    |func f=>rfl
   cases E with
   |inr T=>cases d<;>simp at h
   |inl c=>
    cases d with
    |none=>simp at h
    |some d=>
    have h':(execOp s.eval o).run prog x=.ok (.value c) x:=by rw[<-hrho];exact Option.some.inj (Option.some.inj h)
    unfold Oper.wp;rw[h',Oper.upon_value,hdst _ _ _ _ ho he];exact hK c x hph (hBr x) (fun hd=>by cases hd) rfl
 ·intro p i o d T hp ho ht s x hph hdf hb hdep;obtain⟨E,he,rfl⟩:=zbX ht;obtain⟨v1,v2⟩:=hval p o s x hb hdep;refine⟨hwant p i o s x ho hdep,fun K hK=> ?_⟩;have:=hcalls.at hp o d E ho he;rw[Nat.zero_add] at this;exact this s x hph hdf v1 v2 K hK
 ·intro vs x hph hl hT;have hl2:vs.length=es.length:=by rw[hl];simp[YE]
  have h:=hdone (fun k=>vs.getD k undef) x hph (fun i d T he=>hT i d _ (zbT he));rw[<-zlN vs es 0 (by omega) (fun j d c he=>by rw[Nat.zero_add];exact hT j d _ (zbT he))] at h;simpa using h
theorem zX {ops:Array Oper} {Q:Exit->Act->World->Prop} {id:Nat} {a:Act} {w:World} (Ph:Nat->World->Prop) (Rel:Nat->World->World->Prop) (bas:List (Nat×Value)) (es:Es) (calls loads:List Nat)
  (hst:(zat ops&&(es.length==ops.size)&&decide (zs (tbp (YE es))).Nodup&&zda ops (YE es) bas&&((List.range (calls.length - 1)).all fun q=>YQ ops 3 (calls.getD (q+1) 0) (calls.getD q 0))&&decide calls.Nodup&&(calls.all fun c=>decide (c<ops.size))&&(es.map Prod.fst==ops.toList.map (·.dst))&&(ops.toList.all fun o=>zhV ops es o))=true) (hsz:((zs (tbp (YE es))).all fun d=>decide (d<a.tmps.size))=true) (hbas:(bas.map fun p=>a.tmps.getD p.1 undef)=bas.map Prod.snd)
  (hauto:(fun s x=>(List.range ops.size).map fun i=>bif (calls++loads).contains i then none else match ops[i]? with|some o=>some ((execOp (rhoE (evE ops bas es o) s) o).run prog x)|none=>none)=fun _ x=>(List.range ops.size).map fun i=>bif (calls++loads).contains i then none else match(es)[i]? with|some (some _,.inl c)=>some (.ok (.value c) x)|_=>none)
  (h0:Ph 0 w.drew)
  (hcalls:AllOb ops es (fun p _=>zmU ops bas es Ph Rel a.defers Q p) 0 calls)
  (hloads:AllOb ops es (fun _=>znc Eq ops bas es calls Ph a.defers Q) 0 loads)
  (hs1:∀(i:Nat) (d:Option Nat) (T:Kp),es[i]? =some (d,En.l T)->∀p v x x',calls[p]? ≠some i->p<calls.length->Ph p x->Rel p x x'->T p v x->T (p+1) v x')
  (hdone:∀(g:Nat->Value) x,Ph calls.length x->(∀(i:Nat) (d:Option Nat) (T:Kp),es[i]? =some (d,En.l T)->T calls.length (g i) x)->Q .normal (zL a (feE g es 0)) x):
  (Code.region id ops true).wp prog Q a w:=
 ze2 Eq (fun _=>rfl) Ph Rel bas es calls loads hst hsz hbas hauto h0 (fun k x x' h e=>e▸h) hcalls hloads hs1 (fun _ _ _ _ p v x x' _ e h=>e▸h) hdone
section
variable {s:Act} {x:World} {pos:String} {af:Array Edge} {g:Option (Nat×Bool)} {K:Act->World->Prop} {Q:Exit->Act->World->Prop}
theorem zcz {t d b:Nat} {ty:TypeId} (he:s.tmps.getD t undef=.pointer (some ⟨b,0,none⟩)) (hK:K (s.put (some d) (.pointer (some ⟨b,19,none⟩))) x):
  Oper.wp prog ⟨some d,.fieldAddr 137 (.tmp t) 10,ty,pos,af,g⟩ s x K Q:=by
 have he2:s.eval (.tmp t)=.pointer (some ⟨b,0,none⟩):=he;go_simp;exact hK
theorem Zh {t d:Nat} {T ty:TypeId} {ad:Addr} {v:Value} (hA:∀w,(isAgg T).run prog w=.ok false w) (he:s.tmps.getD t undef=.pointer (some ad)) (hc:x.cell? ad=some v) (hK:K (s.put (some d) v) x):
  Oper.wp prog ⟨some d,.load T (.tmp t),ty,pos,af,g⟩ s x K Q:=by
 have he2:s.eval (.tmp t)=.pointer (some ad):=he;have hl:∀P,(load ad).run P x=.ok v x:=fun P=>by simp[go_sem,hc]
 unfold Oper.wp;simp only[execOp,he2,Instr.loadAt,Instr.sureAddr,loadVar,Sem.run_bind,Sem.run_pure,Result.andThen_ok,hA,Bool.false_eq_true,if_false,hl];exact hK
theorem Zb {t d b off n:Nat} {ty:TypeId} (he:s.tmps.getD t undef=.pointer (some ⟨b,off,none⟩)) (c0:x.cell? ⟨b,off,none⟩=some (.int .u64 (za n 0))) (c1:x.cell? ⟨b,off+1,none⟩=some (.int .u64 (za n 1))) (c2:x.cell? ⟨b,off+2,none⟩=some (.int .u64 (za n 2))) (c3:x.cell? ⟨b,off+3,none⟩=some (.int .u64 (za n 3))) (hK:K (s.put (some d) (wv n)) x):
  Oper.wp prog ⟨some d,.load 24 (.tmp t),ty,pos,af,g⟩ s x K Q:=by
 have he2:s.eval (.tmp t)=.pointer (some ⟨b,off,none⟩):=he;go_simp;exact hK
def badF:Fz:=⟨undef,⟨#[]⟩,undef,0,0,0,⟨#[]⟩,100001,false,0,[],[0],⟨#[]⟩,0,0,false,0,⟨#[]⟩⟩
theorem zcJ {base fb:Nat} {S:List Nat} {sv mv:Value} {w:World} (h:Fr base fb badF S sv mv w):False:=by
 have:=h.gal;unfold badF at this;simp at this
def zv {α:Type} (r:Option (α×Fz)):Fz:=match r with
 |some (_,F)=>F
 |none=>badF
def ZH (r:Option (Nat×Fz)):Nat:=match r with
 |some (n,_)=>n
 |none=>0
theorem zh3 {f d base fb:Nat} {xs:Array Operand} {vs:Array Value} {A:Array TypeId} {ty:TypeId} {α:Type} {r:Option (α×Fz)} {val:α->Value} {S:List Nat} (hf:Own f) (hv:#[]++xs.map s.eval++#[]=vs) (hc:Calls prog f vs x (Out r val base fb S x))
  (hpan:∀u pv x',r=none->Kb S x x'->Q (.panic [{v:=.iface u pv,recovered:=false}]) s x')
  (hK:∀a F' S' sv' mv' x',r=some (a,F')->Fr base fb F' S' sv' mv' x'->Kb S x x'->(∀j∈S',j∈S\/x.heap.size<=j)->K (s.put (some d) (val a)) x'):
  Oper.wp prog ⟨some d,.call ⟨.value (.func f),xs,A⟩,ty,pos,af,g⟩ s x K Q:=by
 refine zg4 hf hv hc fun e x' ho=> ?_
 unfold Out at ho;split at ho
 ·obtain⟨h1,S',sv',mv',h2,h3,h4⟩:=ho;exact Or.inl ⟨_,h1,hK _ _ S' sv' mv' x' rfl h2 h3 h4⟩
 ·obtain⟨⟨u,pv,rfl⟩,h2⟩:=ho;exact Or.inr ⟨_,rfl,hpan u pv x' rfl h2⟩
theorem zd4:Own 257:=fun _ _=>by kernel_rfl
theorem zcU:Own 259:=fun _ _=>by kernel_rfl
theorem zdX:Own 262:=fun _ _=>by kernel_rfl
theorem zjS:Own 261:=fun _ _=>by kernel_rfl
theorem zdj:Own 260:=fun _ _=>by kernel_rfl
structure Same (F F':Fz):Prop where
 trail:F'.trail=F.trail
 code:F'.code=F.code
 jd:F'.jd=F.jd
 self:F'.self=F.self
 caller:F'.caller=F.caller
 value:F'.value=F.value
 data:F'.data=F.data
 ro:F'.ro=F.ro
 ret:F'.ret=F.ret
 pc:F'.pc=F.pc
 nx:F'.nx=F.nx
 mem:F'.mem=F.mem
 gas:F'.gas=F.gas
 depth:F'.depth=F.depth
theorem Same.refl (F:Fz):Same F F:=⟨rfl,rfl,rfl,rfl,rfl,rfl,rfl,rfl,rfl,rfl,rfl,rfl,rfl,rfl⟩
theorem zi9:100000<badF.gas:=by decide
theorem za8 {F G:Fz} (h:100000<G.gas\/Same F G):100000<(zv (zu G)).gas\/Same F (zv (zu G)):=by
 unfold zu;split
 ·exact Or.inl zi9
 ·rcases h with h|h
  ·exact Or.inl h
  ·exact Or.inr ⟨h.trail,h.code,h.jd,h.self,h.caller,h.value,h.data,h.ro,h.ret,h.pc,h.nx,h.mem,h.gas,h.depth⟩
theorem zdV {F G:Fz} (h:100000<G.gas\/Same F G) (n:Nat):100000<(zv (zP n G)).gas\/Same F (zv (zP n G)):=by
 unfold zP;split
 ·exact Or.inl zi9
 ·rcases h with h|h
  ·exact Or.inl h
  ·exact Or.inr ⟨h.trail,h.code,h.jd,h.self,h.caller,h.value,h.data,h.ro,h.ret,h.pc,h.nx,h.mem,h.gas,h.depth⟩
def Pc (l:List UInt8):Kn:=fun _ S v x=>∃b,Bys x b v l/\∀k,v.ownBlock=some k->k∉S
theorem zdW (l:List UInt8):yv (Pc l):=ye fun _ _ S S' v x x' ⟨b,h1,h2⟩ _ hk hs=>⟨b,hk.own h1 h2,fun k hk2 hm=>(hs k hm).elim (h2 k hk2) (fun h=>by have:=(h1.lt k hk2).2;omega)⟩
def Ln (n:Nat):Kn:=fun _ _ v _=>∃ad c,v=.slice ad n c
theorem zkl (n:Nat):yv (Ln n):=ye fun _ _ _ _ _ _ _ h _ _ _=>h
theorem ltq10 {i:Nat} (h:i<10):i=0\/i=1\/i=2\/i=3\/i=4\/i=5\/i=6\/i=7\/i=8\/i=9:=by omega
theorem lenq10 {vs:List Value} (h:vs.length=10):∃v0 v1 v2 v3 v4 v5 v6 v7 v8 v9:Value,vs=[v0,v1,v2,v3,v4,v5,v6,v7,v8,v9]:=by
 match vs,h with
 |[v0,v1,v2,v3,v4,v5,v6,v7,v8,v9],_=>exact⟨v0,v1,v2,v3,v4,v5,v6,v7,v8,v9,rfl⟩
theorem ltq11 {i:Nat} (h:i<11):i=0\/i=1\/i=2\/i=3\/i=4\/i=5\/i=6\/i=7\/i=8\/i=9\/i=10:=by omega
theorem lenq11 {vs:List Value} (h:vs.length=11):∃v0 v1 v2 v3 v4 v5 v6 v7 v8 v9 v10:Value,vs=[v0,v1,v2,v3,v4,v5,v6,v7,v8,v9,v10]:=by
 match vs,h with
 |[v0,v1,v2,v3,v4,v5,v6,v7,v8,v9,v10],_=>exact⟨v0,v1,v2,v3,v4,v5,v6,v7,v8,v9,v10,rfl⟩
theorem ltq12 {i:Nat} (h:i<12):i=0\/i=1\/i=2\/i=3\/i=4\/i=5\/i=6\/i=7\/i=8\/i=9\/i=10\/i=11:=by omega
theorem lenq12 {vs:List Value} (h:vs.length=12):∃v0 v1 v2 v3 v4 v5 v6 v7 v8 v9 v10 v11:Value,vs=[v0,v1,v2,v3,v4,v5,v6,v7,v8,v9,v10,v11]:=by
 match vs,h with
 |[v0,v1,v2,v3,v4,v5,v6,v7,v8,v9,v10,v11],_=>exact⟨v0,v1,v2,v3,v4,v5,v6,v7,v8,v9,v10,v11,rfl⟩
theorem ltq18 {i:Nat} (h:i<18):i=0\/i=1\/i=2\/i=3\/i=4\/i=5\/i=6\/i=7\/i=8\/i=9\/i=10\/i=11\/i=12\/i=13\/i=14\/i=15\/i=16\/i=17:=by omega
theorem lenq18 {vs:List Value} (h:vs.length=18):∃v0 v1 v2 v3 v4 v5 v6 v7 v8 v9 v10 v11 v12 v13 v14 v15 v16 v17:Value,vs=[v0,v1,v2,v3,v4,v5,v6,v7,v8,v9,v10,v11,v12,v13,v14,v15,v16,v17]:=by
 match vs,h with
 |[v0,v1,v2,v3,v4,v5,v6,v7,v8,v9,v10,v11,v12,v13,v14,v15,v16,v17],_=>exact⟨v0,v1,v2,v3,v4,v5,v6,v7,v8,v9,v10,v11,v12,v13,v14,v15,v16,v17,rfl⟩
end
end cin
end Go.Proofs.YtohoajjdoihekaaGreatDoor
