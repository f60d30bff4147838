import Derived.Test.YtohoajjdoihekaaGreatDoorHj
set_option linter.unusedVariables false
set_option linter.unusedSimpArgs false
namespace Go.Proofs.YtohoajjdoihekaaGreatDoor
namespace cin
open Go.RowKit Go.Proofs.Tryz Tryz
set_option maxRecDepth 100000
set_option maxHeartbeats 8000000
section
abbrev zw:Obj:=.cells #[.int .u64 0,.int .u64 0,.int .u64 0,.int .u64 0] 24
theorem yZ {d:Nat} {ty:TypeId} {s:Act} {x:World} {pos:String} {af:Array Edge} {g:Option (Nat×Bool)} {K:Act->World->Prop} {Q:Exit->Act->World->Prop}
  (hK:K (s.put (some d) (.pointer (some ⟨x.heap.size,0,none⟩))) (x.alloc zw)):
  Oper.wp prog ⟨some d,.alloc 24,ty,pos,af,g⟩ s x K Q:=by
 go_simp;exact hK
abbrev Kn:=Nat×Value->List Nat->Value->World->Prop
def yS (T:Kn):Prop:=∀c c' S S' v x x',T c S v x->((c'=c/\S'=S/\Below x.heap.size x x')\/(c.1<c'.1/\Kb S x x'/\∀k∈S',k∈S\/x.heap.size<=k))->T c' S' v x'
theorem YC {T:Kn} (h:∀c c' S S' v x x',T c S v x->(c'=c\/c.1<c'.1)->Kb S x x'->(∀k∈S',k∈S\/x.heap.size<=k)->T c' S' v x'):yS T:=fun c c' S S' v x x' ht hk=>by
 rcases hk with⟨h1,h2,h3⟩|⟨h1,h2,h3⟩
 ·exact h c c' S S' v x x' ht (Or.inl h1) (Kb.of_below h3) (fun k hk=>Or.inl (h2▸hk))
 ·exact h c c' S S' v x x' ht (Or.inr h1) h2 h3
def zh7 (T:Kn):Prop:=∀c S v x x',T c S v x->x.heap.size<=x'.heap.size->T c S v x'
def Cst (c:Value):Kn:=fun _ _ v _=>v=c
theorem zbj (c:Value):yS (Cst c):=YC fun _ _ _ _ _ _ _ h _ _ _=>h
theorem zbM (c:Value):zh7 (Cst c):=fun _ _ _ _ _ h _=>h
def Plc:Kn:=fun _ S v x=>∃b,v=.pointer (some ⟨b,0,none⟩)/\b∉S/\b<x.heap.size
theorem zcv:yS Plc:=YC fun _ _ S S' v x x' ⟨b,h1,h2,h3⟩ _ hk hs=>⟨b,h1,fun hm=>(hs b hm).elim h2 (fun h=>by omega),Nat.lt_of_lt_of_le h3 hk.size⟩
theorem zbI:zh7 Plc:=fun _ S v x x' ⟨b,h1,h2,h3⟩ hs=>⟨b,h1,h2,Nat.lt_of_lt_of_le h3 hs⟩
structure Bx where
 ia:Nat
 is:Nat
 sl:Nat
 n:Nat
abbrev Tb:=List (Option Nat×Kn)
abbrev zH (tab:Tb):List Nat:=tab.filterMap Prod.fst
def yM (s:Act):Option Nat->Value
 |some d=>s.tmps.getD d undef
 |none=>undef
def zcY:Tb->List Value->List (Nat×Value)
 |(some d,_)::l,v::vs=>(d,v)::zcY l vs
 |(none,_)::l,_::vs=>zcY l vs
 |_,_=>[]
theorem zdu (s:Act):∀tab:Tb,zcY tab (tab.map fun p=>yM s p.1)=(zH tab).map fun d=>(d,s.tmps.getD d undef)
 |[]=>rfl
 |(some d,T)::l=>by
  show(d,_)::zcY l _=_;rw[zdu s l];rfl
 |(none,T)::l=>by
  show zcY l _=_;rw[zdu s l];rfl
theorem zeS:∀(tab:Tb),(zH tab).Nodup->∀(i j d:Nat) (T T':Kn),tab[i]? =some (some d,T)->tab[j]? =some (some d,T')->i=j
 |[],_,i,_,_,_,_,h,_=>by simp at h
 |p::l,hn,0,0,_,_,_,_,_=>rfl
 |p::l,hn,0,j+1,d,T,T',h,h'=>by
  obtain rfl:p=(some d,T):=by simpa using h
  exfalso;have hm:d∈zH l:=List.mem_filterMap.2 ⟨(some d,T'),List.mem_of_getElem? (by simpa using h'),rfl⟩;exact(List.nodup_cons.1 (show(d::zH l).Nodup from hn)).1 hm
 |p::l,hn,i+1,0,d,T,T',h,h'=>by
  obtain rfl:p=(some d,T'):=by simpa using h'
  exfalso;have hm:d∈zH l:=List.mem_filterMap.2 ⟨(some d,T),List.mem_of_getElem? (by simpa using h),rfl⟩;exact(List.nodup_cons.1 (show(d::zH l).Nodup from hn)).1 hm
 |p::l,hn,i+1,j+1,d,T,T',h,h'=>by
  have hn':(zH l).Nodup:=by
   obtain⟨o,T0⟩:=p;cases o with
   |none=>exact hn
   |some d0=>exact(List.nodup_cons.1 (show(d0::zH l).Nodup from hn)).2
  rw[zeS l hn' i j d T T' (by simpa using h) (by simpa using h')]
theorem Yd {tab:Tb} {i d:Nat} {T:Kn} (h:tab[i]? =some (some d,T)):d∈zH tab:=List.mem_filterMap.2 ⟨_,List.mem_of_getElem? h,rfl⟩
theorem zaZ (s:Act) (d:Option Nat) (v:Value) (k:Nat) (hd:∀e,d=some e->e<s.tmps.size/\e≠k):(s.put d v).tmps.getD k undef=s.tmps.getD k undef:=by
 cases d with
 |none=>rfl
 |some e=>rw[zaf _ _ _ _ (hd e rfl).1,if_neg (fun h=>(hd e rfl).2 h.symm)]
theorem Fr.footlt {base fb:Nat} {F:Fz} {S:List Nat} {sv mv:Value} {w:World} (h:Fr base fb F S sv mv w):∀k∈S,k<w.heap.size:=by
 intro k hk;rw[h.foot] at hk;rcases List.mem_cons.1 hk with h1|h1
 ·rw[h1];exact h.row.lt
 ·rcases List.mem_append.1 h1 with h2|h2
  ·exact(h.st.lt k (by simpa using h2)).2
  ·exact(h.me.lt k (by simpa using h2)).2
theorem Fr.kb {base fb:Nat} {F:Fz} {S T:List Nat} {sv mv:Value} {w w':World} (h:Fr base fb F S sv mv w) (hk:Kb T w w') (hT:∀k∈S,k∉T) (h0:0∉T) (hbn:∀g N f,w.rowIs g 4 N f->g∉T):Fr base fb F S sv mv w':=
 ⟨hk.row h.row (hT fb (by rw[h.foot];simp)),hk.own h.st (fun k hk2=>hT k (by rw[h.foot];simp[hk2])),hk.own h.me (fun k hk2=>hT k (by rw[h.foot];simp[hk2])),h.foot,h.stl,h.mel,h.gal,Nat.le_trans h.hb hk.size,zc7 h.zr hk h0 h.hs,h.hb1,h.hfb,h.m32,h.jr.kb hk hbn⟩
def put4 (x:World) (b n:Nat):World:=(((x.setCell ⟨b,0,none⟩ (.int .u64 (za n 0))).setCell ⟨b,1,none⟩ (.int .u64 (za n 1))).setCell ⟨b,2,none⟩ (.int .u64 (za n 2))).setCell ⟨b,3,none⟩ (.int .u64 (za n 3))
theorem put4_kb (x:World) (b n:Nat):Kb [b] x (put4 x b n):=((((Kb.refl [b] x).setCell (Or.inl (by simp)) _).setCell (Or.inl (by simp)) _).setCell (Or.inl (by simp)) _).setCell (Or.inl (by simp)) _
theorem zP (l:Array Bool) (i j:Nat) (hi:i<l.size):(l.setIfInBounds i true).getD j false=if i=j then true else l.getD j false:=by
 by_cases e:i=j
 ·subst e;simp[Array.getD_eq_getD_getElem?,hi]
 ·simp[Array.getD_eq_getD_getElem?,Array.getElem?_setIfInBounds,e]
variable {ops:Array Oper} {Q:Exit->Act->World->Prop}
structure GG (ops:Array Oper) (base fb:Nat) (Fk:Nat->Fz) (S0:List Nat) (w0:World) (tab:Tb) (calls:List Nat) (bxs:List Bx) (a:Act) (l:Array Bool) (s:Act) (x:World) (k:Nat) (S:List Nat) (sv mv:Value):Prop where
 cnt:∀(p c:Nat),calls[p]? =some c->(l.getD c false=true↔p<k)
 kle:k<=calls.length
 fr:Fr base fb (Fk k) S sv mv x
 kb:Kb S0 w0 x
 sub:∀j∈S,j∈S0\/w0.heap.size<=j
 sz:s.tmps.size=a.tmps.size
 df:s.defers=a.defers
 out:∀j,j∉zH tab->s.tmps.getD j undef=a.tmps.getD j undef
 kn:∀(i:Nat) (d:Option Nat) (T:Kn),tab[i]? =some (d,T)->l.getD i false=true->T (k,mv) S (yM s d) x
 bx:∀b∈bxs,l.getD b.ia false=true->∀bl,s.tmps.getD b.sl undef=.pointer (some ⟨bl,0,none⟩)->w0.heap.size<=bl/\x.rowIs bl 24 4 (zo (if l.getD b.is false=true then za b.n else fun _=>0))
 bc:∀b∈bxs,l.getD b.is false=true->l.getD b.ia false=true
 cl:∀i j,l.getD i false=true->zai ops i j=true->l.getD j false=true
 bd:∀b∈bxs,∀b'∈bxs,b.ia≠b'.ia->l.getD b.ia false=true->l.getD b'.ia false=true->s.tmps.getD b.sl undef≠s.tmps.getD b'.sl undef
theorem zhj {i j:Nat} {o:Oper} (ho:ops[i]? =some o) (h:zai ops i j=true):∃e∈o.after,Region.binds .any e=true/\e.on=j:=by
 unfold zai at h;rw[ho] at h;simp only[Option.map_some,Option.getD_some,Array.any_eq_true',Bool.and_eq_true,beq_iff_eq] at h;obtain⟨e,he,h1,h2⟩:=h;exact⟨e,he,h1,h2⟩
theorem GG.upd {base fb:Nat} {Fk:Nat->Fz} {S0:List Nat} {w0:World} {tab:Tb} {calls:List Nat} {bxs:List Bx} {a:Act} {l:Array Bool} {s:Act} {x:World} {k:Nat} {S:List Nat} {sv mv:Value}
  (G:GG ops base fb Fk S0 w0 tab calls bxs a l s x k S sv mv) (hnd:(zH tab).Nodup) (hlt:∀d,d∈zH tab->d<a.tmps.size)
  (hstab:∀(i:Nat) (d:Option Nat) (T:Kn),tab[i]? =some (d,T)->yS T) (hba:∀b∈bxs,tab[b.ia]? =some (some b.sl,Plc))
  {i:Nat} {d:Option Nat} {T:Kn} {v:Value} {x':World} {k':Nat} {S':List Nat} {sv' mv':Value} (hi:i<l.size) (hdv:tab[i]? =some (d,T)) (hnb:∀b∈bxs,i≠b.ia/\i≠b.is)
  (hcl:∀i' j,(l.setIfInBounds i true).getD i' false=true->zai ops i' j=true->(l.setIfInBounds i true).getD j false=true) (hcnt:∀(p c:Nat),calls[p]? =some c->((l.setIfInBounds i true).getD c false=true↔p<k')) (hkle:k'<=calls.length) (hF:Fr base fb (Fk k') S' sv' mv' x') (hkb:Kb S x x') (hsub:∀j∈S',j∈S\/x.heap.size<=j) (hv:d=none->v=undef) (hkk:((k',mv')=(k,mv)/\S'=S/\Below x.heap.size x x')\/(k<k'/\Kb S x x'/\∀k∈S',k∈S\/x.heap.size<=k)) (hT:T (k',mv') S' v x'):
  GG ops base fb Fk S0 w0 tab calls bxs a (l.setIfInBounds i true) (s.put d v) x' k' S' sv' mv':=by
 have hds:∀e,d=some e->e<s.tmps.size:=fun e he=>by rw[G.sz];exact hlt e (Yd (by rw[hdv,he]))
 have hother:∀(j:Nat) (dj:Option Nat) (Tj:Kn),tab[j]? =some (dj,Tj)->j≠i->yM (s.put d v) dj=yM s dj:=fun j dj Tj hj hne=>by
  cases dj with
  |none=>rfl
  |some e=>
   refine zaZ s d v e fun e' he'=>⟨hds e' he',fun h=> ?_⟩
   subst h;exact hne (zeS tab hnd j i e' Tj T hj (by rw[hdv,he']))
 have hslot:∀b∈bxs,(s.put d v).tmps.getD b.sl undef=s.tmps.getD b.sl undef:=fun b hb=>hother b.ia (some b.sl) Plc (hba b hb) (hnb b hb).1.symm
 refine⟨hcnt,hkle,hF,G.kb.trans hkb G.sub,fun j hj=> ?_, ?_, ?_,fun j hj=> ?_,fun j dj Tj hj hl=> ?_,fun b hb hl bl hbl=> ?_,fun b hb hl=> ?_,hcl,fun b hb b' hb' hne hl hl'=> ?_⟩
 ·rcases hsub j hj with h|h
  ·exact G.sub j h
  ·exact Or.inr (Nat.le_trans G.kb.size h)
 ·rw[<-G.sz];cases d<;>simp[Act.put]
 ·rw[<-G.df];cases d<;>rfl
 ·rw[<-G.out j hj];refine zaZ s d v j fun e he=>⟨hds e he,fun h=>hj ?_⟩
  subst h;exact Yd (by rw[hdv,he])
 ·by_cases e:j=i
  ·subst e;rw[hdv] at hj;obtain⟨rfl,rfl⟩:=Prod.mk.inj (Option.some.inj hj);cases d with
   |none=>rw[hv rfl] at hT;exact hT
   |some e'=>
    show T (k',mv') S' ((s.put (some e') v).tmps.getD e' undef) x';rw[zaf _ _ _ _ (hds e' rfl),if_pos rfl];exact hT
  ·rw[zP l i j hi,if_neg (fun h=>e h.symm)] at hl;rw[hother j dj Tj hj e];exact hstab j dj Tj hj (k,mv) (k',mv') S S' _ x x' (G.kn j dj Tj hj hl) hkk
 ·rw[zP l i b.ia hi,if_neg (hnb b hb).1] at hl;rw[hslot b hb] at hbl;rw[zP l i b.is hi,if_neg (hnb b hb).2];obtain⟨b0,e0,h0,_⟩:=G.kn b.ia (some b.sl) Plc (hba b hb) hl
  have e1:b0=bl:=by
   have:Value.pointer (some ⟨b0,0,none⟩)=Value.pointer (some ⟨bl,0,none⟩):=e0.symm.trans hbl;injection this with this
   injection this with this
   injection this
  subst e1;exact⟨(G.bx b hb hl _ hbl).1,hkb.row (G.bx b hb hl _ hbl).2 h0⟩
 ·rw[zP l i b.is hi,if_neg (hnb b hb).2] at hl;rw[zP l i b.ia hi,if_neg (hnb b hb).1];exact G.bc b hb hl
 ·rw[zP l i b.ia hi,if_neg (hnb b hb).1] at hl;rw[zP l i b'.ia hi,if_neg (hnb b' hb').1] at hl';rw[hslot b hb,hslot b' hb'];exact G.bd b hb b' hb' hne hl hl'
theorem zlo:∀{bxs:List Bx},(bxs.flatMap fun b=>[b.ia,b.is]).Nodup->∀{b b':Bx},b∈bxs->b'∈bxs->b.ia=b'.ia->b=b'
 |c::r,hn,b,b',hb,hb',h=>by
  have hn2:(c.ia::c.is::r.flatMap fun b=>[b.ia,b.is]).Nodup:=hn;obtain⟨h1,h2⟩:=List.nodup_cons.1 hn2;have h3:=(List.nodup_cons.1 h2).2;rcases List.mem_cons.1 hb with rfl|hb1<;>rcases List.mem_cons.1 hb' with rfl|hb2
  ·rfl
  ·exact absurd (List.mem_cons_of_mem _ (List.mem_flatMap.2 ⟨b',hb2,by simp[h]⟩)) h1
  ·exact absurd (List.mem_cons_of_mem _ (List.mem_flatMap.2 ⟨b,hb1,by simp[h]⟩)) h1
  ·exact zlo h3 hb1 hb2 h
theorem zih:∀{bxs:List Bx},(bxs.flatMap fun b=>[b.ia,b.is]).Nodup->∀{b b':Bx},b∈bxs->b'∈bxs->b.is=b'.is->b.ia=b'.ia
 |c::r,hn,b,b',hb,hb',h=>by
  have hn2:(c.ia::c.is::r.flatMap fun b=>[b.ia,b.is]).Nodup:=hn;obtain⟨h1,h2⟩:=List.nodup_cons.1 hn2;obtain⟨h4,h3⟩:=List.nodup_cons.1 h2;rcases List.mem_cons.1 hb with rfl|hb1<;>rcases List.mem_cons.1 hb' with rfl|hb2
  ·rfl
  ·exact absurd (List.mem_flatMap.2 ⟨b',hb2,by simp[h]⟩) h4
  ·exact absurd (List.mem_flatMap.2 ⟨b,hb1,by simp[h]⟩) h4
  ·exact zih h3 hb1 hb2 h
def zdN (ops:Array Oper):Nat->Nat->Nat->Bool
 |0,i,c=>zai ops i c
 |f+1,i,c=>zai ops i c||(List.range ops.size).any fun j=>zai ops i j&&zdN ops f j c
theorem zdO {l:Array Bool} (hcl:∀i j,l.getD i false=true->zai ops i j=true->l.getD j false=true):∀(f i c:Nat),(∀j,zai ops i j=true->l.getD j false=true)->zdN ops f i c=true->l.getD c false=true
 |0,i,c,hd,h=>hd c h
 |f+1,i,c,hd,h=>by
  unfold zdN at h;rcases(Bool.or_eq_true_iff.1 h) with h1|h1
  ·exact hd c h1
  ·obtain⟨j,_,h2⟩:=List.any_eq_true.1 h1;obtain⟨h3,h4⟩:=Bool.and_eq_true_iff.1 h2;exact zdO hcl f j c (fun k hk=>hcl j k (hd j h3) hk) h4
theorem YZ {id:Nat} {a:Act} {w:World} (hm:prog.follows .mixedOrders=true) (hdown:zfV ops=true)
  (base fb:Nat) (Fk:Nat->Fz) (S0:List Nat) (w0:World) (hw0:0<w0.heap.size) (tab:Tb) (calls:List Nat) (bxs:List Bx)
  (hlen:tab.length=ops.size) (hnd:decide (zH tab).Nodup=true) (hlt0:((zH tab).all fun d=>decide (d<a.tmps.size))=true)
  (hstab:∀(i:Nat) (d:Option Nat) (T:Kn),tab[i]? =some (d,T)->yS T) (hstabB:bxs≠[]->∀(i:Nat) (d:Option Nat) (T:Kn),tab[i]? =some (d,T)->zh7 T)
  (S1:List Nat) (sv1 mv1:Value) (hF:Fr base fb (Fk 0) S1 sv1 mv1 w.drew) (hK0:Kb S0 w0 w.drew) (hS0:∀j∈S1,j∈S0\/w0.heap.size<=j)
  (bas:List (Nat×Value)) (hbas:∀p∈bas,a.tmps.getD p.1 undef=p.2) (hapart:(bas.all fun p=> !(zH tab).contains p.1)=true)
  (hchain:((List.range (calls.length - 1)).all fun p=>zdN ops 3 (calls.getD (p+1) 0) (calls.getD p 0))=true)
  (hix:decide (calls++bxs.flatMap fun b=>[b.ia,b.is]).Nodup=true) (hcl:(calls.all fun c=>decide (c<ops.size))=true)
  (hba:∀b∈bxs,tab[b.ia]? =some (some b.sl,Plc)/\tab[b.is]? =some (none,Cst undef)/\zai ops b.is b.ia=true)
  (hq:∀(i:Nat) (o:Oper) (d:Option Nat) (T:Kn),ops[i]? =some o->tab[i]? =some (d,T)->i∉calls->(∀b∈bxs,i≠b.ia/\i≠b.is)->∀s x k S sv mv,Fr base fb (Fk k) S sv mv x->Kb S0 w0 x->(∀p∈bas,s.tmps.getD p.1 undef=p.2)->
   (∀e∈o.after,Region.binds .any e=true->∀(d':Option Nat) (T':Kn),tab[e.on]? =some (d',T')->T' (k,mv) S (yM s d') x)->
   (∀p c,calls[p]? =some c->zdN ops 3 c i=true->k<=p)->
   (Region.wanted o (yielded ops s.tmps)=true/\∀K:Act->World->Prop,(∀v x',Below x.heap.size x x'->(d=none->v=undef)->T (k,mv) S v x'->K (s.put d v) x')->Oper.wp prog o s x K Q))
  (hc:∀(p i:Nat) (o:Oper) (d:Option Nat) (T:Kn),calls[p]? =some i->ops[i]? =some o->tab[i]? =some (d,T)->∀s x S sv mv,Fr base fb (Fk p) S sv mv x->Kb S0 w0 x->(∀j∈S,j∈S0\/w0.heap.size<=j)->s.defers=a.defers->(∀p∈bas,s.tmps.getD p.1 undef=p.2)->
   (∀e∈o.after,Region.binds .any e=true->∀(d':Option Nat) (T':Kn),tab[e.on]? =some (d',T')->T' (p,mv) S (yM s d') x)->
   (Region.wanted o (yielded ops s.tmps)=true/\∀K:Act->World->Prop,(∀v S' sv' mv' x',Fr base fb (Fk (p+1)) S' sv' mv' x'->Kb S x x'->(∀j∈S',j∈S\/x.heap.size<=j)->(d=none->v=undef)->T (p+1,mv') S' v x'->K (s.put d v) x')->Oper.wp prog o s x K Q))
  (hal:∀b∈bxs,∀o,ops[b.ia]? =some o->∀s x,(Region.wanted o (yielded ops s.tmps)=true/\∀K:Act->World->Prop,K (s.put (some b.sl) (.pointer (some ⟨x.heap.size,0,none⟩))) (x.alloc zw)->Oper.wp prog o s x K Q))
  (hst:∀b∈bxs,∀o,ops[b.is]? =some o->∀s x bl f S c,s.tmps.getD b.sl undef=.pointer (some ⟨bl,0,none⟩)->x.rowIs bl 24 4 f->
   (∀e∈o.after,Region.binds .any e=true->∀(d':Option Nat) (T':Kn),tab[e.on]? =some (d',T')->T' c S (yM s d') x)->
   (Region.wanted o (yielded ops s.tmps)=true/\∀K:Act->World->Prop,K (s.put none undef) (put4 x bl b.n)->Oper.wp prog o s x K Q))
  (hdone:∀(vs:List Value) x S sv mv,Fr base fb (Fk calls.length) S sv mv x->Kb S0 w0 x->(∀j∈S,j∈S0\/w0.heap.size<=j)->vs.length=tab.length->(∀(i:Nat) (d:Option Nat) (T:Kn),tab[i]? =some (d,T)->T (calls.length,mv) S (vs.getD i undef) x)->
   (∀b∈bxs,∀bl,vs.getD b.ia undef=.pointer (some ⟨bl,0,none⟩)->w0.heap.size<=bl/\x.rowIs bl 24 4 (zo (za b.n)))->Q .normal (zF a (zcY tab vs)) x):
  (Code.region id ops true).wp prog Q a w:=by
 have hnd:=of_decide_eq_true hnd;have hix:=of_decide_eq_true hix;have hlt:∀d,d∈zH tab->d<a.tmps.size:=fun d hd=>of_decide_eq_true (List.all_eq_true.1 hlt0 d hd)
 have hap:∀p∈bas,p.1∉zH tab:=fun p hp hm=>by
  have:=List.all_eq_true.1 hapart p hp;simp only[Bool.not_eq_true',List.contains_eq_mem,decide_eq_false_iff_not] at this;exact this hm
 have hnotc:∀b∈bxs,b.ia∉calls/\b.is∉calls:=fun b hb=>by
  have hd:=(List.nodup_append.1 hix).2.2;exact⟨fun h=>hd b.ia h b.ia (List.mem_flatMap.2 ⟨b,hb,by simp⟩) rfl,fun h=>hd b.is h b.is (List.mem_flatMap.2 ⟨b,hb,by simp⟩) rfl⟩
 have hbp:∀b∈bxs,tab[b.ia]? =some (some b.sl,Plc):=fun b hb=>(hba b hb).1
 refine zc1 hm hdown (fun l s x=>∃k S sv mv,GG ops base fb Fk S0 w0 tab calls bxs a l s x k S sv mv) ?_ ?_ ?_
 ·have hrep:∀j,(Array.replicate ops.size false).getD j false=false:=fun j=>by
   rw[Array.getD_eq_getD_getElem?,Array.getElem?_replicate];split<;>rfl
  exact⟨0,S1,sv1,mv1,⟨fun p c _=>(by rw[hrep];simp),Nat.zero_le _,hF,hK0,hS0,rfl,rfl,fun _ _=>rfl,fun i d T _ hl=>(by rw[hrep] at hl;cases hl),fun b _ hl=>(by rw[hrep] at hl;cases hl),fun b _ hl=>(by rw[hrep] at hl;cases hl),fun i j hl=>(by rw[hrep] at hl;cases hl),fun b _ b' _ _ hl=>(by rw[hrep] at hl;cases hl)⟩⟩
 ·rintro l i o hls ho hnl hdep s x ⟨k,S,sv,mv,G⟩;have hio:i<ops.size:=(Array.getElem?_eq_some_iff.1 ho).1;have hil:i<l.size:=by omega
  obtain⟨⟨d,T⟩,hdv⟩:∃p,tab[i]? =some p:=⟨_,List.getElem?_eq_getElem (by omega)⟩;have hb':∀p∈bas,s.tmps.getD p.1 undef=p.2:=fun p hp=>(G.out p.1 (hap p hp)).trans (hbas p hp)
  have hdp:∀e∈o.after,Region.binds .any e=true->∀(d':Option Nat) (T':Kn),tab[e.on]? =some (d',T')->T' (k,mv) S (yM s d') x:=fun e he hb d' T' h=>G.kn _ _ _ h (hdep e he hb)
  have hdj:∀j,zai ops i j=true->l.getD j false=true:=fun j hj=>by
   obtain⟨e,he,hb,hon⟩:=zhj ho hj;exact hon▸hdep e he hb
  have hcl2:∀i' j,(l.setIfInBounds i true).getD i' false=true->zai ops i' j=true->(l.setIfInBounds i true).getD j false=true:=fun i' j h1 h2=>by
   rw[zP l i j hil];by_cases e:i=j
   ·rw[if_pos e]
   ·rw[if_neg e];rw[zP l i i' hil] at h1;by_cases e2:i=i'
    ·subst e2;exact hdj j h2
    ·rw[if_neg e2] at h1;exact G.cl i' j h1 h2
  refine wpOp_step ho fun K hK=> ?_
  by_cases hic:i∈calls
  ·obtain⟨p,hp⟩:=List.getElem?_of_mem hic;have hcn:calls.Nodup:=(List.nodup_append.1 hix).1
   have hkp:k=p:=by
    have h1:¬p<k:=fun h=>by rw[(G.cnt p i hp).2 h] at hnl;cases hnl
    cases p with
    |zero=>omega
    |succ q=>
     have hq2:q<calls.length:=by have:=(List.getElem?_eq_some_iff.1 hp).1;omega
     have h2:=List.all_eq_true.1 hchain q (List.mem_range.2 (by have:=(List.getElem?_eq_some_iff.1 hp).1;omega));rw[List.getD_eq_getElem?_getD,hp,Option.getD_some] at h2;have h3:=zdO G.cl 3 i _ hdj h2;rw[List.getD_eq_getElem?_getD,List.getElem?_eq_getElem hq2,Option.getD_some] at h3;have h4:=(G.cnt q _ (List.getElem?_eq_getElem hq2)).1 h3;omega
   subst hkp;obtain⟨hw,hrun⟩:=hc k i o d T hp ho hdv s x S sv mv G.fr G.kb G.sub G.df hb' hdp;rw[if_pos hw];refine hrun K fun v S' sv' mv' x' hF' hkb hsub hv hT=>hK _ _ ⟨k+1,S',sv',mv',G.upd hnd hlt hstab hbp hil hdv (fun b hb=>⟨fun h=>(hnotc b hb).1 (h▸hic),fun h=>(hnotc b hb).2 (h▸hic)⟩) hcl2 (fun q c hqc=> ?_) (by have:=(List.getElem?_eq_some_iff.1 hp).1;omega) hF' hkb hsub hv (Or.inr ⟨Nat.lt_succ_self k,hkb,hsub⟩) hT⟩
   rw[zP l i c hil];by_cases e:i=c
   ·subst e;have:q=k:=(List.getElem?_inj (List.getElem?_eq_some_iff.1 hqc).1 hcn).1 (hqc.trans hp.symm);subst this;simp
   ·rw[if_neg e,G.cnt q c hqc];have:q≠k:=fun h=>e (by subst h;rw[hp] at hqc;exact Option.some.inj hqc)
    omega
  ·have hcnt':∀(p c:Nat),calls[p]? =some c->((l.setIfInBounds i true).getD c false=true↔p<k):=fun p c hpc=>by
    rw[zP l i c hil,if_neg (fun h=>hic (by rw[h];exact List.mem_of_getElem? hpc))];exact G.cnt p c hpc
   by_cases hia:∃b∈bxs,i=b.ia
   ·obtain⟨b,hb,rfl⟩:=hia;obtain⟨hw,hrun⟩:=hal b hb o ho s x;have hbs:b.sl<s.tmps.size:=by rw[G.sz];exact hlt _ (Yd (hbp b hb))
    have hget:(s.put (some b.sl) (.pointer (some ⟨x.heap.size,0,none⟩))).tmps.getD b.sl undef=.pointer (some ⟨x.heap.size,0,none⟩):=by rw[zaf _ _ _ _ hbs,if_pos rfl]
    have hother:∀(j:Nat) (dj:Option Nat) (Tj:Kn),tab[j]? =some (dj,Tj)->j≠b.ia->yM (s.put (some b.sl) (.pointer (some ⟨x.heap.size,0,none⟩))) dj=yM s dj:=fun j dj Tj hj hne=>by
     cases dj with
     |none=>rfl
     |some e=>
      refine zaZ s (some b.sl) _ e fun e' he'=> ?_
      obtain rfl:=Option.some.inj he';exact⟨hbs,fun h=>hne (zeS tab hnd j b.ia e Tj Plc hj (by rw[hbp b hb,h]))⟩
    have hbel:Below x.heap.size x (x.alloc zw):=bal (Below.refl _ x) _;have hsame:∀b'∈bxs,b'.ia=b.ia->b'=b:=fun b' hb' h=>zlo (List.nodup_append.1 hix).2.1 hb' hb h
    rw[if_pos hw];refine hrun K (hK _ _ ⟨k,S,sv,mv,hcnt',G.kle,G.fr.below hbel,G.kb.alloc _,G.sub,by rw[za1];exact G.sz,by rw[zcz];exact G.df,fun j hj=> ?_,fun j dj Tj hj hl=> ?_,fun b' hb' hl bl hbl=> ?_,fun b' hb' hl=> ?_,hcl2,fun b1 hb1 b2 hb2 hne hl1 hl2=> ?_⟩)
    ·rw[<-G.out j hj];refine zaZ s (some b.sl) _ j fun e he=> ?_
     obtain rfl:=Option.some.inj he;exact⟨hbs,fun h=>hj (h▸Yd (hbp b hb))⟩
    ·by_cases e:j=b.ia
     ·subst e;rw[hbp b hb] at hj;obtain⟨rfl,rfl⟩:=Prod.mk.inj (Option.some.inj hj);exact⟨x.heap.size,hget,fun hm=>Nat.lt_irrefl _ (G.fr.footlt _ hm),by simp⟩
     ·rw[zP l b.ia j hil,if_neg (fun h=>e h.symm)] at hl;rw[hother j dj Tj hj e];exact hstab j dj Tj hj (k,mv) (k,mv) S S _ x _ (G.kn j dj Tj hj hl) (Or.inl ⟨rfl,rfl,hbel⟩)
    ·by_cases e:b'.ia=b.ia
     ·obtain rfl:=hsame b' hb' e;rw[hget] at hbl;injection hbl with hbl
      injection hbl with hbl
      injection hbl with hbl
      subst hbl
      have hns:l.getD b'.is false=false:=by
       cases h:l.getD b'.is false
       ·rfl
       ·rw[G.bc b' hb' h] at hnl;cases hnl
      have hne2:¬b'.ia=b'.is:=fun h=>by have h9:=(hba b' hb').2.1;rw[<-h,hbp b' hb'] at h9;cases h9
      rw[zP l b'.ia b'.is hil,if_neg hne2,hns];exact⟨G.kb.size,zk (fun _=>0) rfl rfl rfl rfl rfl⟩
     ·rw[zP l b.ia b'.ia hil,if_neg (fun h=>e h.symm)] at hl;have h2:(s.put (some b.sl) (.pointer (some ⟨x.heap.size,0,none⟩))).tmps.getD b'.sl undef=s.tmps.getD b'.sl undef:=hother b'.ia (some b'.sl) Plc (hbp b' hb') e;rw[h2] at hbl;have hne2:¬b.ia=b'.is:=fun h=>by have:=(hba b' hb').2.1;rw[<-h,hbp b hb] at this;cases this
      rw[zP l b.ia b'.is hil,if_neg hne2];exact⟨(G.bx b' hb' hl bl hbl).1,(G.bx b' hb' hl bl hbl).2.alloc _⟩
    ·have hne2:¬b.ia=b'.is:=fun h=>by have:=(hba b' hb').2.1;rw[<-h,hbp b hb] at this;cases this
     rw[zP l b.ia b'.is hil,if_neg hne2] at hl;rw[zP l b.ia b'.ia hil];by_cases e:b.ia=b'.ia
     ·rw[if_pos e]
     ·rw[if_neg e];exact G.bc b' hb' hl
    ·rw[zP l b.ia b1.ia hil] at hl1;rw[zP l b.ia b2.ia hil] at hl2;by_cases e1:b.ia=b1.ia
     ·obtain rfl:=hsame b1 hb1 e1.symm;rw[if_neg hne] at hl2;rw[hget,show(s.put (some b1.sl) (.pointer (some ⟨x.heap.size,0,none⟩))).tmps.getD b2.sl undef=s.tmps.getD b2.sl undef from hother b2.ia (some b2.sl) Plc (hbp b2 hb2) (Ne.symm hne)];obtain⟨b0,e0,_,h0⟩:=G.kn b2.ia (some b2.sl) Plc (hbp b2 hb2) hl2;intro h;have:Value.pointer (some ⟨x.heap.size,0,none⟩)=Value.pointer (some ⟨b0,0,none⟩):=h.trans e0;injection this with this
      injection this with this
      injection this with this
      omega
     ·rw[if_neg e1] at hl1;have h1:(s.put (some b.sl) (.pointer (some ⟨x.heap.size,0,none⟩))).tmps.getD b1.sl undef=s.tmps.getD b1.sl undef:=hother b1.ia (some b1.sl) Plc (hbp b1 hb1) (fun h=>e1 h.symm);by_cases e2:b.ia=b2.ia
      ·obtain rfl:=hsame b2 hb2 e2.symm;rw[hget,h1];obtain⟨b0,e0,_,h0⟩:=G.kn b1.ia (some b1.sl) Plc (hbp b1 hb1) hl1;intro h;have:Value.pointer (some ⟨b0,0,none⟩)=Value.pointer (some ⟨x.heap.size,0,none⟩):=e0.symm.trans h;injection this with this
       injection this with this
       injection this with this
       omega
      ·rw[if_neg e2] at hl2;rw[h1,show(s.put (some b.sl) (.pointer (some ⟨x.heap.size,0,none⟩))).tmps.getD b2.sl undef=s.tmps.getD b2.sl undef from hother b2.ia (some b2.sl) Plc (hbp b2 hb2) (fun h=>e2 h.symm)];exact G.bd b1 hb1 b2 hb2 hne hl1 hl2
   ·by_cases his:∃b∈bxs,i=b.is
    ·obtain⟨b,hb,rfl⟩:=his;obtain⟨e,he,hbi,hon⟩:=zhj ho (hba b hb).2.2;have hla:l.getD b.ia false=true:=hon▸hdep e he hbi;obtain⟨bl,e0,h0,h1⟩:=G.kn b.ia (some b.sl) Plc (hbp b hb) hla;obtain⟨g1,g2⟩:=G.bx b hb hla bl e0;obtain⟨hw,hrun⟩:=hst b hb o ho s x bl _ S (k,mv) e0 g2 hdp;have hkb:=put4_kb x bl b.n;have hne:bxs≠[]:=fun h=>by rw[h] at hb;cases hb
     rw[if_pos hw];refine hrun K (hK _ _ ⟨k,S,sv,mv,hcnt',G.kle,G.fr.kb hkb (fun j hj=>by simp;exact fun h=>h0 (h▸hj)) (by simp;omega) (fun g N f hr hm=>yW hr g2 tb1 (by simpa using hm)),G.kb.trans hkb (fun j hj=>Or.inr (by simp at hj;rw[hj];exact g1)),G.sub,G.sz,G.df,G.out,fun j dj Tj hj hl=> ?_,fun b' hb' hl bl' hbl=> ?_,fun b' hb' hl=> ?_,hcl2,fun b1 hb1 b2 hb2 hne hl1 hl2=> ?_⟩)
     ·by_cases e2:j=b.is
      ·subst e2;rw[(hba b hb).2.1] at hj;obtain⟨rfl,rfl⟩:=Prod.mk.inj (Option.some.inj hj);rfl
      ·rw[zP l b.is j hil,if_neg (fun h=>e2 h.symm)] at hl;exact hstabB hne j dj Tj hj _ S _ x _ (G.kn j dj Tj hj hl) hkb.size
     ·have hne2:¬b.is=b'.ia:=fun h=>hia ⟨b',hb',h⟩
      rw[zP l b.is b'.ia hil,if_neg hne2] at hl;have hbl2:s.tmps.getD b'.sl undef=.pointer (some ⟨bl',0,none⟩):=hbl;by_cases e2:b'.ia=b.ia
      ·obtain rfl:=zlo (List.nodup_append.1 hix).2.1 hb' hb e2
       have:bl=bl':=by
        have:Value.pointer (some ⟨bl,0,none⟩)=Value.pointer (some ⟨bl',0,none⟩):=e0.symm.trans hbl2;injection this with this
        injection this with this
        injection this
       subst this;rw[zP l b'.is b'.is hil,if_pos rfl,if_pos rfl];exact⟨g1,zx g2 (za b'.n) rfl rfl rfl rfl⟩
      ·have hsd:=G.bd b' hb' b hb e2 hl hla;obtain⟨g3,g4⟩:=G.bx b' hb' hl bl' hbl2;have hbb:bl'≠bl:=fun h=>hsd (by rw[hbl2,h];exact e0.symm)
       have hne3:¬b.is=b'.is:=fun h=>e2 (zih (List.nodup_append.1 hix).2.1 hb' hb h.symm)
       rw[zP l b.is b'.is hil,if_neg hne3];exact⟨g3,hkb.row g4 (by simpa using hbb)⟩
     ·have hne2:¬b.is=b'.ia:=fun h=>hia ⟨b',hb',h⟩
      rw[zP l b.is b'.ia hil,if_neg hne2];rw[zP l b.is b'.is hil] at hl;by_cases e2:b.is=b'.is
      ·rw[<-zih (List.nodup_append.1 hix).2.1 hb hb' e2];exact hla
      ·rw[if_neg e2] at hl;exact G.bc b' hb' hl
     ·rw[zP l b.is b1.ia hil,if_neg (fun h=>hia ⟨b1,hb1,h⟩)] at hl1;rw[zP l b.is b2.ia hil,if_neg (fun h=>hia ⟨b2,hb2,h⟩)] at hl2;exact G.bd b1 hb1 b2 hb2 hne hl1 hl2
    ·have hnb:∀b∈bxs,i≠b.ia/\i≠b.is:=fun b hb=>⟨fun h=>hia ⟨b,hb,h⟩,fun h=>his ⟨b,hb,h⟩⟩
     obtain⟨hw,hrun⟩:=hq i o d T ho hdv hic hnb s x k S sv mv G.fr G.kb hb' hdp (fun p c hpc han=>by
      refine Nat.le_of_not_lt fun hlt2=> ?_
      have hdone:=(G.cnt p c hpc).2 hlt2;have:=zdO G.cl 3 c i (fun j hj=>G.cl c j hdone hj) han;rw[this] at hnl;cases hnl)
     rw[if_pos hw];refine hrun K fun v x' hbel hv hT=>hK _ _ ⟨k,S,sv,mv,G.upd hnd hlt hstab hbp hil hdv hnb hcl2 hcnt' G.kle (G.fr.below hbel) (Kb.of_below hbel) (fun j hj=>Or.inl hj) hv (Or.inl ⟨rfl,rfl,hbel⟩) hT⟩
 ·rintro l s x hls hall ⟨k,S,sv,mv,G⟩
  have hk:k=calls.length:=by
   refine Nat.le_antisymm G.kle (Nat.le_of_not_lt fun h=> ?_);have h1:=List.getElem?_eq_getElem h;have h2:=(G.cnt k _ h1).1 (hall _ (of_decide_eq_true (List.all_eq_true.1 hcl _ (List.getElem_mem h))));omega
  subst hk
  have hmemt:∀p∈(zH tab).map (fun d=>(d,s.tmps.getD d undef)),p.1<a.tmps.size:=fun p hp=>by
   obtain⟨d,hd,rfl⟩:=List.mem_map.1 hp;exact hlt d hd
  have hfst:((zH tab).map (fun d=>(d,s.tmps.getD d undef))).map Prod.fst=zH tab:=by simp[List.map_map,Function.comp_def]
  have e:s=zF a (zcY tab (tab.map fun p=>yM s p.1)):=by
   rw[zdu];refine zmv (by rw[zdS,G.sz]) (by rw[zbP,G.df]) fun k _=> ?_
   by_cases hk:k∈zH tab
   ·rw[zit _ a k (s.tmps.getD k undef) hmemt (by rw[hfst];exact hnd) (List.mem_map.2 ⟨k,hk,rfl⟩)]
   ·rw[G.out k hk,zcV _ a k hmemt fun p hp e=>hk (by obtain⟨d,hd,rfl⟩:=List.mem_map.1 hp;exact e▸hd)]
  have hat:∀(i:Nat) (d:Option Nat) (T:Kn),tab[i]? =some (d,T)->(tab.map fun p=>yM s p.1).getD i undef=yM s d:=fun i d T h=>by rw[List.getD_eq_getElem?_getD,List.getElem?_map,h];rfl
  have hli:∀(i:Nat) (d:Option Nat) (T:Kn),tab[i]? =some (d,T)->l.getD i false=true:=fun i d T h=>hall i (by rw[<-hlen];exact(List.getElem?_eq_some_iff.1 h).1)
  have h:=hdone (tab.map fun p=>yM s p.1) x S sv mv G.fr G.kb G.sub (by simp) (fun i d T h=>by rw[hat i d T h];exact G.kn i d T h (hli i d T h)) (fun b hb bl hbl=>by
   rw[hat b.ia (some b.sl) Plc (hbp b hb)] at hbl;have h2:=G.bx b hb (hli _ _ _ (hbp b hb)) bl hbl;rw[if_pos (hli _ _ _ (hba b hb).2.1)] at h2;exact h2)
  rwa[<-e] at h
end
section
variable {ops:Array Oper} {Q:Exit->Act->World->Prop}
abbrev Kp:=Nat->Value->World->Prop
def kn (T:Kp):Kn:=fun c _ v x=>T c.1 v x
abbrev Tp:=List (Option Nat×Kp)
def tbp (t:Tp):Tb:=t.map fun p=>(p.1,kn p.2)
theorem zpZ {t:Tp} {i:Nat} {d:Option Nat} {T:Kn} (h:(tbp t)[i]? =some (d,T)):∃U,t[i]? =some (d,U)/\T=kn U:=by
 unfold tbp at h;rw[List.getElem?_map] at h;cases e:t[i]? with
 |none=>rw[e] at h;cases h
 |some p=>
  rw[e] at h;obtain⟨h1,h2⟩:=Prod.mk.inj (Option.some.inj h);exact⟨p.2,by rw[<-h1],h2.symm⟩
theorem zhq {t:Tp} {i:Nat} {d:Option Nat} {U:Kp} (h:t[i]? =some (d,U)):(tbp t)[i]? =some (d,kn U):=by
 unfold tbp;rw[List.getElem?_map,h];rfl
structure GP (ops:Array Oper) (Ph:Nat->World->Prop) (tab:Tb) (calls:List Nat) (a:Act) (l:Array Bool) (s:Act) (x:World) (k:Nat):Prop where
 cnt:∀(p c:Nat),calls[p]? =some c->(l.getD c false=true↔p<k)
 kle:k<=calls.length
 ph:Ph k x
 sz:s.tmps.size=a.tmps.size
 df:s.defers=a.defers
 out:∀j,j∉zH tab->s.tmps.getD j undef=a.tmps.getD j undef
 kn:∀(i:Nat) (d:Option Nat) (T:Kn),tab[i]? =some (d,T)->l.getD i false=true->T (k,undef) [] (yM s d) x
 cl:∀i j,l.getD i false=true->zai ops i j=true->l.getD j false=true
end
section
variable {ops:Array Oper} {Q:Exit->Act->World->Prop}
theorem GP.upd2 {Ph:Nat->World->Prop} {tab:Tb} {calls:List Nat} {a:Act} {l:Array Bool} {s:Act} {x:World} {k:Nat}
  (G:GP ops Ph tab calls a l s x k) (hnd:(zH tab).Nodup) (hlt:∀d,d∈zH tab->d<a.tmps.size)
  {i:Nat} {d:Option Nat} {T:Kn} {v:Value} {x':World} {k':Nat} (hi:i<l.size) (hdv:tab[i]? =some (d,T))
  (hcl:∀i' j,(l.setIfInBounds i true).getD i' false=true->zai ops i' j=true->(l.setIfInBounds i true).getD j false=true) (hcnt:∀(p c:Nat),calls[p]? =some c->((l.setIfInBounds i true).getD c false=true↔p<k')) (hkle:k'<=calls.length) (hF:Ph k' x') (hv:d=none->v=undef) (hT:T (k',undef) [] v x')
  (hst:∀(j:Nat) (dj:Option Nat) (Tj:Kn),tab[j]? =some (dj,Tj)->j≠i->Tj (k,undef) [] (yM s dj) x->Tj (k',undef) [] (yM s dj) x'):GP ops Ph tab calls a (l.setIfInBounds i true) (s.put d v) x' k':=by
 have hds:∀e,d=some e->e<s.tmps.size:=fun e he=>by rw[G.sz];exact hlt e (Yd (by rw[hdv,he]))
 have hother:∀(j:Nat) (dj:Option Nat) (Tj:Kn),tab[j]? =some (dj,Tj)->j≠i->yM (s.put d v) dj=yM s dj:=fun j dj Tj hj hne=>by
  cases dj with
  |none=>rfl
  |some e=>
   refine zaZ s d v e fun e' he'=>⟨hds e' he',fun h=> ?_⟩
   subst h;exact hne (zeS tab hnd j i e' Tj T hj (by rw[hdv,he']))
 refine⟨hcnt,hkle,hF, ?_, ?_,fun j hj=> ?_,fun j dj Tj hj hl=> ?_,hcl⟩
 ·cases d with
  |none=>exact G.sz
  |some e=>rw[za1];exact G.sz
 ·cases d with
  |none=>exact G.df
  |some e=>rw[zcz];exact G.df
 ·rw[<-G.out j hj];exact zaZ s d v j fun e he=>⟨hds e he,fun h=>hj (h▸Yd (by rw[hdv,he]))⟩
 ·by_cases e:j=i
  ·subst e;rw[hdv] at hj;obtain⟨rfl,rfl⟩:=Prod.mk.inj (Option.some.inj hj);cases d with
   |none=>rw[hv rfl] at hT;exact hT
   |some e=>
    have:yM (s.put (some e) v) (some e)=v:=by
     show(s.put (some e) v).tmps.getD e undef=v;rw[zaf _ _ _ _ (hds e rfl),if_pos rfl]
    rw[this];exact hT
  ·rw[zP l i j hi,if_neg (fun h=>e h.symm)] at hl;rw[hother j dj Tj hj e];exact hst j dj Tj hj e (G.kn j dj Tj hj hl)
def zhH (ops:Array Oper) (tab:Tp) (bas:List (Nat×Value)):Bool:=(bas.all fun p=> !(zH (tbp tab)).contains p.1)||
 (((List.range ops.size).all fun j=>j==ops.size - 1||zai ops (ops.size - 1) j)&&((List.range tab.length).all fun j=>j==ops.size - 1||(match tab[j]? with
  |some (some d,_)=>bas.all fun p=> !(d==p.1)
  |_=>true)))
theorem zed {ops:Array Oper} {tab:Tp} {bas:List (Nat×Value)} (h:zhH ops tab bas=true):(∀p∈bas,p.1∉zH (tbp tab))\/((∀j,j<ops.size->j≠ops.size - 1->zai ops (ops.size - 1) j=true)/\∀(i:Nat) (q:Option Nat×Kp),tab[i]? =some q->¬i=ops.size - 1->∀p∈bas,∀{e:Nat},q.1=some e->¬e=p.1):=by
 unfold zhH at h;rw[Bool.or_eq_true] at h;rcases h with h|h
 ·left;intro p hp hm;have:=List.all_eq_true.1 h p hp;simp only[Bool.not_eq_true',List.contains_eq_mem,decide_eq_false_iff_not] at this;exact this hm
 ·right;rw[Bool.and_eq_true] at h;refine⟨fun j hj hne=> ?_,fun i q hq hne p hp e he e2=> ?_⟩
  ·have:=List.all_eq_true.1 h.1 j (List.mem_range.2 hj);rw[Bool.or_eq_true] at this;rcases this with h2|h2
   ·exact absurd (by simpa using h2) hne
   ·exact h2
  ·have:=List.all_eq_true.1 h.2 i (List.mem_range.2 (List.getElem?_eq_some_iff.1 hq).1);rw[Bool.or_eq_true] at this;rcases this with h2|h2
   ·exact hne (by simpa using h2)
   ·obtain⟨d,T⟩:=q;dsimp only at he;subst he;rw[hq] at h2;have:=List.all_eq_true.1 h2 p hp;simp[e2] at this
theorem zhY (B:World->World->Prop) {id:Nat} {a:Act} {w:World} (hm:prog.follows .mixedOrders=true) (hdown:zfV ops=true) (Ph:Nat->World->Prop) (Rel:Nat->Act->World->World->Prop) (tab:Tp) (calls:List Nat)
  (hlen:tab.length=ops.size) (hnd:decide (zH (tbp tab)).Nodup=true) (hlt0:((zH (tbp tab)).all fun d=>decide (d<a.tmps.size))=true) (h0:Ph 0 w.drew)
  (bas:List (Nat×Value)) (hbas:∀p∈bas,a.tmps.getD p.1 undef=p.2) (hapart:zhH ops tab bas=true)
  (hchain:((List.range (calls.length - 1)).all fun q=>zdN ops 3 (calls.getD (q+1) 0) (calls.getD q 0))=true) (hcn:decide calls.Nodup=true) (hcl:(calls.all fun c=>decide (c<ops.size))=true)
  (hstab:∀(j:Nat) (d:Option Nat) (T:Kp),tab[j]? =some (d,T)->∀p s x x',calls[p]? ≠some j->p<calls.length->Ph p x->Rel p s x x'->T p (yM s d) x->T (p+1) (yM s d) x')
  (hst2:∀(j:Nat) (d:Option Nat) (T:Kp),tab[j]? =some (d,T)->∀p v x x',Ph p x->B x x'->T p v x->T p v x')
  (hpure:∀(i:Nat) (o:Oper) (d:Option Nat) (T:Kp),ops[i]? =some o->tab[i]? =some (d,T)->i∉calls->∀k s x,k<=calls.length->(∀q c,calls[q]? =some c->zdN ops 3 i c=true->q<k)->(∀q c,calls[q]? =some c->zdN ops 3 c i=true->k<=q)->Ph k x->s.defers=a.defers->(∀p∈bas,s.tmps.getD p.1 undef=p.2)->
   (∀e∈o.after,Region.binds .any e=true->∀(d':Option Nat) (T':Kp),tab[e.on]? =some (d',T')->T' k (yM s d') x)->
   (Region.wanted o (yielded ops s.tmps)=true/\∀K:Act->World->Prop,(∀v x',Ph k x'->B x x'->(d=none->v=undef)->T k v x'->K (s.put d v) x')->Oper.wp prog o s x K Q))
  (himp:∀(p i:Nat) (o:Oper) (d:Option Nat) (T:Kp),calls[p]? =some i->ops[i]? =some o->tab[i]? =some (d,T)->∀s x,Ph p x->s.defers=a.defers->(∀p∈bas,s.tmps.getD p.1 undef=p.2)->
   (∀e∈o.after,Region.binds .any e=true->∀(d':Option Nat) (T':Kp),tab[e.on]? =some (d',T')->T' p (yM s d') x)->
   (Region.wanted o (yielded ops s.tmps)=true/\∀K:Act->World->Prop,(∀v x',Ph (p+1) x'->Rel p s x x'->(d=none->v=undef)->T (p+1) v x'->K (s.put d v) x')->Oper.wp prog o s x K Q))
  (hdone:∀(vs:List Value) x,Ph calls.length x->vs.length=tab.length->(∀(i:Nat) (d:Option Nat) (T:Kp),tab[i]? =some (d,T)->T calls.length (vs.getD i undef) x)->Q .normal (zF a (zcY (tbp tab) vs)) x):
  (Code.region id ops true).wp prog Q a w:=by
 have hnd:=of_decide_eq_true hnd;have hcn:=of_decide_eq_true hcn;have hlt:∀d,d∈zH (tbp tab)->d<a.tmps.size:=fun d hd=>of_decide_eq_true (List.all_eq_true.1 hlt0 d hd)
 have hlen2:(tbp tab).length=ops.size:=by unfold tbp;simpa using hlen
 refine zc1 hm hdown (fun l s x=>∃k,GP ops Ph (tbp tab) calls a l s x k/\(l.getD (ops.size - 1) false=false->∀p∈bas,s.tmps.getD p.1 undef=p.2)) ?_ ?_ ?_
 ·have hrep:∀j,(Array.replicate ops.size false).getD j false=false:=fun j=>by
   rw[Array.getD_eq_getD_getElem?,Array.getElem?_replicate];split<;>rfl
  exact⟨0,⟨fun p c _=>(by rw[hrep];simp),Nat.zero_le _,h0,rfl,rfl,fun _ _=>rfl,fun i d T _ hl=>(by rw[hrep] at hl;cases hl),fun i j hl=>(by rw[hrep] at hl;cases hl)⟩,fun _=>hbas⟩
 ·rintro l i o hls ho hnl hdep s x ⟨k,G,hBb⟩;have hio:i<ops.size:=(Array.getElem?_eq_some_iff.1 ho).1;have hil:i<l.size:=by omega
  obtain⟨⟨d,U⟩,hdu⟩:∃p,tab[i]? =some p:=⟨_,List.getElem?_eq_getElem (by omega)⟩;have hdv:=zhq hdu
  have hb':∀p∈bas,s.tmps.getD p.1 undef=p.2:=by
   rcases zed hapart with ha|⟨hdl,_⟩
   ·exact fun p hp=>(G.out p.1 (ha p hp)).trans (hbas p hp)
   ·refine hBb ?_;cases hll:l.getD (ops.size - 1) false with
    |false=>rfl
    |true=>
     by_cases e:i=ops.size - 1
     ·rw[<-e,hnl] at hll;cases hll
     ·have:=G.cl (ops.size - 1) i hll (hdl i hio e);rw[hnl] at this;cases this
  have hBbn:∀v,(l.setIfInBounds i true).getD (ops.size - 1) false=false->∀p∈bas,(s.put d v).tmps.getD p.1 undef=p.2:=fun v hl p hp=>by
   refine Eq.trans ?_ (hb' p hp);cases d with
   |none=>rfl
   |some e=>
    have hds:e<s.tmps.size:=by rw[G.sz];exact hlt e (Yd hdv)
    rw[zaf _ _ _ _ hds];refine if_neg fun he=> ?_
    rcases zed hapart with ha|⟨_,hd⟩
    ·exact ha p hp (by rw[he];exact Yd hdv)
    ·refine hd i _ hdu (fun e9=> ?_) p hp rfl he.symm;rw[zP l i _ hil,if_pos e9] at hl;cases hl
  have hdp:∀e∈o.after,Region.binds .any e=true->∀(d':Option Nat) (T':Kp),tab[e.on]? =some (d',T')->T' k (yM s d') x:=fun e he hb d' T' h=>G.kn _ _ _ (zhq h) (hdep e he hb)
  have hdj:∀j,zai ops i j=true->l.getD j false=true:=fun j hj=>by
   obtain⟨e,he,hb,hon⟩:=zhj ho hj;exact hon▸hdep e he hb
  have hcl2:∀i' j,(l.setIfInBounds i true).getD i' false=true->zai ops i' j=true->(l.setIfInBounds i true).getD j false=true:=fun i' j h1 h2=>by
   rw[zP l i j hil];by_cases e:i=j
   ·rw[if_pos e]
   ·rw[if_neg e];rw[zP l i i' hil] at h1;by_cases e2:i=i'
    ·subst e2;exact hdj j h2
    ·rw[if_neg e2] at h1;exact G.cl i' j h1 h2
  refine wpOp_step ho fun K hK=> ?_
  by_cases hic:i∈calls
  ·obtain⟨p,hp⟩:=List.getElem?_of_mem hic
   have hkp:k=p:=by
    have h1:¬p<k:=fun h=>by rw[(G.cnt p i hp).2 h] at hnl;cases hnl
    cases p with
    |zero=>omega
    |succ q=>
     have hq2:q<calls.length:=by have:=(List.getElem?_eq_some_iff.1 hp).1;omega
     have h2:=List.all_eq_true.1 hchain q (List.mem_range.2 (by have:=(List.getElem?_eq_some_iff.1 hp).1;omega));rw[List.getD_eq_getElem?_getD,hp,Option.getD_some] at h2;have h3:=zdO G.cl 3 i _ hdj h2;rw[List.getD_eq_getElem?_getD,List.getElem?_eq_getElem hq2,Option.getD_some] at h3;have h4:=(G.cnt q _ (List.getElem?_eq_getElem hq2)).1 h3;omega
   subst hkp;have hkl:=(List.getElem?_eq_some_iff.1 hp).1;obtain⟨hw,hrun⟩:=himp k i o d U hp ho hdu s x G.ph G.df hb' hdp;rw[if_pos hw];refine hrun K fun v x' hF' hr hv hT=>hK _ _ ⟨k+1,G.upd2 hnd hlt hil hdv hcl2 (fun q c hqc=> ?_) (by omega) hF' hv hT (fun j dj Tj hj hne hu=> ?_),hBbn v⟩
   ·rw[zP l i c hil];by_cases e:i=c
    ·subst e;have:q=k:=(List.getElem?_inj (List.getElem?_eq_some_iff.1 hqc).1 hcn).1 (hqc.trans hp.symm);subst this;simp
    ·rw[if_neg e,G.cnt q c hqc];have:q≠k:=fun h=>e (by subst h;rw[hp] at hqc;exact Option.some.inj hqc)
     omega
   ·obtain⟨Uj,h1,rfl⟩:=zpZ hj;exact hstab j dj Uj h1 k s x x' (fun h=>hne (Option.some.inj (h.symm.trans hp))) hkl G.ph hr hu
  ·have hcnt':∀(p c:Nat),calls[p]? =some c->((l.setIfInBounds i true).getD c false=true↔p<k):=fun p c hpc=>by
    rw[zP l i c hil,if_neg (fun h=>hic (by rw[h];exact List.mem_of_getElem? hpc))];exact G.cnt p c hpc
   obtain⟨hw,hrun⟩:=hpure i o d U ho hdu hic k s x G.kle (fun q c hq ha=>(G.cnt q c hq).1 (zdO G.cl 3 i c hdj ha)) (fun q c hq ha=>Nat.le_of_not_lt fun hlt=>by
    have h1:=(G.cnt q c hq).2 hlt;rw[zdO G.cl 3 c i (fun j hj=>G.cl c j h1 hj) ha] at hnl;cases hnl) G.ph G.df hb' hdp
   rw[if_pos hw]
   exact hrun K fun v x' hP hS hv hT=>hK _ _ ⟨k,G.upd2 hnd hlt hil hdv hcl2 hcnt' G.kle hP hv hT (fun j dj Tj hj hne hu=>by
    obtain⟨Uj,h1,rfl⟩:=zpZ hj;exact hst2 j dj Uj h1 k _ x x' G.ph hS hu),hBbn v⟩
 ·rintro l s x hls hall ⟨k,G, -⟩
  have hk:k=calls.length:=by
   refine Nat.le_antisymm G.kle (Nat.le_of_not_lt fun h=> ?_);have h1:=List.getElem?_eq_getElem h;have h2:=(G.cnt k _ h1).1 (hall _ (of_decide_eq_true (List.all_eq_true.1 hcl _ (List.getElem_mem h))));omega
  subst hk
  have hmemt:∀p∈(zH (tbp tab)).map (fun d=>(d,s.tmps.getD d undef)),p.1<a.tmps.size:=fun p hp=>by
   obtain⟨d,hd,rfl⟩:=List.mem_map.1 hp;exact hlt d hd
  have hfst:((zH (tbp tab)).map (fun d=>(d,s.tmps.getD d undef))).map Prod.fst=zH (tbp tab):=by simp[List.map_map,Function.comp_def]
  have e:s=zF a (zcY (tbp tab) ((tbp tab).map fun p=>yM s p.1)):=by
   rw[zdu];refine zmv (by rw[zdS,G.sz]) (by rw[zbP,G.df]) fun k _=> ?_
   by_cases hk:k∈zH (tbp tab)
   ·rw[zit _ a k (s.tmps.getD k undef) hmemt (by rw[hfst];exact hnd) (List.mem_map.2 ⟨k,hk,rfl⟩)]
   ·rw[G.out k hk,zcV _ a k hmemt fun p hp e=>hk (by obtain⟨d,hd,rfl⟩:=List.mem_map.1 hp;exact e▸hd)]
  have hat:∀(i:Nat) (d:Option Nat) (T:Kp),tab[i]? =some (d,T)->((tbp tab).map fun p=>yM s p.1).getD i undef=yM s d:=fun i d T h=>by rw[List.getD_eq_getElem?_getD,List.getElem?_map,zhq h];rfl
  have hli:∀(i:Nat) (d:Option Nat) (T:Kp),tab[i]? =some (d,T)->l.getD i false=true:=fun i d T h=>hall i (by rw[<-hlen];exact(List.getElem?_eq_some_iff.1 h).1)
  have h:=hdone ((tbp tab).map fun p=>yM s p.1) x G.ph (by simp[tbp]) (fun i d T h=>by rw[hat i d T h];exact G.kn i d _ (zhq h) (hli i d T h));rwa[<-e] at h
def Cp (c:Value):Kp:=fun _ v _=>v=c
end
abbrev En:=Value ⊕ Kp
abbrev En.v (c:Value):En:=.inl c
abbrev En.l (T:Kp):En:=.inr T
theorem En.l.injEq (T U:Kp):(En.l T=En.l U)=(T=U):=by simp
def En.kp:En->Kp
 |.inl c=>Cp c
 |.inr T=>T
def En.isV:En->Bool
 |.inl _=>true
 |.inr _=>false
abbrev Es:=List (Option Nat×En)
def zbA (es:Es):Tp:=es.map fun p=>(p.1,p.2.kp)
def zj4 (ops:Array Oper) (j t:Nat):Bool:=match ops[j]? with
 |some o=>o.dst==some t
 |none=>false
def onE (ops:Array Oper) (t:Nat):List Edge->Option Nat
 |[]=>none
 |e::r=>bif Region.binds .any e&&zj4 ops e.on t then some e.on else onE ops t r
def evE (ops:Array Oper) (bas:List (Nat×Value)) (es:Es) (o:Oper) (t:Nat):Option Value:=match bas.lookup t with
 |some c=>some c
 |none=>match onE ops t o.after.toList with
  |some j=>match es[j]? with
   |some (_,.inl c)=>some c
   |_=>none
  |none=>none
def elE (ops:Array Oper) (es:Es) (o:Oper) (t:Nat):Option Kp:=match onE ops t o.after.toList with
 |some j=>match es[j]? with
  |some (_,.inr T)=>some T
  |_=>none
 |none=>none
def zeU (env:Nat->Option Value) (s:Act):Operand->Value
 |.tmp t=>(env t).getD (s.tmps.getD t undef)
 |.const v=>v
 |.global g=>.pointer (some ⟨g,0,none⟩)
 |.func f=>.func (.func f) #[] #[]
def zo2 (ops:Array Oper) (es:Es) (o:Oper):Bool:=match o.guard with
 |none=>true
 |some (j,b)=>(o.after.toList.any fun e=>Region.binds .any e&&e.on==j)&&(match ops[j]? with
  |some og=>og.dst.isSome
  |none=>false)&&(match es[j]? with
  |some (_,.inl (.bool c))=>c==b
  |_=>false)
def feE (g:Nat->Value):Es->Nat->List (Nat×Value)
 |[],_=>[]
 |(none,_)::r,i=>feE g r (i+1)
 |(some d,.inl c)::r,i=>(d,c)::feE g r (i+1)
 |(some d,.inr _)::r,i=>(d,g i)::feE g r (i+1)
theorem Zj (g:Nat->Value) (i:Nat):feE g [] i=[]:=rfl
theorem yA (g:Nat->Value) (i:Nat) (E:En) (r:Es):feE g ((none,E)::r) i=feE g r (i+1):=rfl
theorem yx (g:Nat->Value) (i d:Nat) (c:Value) (r:Es):feE g ((some d,.v c)::r) i=(d,c)::feE g r (i+1):=rfl
theorem yB (g:Nat->Value) (i d:Nat) (T:Kp) (r:Es):feE g ((some d,.l T)::r) i=(d,g i)::feE g r (i+1):=rfl
theorem zq3 (vs:List Value):∀(es:Es) (i:Nat),i+es.length=vs.length->(∀j d c,es[j]? =some (d,.v c)->vs.getD (i+j) undef=c)->zcY (tbp (zbA es)) (vs.drop i)=feE (fun k=>vs.getD k undef) es i
 |[],i,hl,_=>by
  rw[List.drop_eq_nil_of_le (by simp at hl;omega)];rfl
 |(d,E)::r,i,hl,hv=>by
  have hi:i<vs.length:=by simp at hl;omega
  rw[List.drop_eq_getElem_cons hi];have ih:=zq3 vs r (i+1) (by simp at hl;omega) (fun j d c h=>by have:=hv (j+1) d c (by simpa using h);rwa[show i+(j+1)=i+1+j by omega] at this);have hg:vs[i]=vs.getD i undef:=by rw[List.getD_eq_getElem?_getD,List.getElem?_eq_getElem hi];rfl
  cases d with
  |none=>exact ih
  |some d=>
   cases E with
   |inl c=>
    have:=hv 0 (some d) c rfl;show(d,vs[i])::zcY (tbp (zbA r)) (vs.drop (i+1))=_;rw[hg,show vs.getD i undef=c from this,ih];rfl
   |inr T=>
    show(d,vs[i])::zcY (tbp (zbA r)) (vs.drop (i+1))=_;rw[hg,ih];rfl
theorem zeF {es:Es} {i:Nat} {d:Option Nat} {T:Kp} (h:(zbA es)[i]? =some (d,T)):∃E,es[i]? =some (d,E)/\T=E.kp:=by
 unfold zbA at h;rw[List.getElem?_map] at h;cases he:es[i]? with
 |none=>rw[he] at h;cases h
 |some p=>rw[he] at h;obtain⟨rfl,rfl⟩:=Prod.mk.inj (Option.some.inj h);exact⟨p.2,rfl,rfl⟩
theorem zeJ {es:Es} {i:Nat} {d:Option Nat} {E:En} (h:es[i]? =some (d,E)):(zbA es)[i]? =some (d,E.kp):=by
 unfold zbA;rw[List.getElem?_map,h];rfl
theorem zfk {ops:Array Oper} {t j:Nat}:∀{l:List Edge},onE ops t l=some j->∃e∈l,Region.binds .any e=true/\e.on=j/\zj4 ops j t=true
 |[],h=>by cases h
 |e::r,h=>by
  unfold onE at h;cases hb:(Region.binds .any e&&zj4 ops e.on t) with
  |true=>
   rw[hb] at h;obtain rfl:=Option.some.inj h;rw[Bool.and_eq_true] at hb;exact⟨e,List.mem_cons_self ..,hb.1,rfl,hb.2⟩
  |false=>
   rw[hb] at h;obtain⟨e',h1,h2⟩:=zfk (l:=r) h;exact⟨e',List.mem_cons_of_mem _ h1,h2⟩
def zkD (B:World->World->Prop) (ops:Array Oper) (bas:List (Nat×Value)) (es:Es) (calls:List Nat) (Ph:Nat->World->Prop) (df:List Deferred) (Q:Exit->Act->World->Prop) (i:Nat) (o:Oper) (d:Option Nat) (E:En):Prop:=
 ∀(k:Nat) (s:Act) (x:World),k<=calls.length->(∀q c,calls[q]? =some c->zdN ops 3 i c=true->q<k)->(∀q c,calls[q]? =some c->zdN ops 3 c i=true->k<=q)->Ph k x->s.defers=df->
  (∀t c,evE ops bas es o t=some c->s.tmps.getD t undef=c)->(∀t T,elE ops es o t=some T->T k (s.tmps.getD t undef) x)->
  ∀K:Act->World->Prop,(∀v x',B x x'->(d=none->v=undef)->E.kp k v x'->K (s.put d v) x')->Oper.wp prog o s x K Q
def zlx (ops:Array Oper) (bas:List (Nat×Value)) (es:Es) (Ph:Nat->World->Prop) (Rel:Nat->World->World->Prop) (df:List Deferred) (Q:Exit->Act->World->Prop) (p:Nat) (o:Oper) (d:Option Nat) (E:En):Prop:=
 ∀(s:Act) (x:World),Ph p x->s.defers=df->
  (∀t c,evE ops bas es o t=some c->s.tmps.getD t undef=c)->(∀t T,elE ops es o t=some T->T p (s.tmps.getD t undef) x)->
  ∀K:Act->World->Prop,(∀v x',Ph (p+1) x'->Rel p x x'->(d=none->v=undef)->E.kp (p+1) v x'->K (s.put d v) x')->Oper.wp prog o s x K Q
def AllOb {α:Type} (ops:Array Oper) (es:List (Option Nat×α)) (B:Nat->Nat->Oper->Option Nat->α->Prop):Nat->List Nat->Prop
 |_,[]=>True
 |p,i::l=>(∀o d E,ops[i]? =some o->es[i]? =some (d,E)->B p i o d E)/\AllOb ops es B (p+1) l
theorem AllOb.at {α:Type} {ops:Array Oper} {es:List (Option Nat×α)} {B:Nat->Nat->Oper->Option Nat->α->Prop}:∀{l:List Nat} {p q i:Nat},AllOb ops es B p l->l[q]? =some i->∀o d E,ops[i]? =some o->es[i]? =some (d,E)->B (p+q) i o d E
 |[],_,_,_,_,h=>by simp at h
 |j::l,p,0,i,h,hq=>by
  obtain rfl:j=i:=by simpa using hq
  exact h.1
 |j::l,p,q+1,i,h,hq=>by
  have:=AllOb.at (q:=q) h.2 (by simpa using hq);rwa[show p+1+q=p+(q+1) by omega] at this
theorem zf {α:Type} {ops:Array Oper} {es:List (Option Nat×α)} {B:Nat->Nat->Oper->Option Nat->α->Prop} {p i:Nat} {l:List Nat} (o:Oper) (d:Option Nat) (E:α) (ho:ops[i]? =some o) (he:es[i]? =some (d,E)) (h:B p i o d E) (hl:AllOb ops es B (p+1) l):AllOb ops es B p (i::l):=by
 refine⟨fun o' d' E' h1 h2=> ?_,hl⟩;rw[ho] at h1;rw[he] at h2;obtain rfl:=Option.some.inj h1;obtain⟨rfl,rfl⟩:=Prod.mk.inj (Option.some.inj h2);exact h
def zhz (B:Nat->Kp->Prop):Es->Nat->Prop
 |[],_=>True
 |(_,.inl _)::r,i=>zhz B r (i+1)
 |(_,.inr T)::r,i=>B i T/\zhz B r (i+1)
theorem zfh {B:Nat->Kp->Prop}:∀{es:Es} {k:Nat},zhz B es k->∀(i:Nat) (d:Option Nat) (T:Kp),es[i]? =some (d,.l T)->B (k+i) T
 |[],_,_,i,_,_,h=>by simp at h
 |(d',.inl _)::r,k,hl,0,d,T,h=>by simp at h
 |(d',.inr U)::r,k,hl,0,d,T,h=>by
  obtain⟨_,rfl⟩:d'=d/\U=T:=by simpa using h
  exact hl.1
 |(d',.inl _)::r,k,hl,i+1,d,T,h=>by
  have:=zfh (es:=r) (k:=k+1) hl i d T (by simpa using h);rwa[show k+1+i=k+(i+1) by omega] at this
 |(d',.inr U)::r,k,hl,i+1,d,T,h=>by
  have:=zfh (es:=r) (k:=k+1) hl.2 i d T (by simpa using h);rwa[show k+1+i=k+(i+1) by omega] at this
theorem zjT {es:Es} {B:Nat->Kp->Prop} (h:zhz B es 0) (i:Nat) (d:Option Nat) (T:Kp) (he:es[i]? =some (d,.l T)):B i T:=by
 have:=zfh h i d T he;rwa[Nat.zero_add] at this
theorem Zi {α:Type} {a b:α} {l m:List α} (h:a=b) (h':l=m):a::l=b::m:=by rw[h,h']
theorem zu {es:Es} (h:(es.all fun p=>p.2.isV)=true) {i:Nat} {d:Option Nat} {T:Kp} (he:es[i]? =some (d,.l T)):False:=by
 have:=List.all_eq_true.1 h _ (List.mem_of_getElem? he);cases this
theorem zcU (B:World->World->Prop) (hBr:∀x,B x x) {ops:Array Oper} {Q:Exit->Act->World->Prop} {id:Nat} {a:Act} {w:World} (Ph:Nat->World->Prop) (Rel:Nat->World->World->Prop) (bas:List (Nat×Value)) (es:Es) (calls loads:List Nat)
  (hst:(zfV ops&&(es.length==ops.size)&&decide (zH (tbp (zbA es))).Nodup&&zhH ops (zbA es) bas&&((List.range (calls.length - 1)).all fun q=>zdN ops 3 (calls.getD (q+1) 0) (calls.getD q 0))&&decide calls.Nodup&&(calls.all fun c=>decide (c<ops.size))&&(es.map Prod.fst==ops.toList.map (·.dst))&&(ops.toList.all fun o=>zo2 ops es o))=true) (hsz:((zH (tbp (zbA es))).all fun d=>decide (d<a.tmps.size))=true) (hbas:(bas.map fun p=>a.tmps.getD p.1 undef)=bas.map Prod.snd)
  (hauto:(fun s x=>(List.range ops.size).map fun i=>bif (calls++loads).contains i then none else match ops[i]? with|some o=>some ((execOp (zeU (evE ops bas es o) s) o).run prog x)|none=>none)=fun _ x=>(List.range ops.size).map fun i=>bif (calls++loads).contains i then none else match(es)[i]? with|some (some _,.inl c)=>some (.ok (.value c) x)|_=>none)
  (h0:Ph 0 w.drew) (hbel:∀k x x',Ph k x->B x x'->Ph k x')
  (hcalls:AllOb ops es (fun p _=>zlx ops bas es Ph Rel a.defers Q p) 0 calls)
  (hloads:AllOb ops es (fun _=>zkD B ops bas es calls Ph a.defers Q) 0 loads)
  (hs1:∀(i:Nat) (d:Option Nat) (T:Kp),es[i]? =some (d,En.l T)->∀p v x x',calls[p]? ≠some i->p<calls.length->Ph p x->Rel p x x'->T p v x->T (p+1) v x')
  (hs2:∀(i:Nat) (d:Option Nat) (T:Kp),es[i]? =some (d,En.l T)->∀p v x x',Ph p x->B x x'->T p v x->T p v x')
  (hdone:∀(g:Nat->Value) x,Ph calls.length x->(∀(i:Nat) (d:Option Nat) (T:Kp),es[i]? =some (d,En.l T)->T calls.length (g i) x)->Q .normal (zF a (feE g es 0)) x):
  (Code.region id ops true).wp prog Q a w:=by
 simp only[Bool.and_eq_true] at hst;obtain⟨⟨⟨⟨⟨⟨⟨⟨e1,e2⟩,e3⟩,e4⟩,e5⟩,e6⟩,e7⟩,e8⟩,e9⟩:=hst;have hlen:es.length=ops.size:=by simpa using e2
 have hdst:∀(i:Nat) (o:Oper) (d:Option Nat) (E:En),ops[i]? =some o->es[i]? =some (d,E)->o.dst=d:=fun i o d E ho he=>by
  have h8:es.map Prod.fst=ops.toList.map (·.dst):=by simpa using e8
  have h:=congrArg (fun l:List (Option Nat)=>l[i]?) h8;simp only[List.getElem?_map,he,Array.getElem?_toList,ho,Option.map_some] at h;exact(Option.some.inj h).symm
 have hbase:∀p∈bas,a.tmps.getD p.1 undef=p.2:=fun p hp=>by
  obtain⟨i,hi,rfl⟩:=List.getElem_of_mem hp;have h:=congrArg (fun l:List Value=>l[i]?) hbas;simp only[List.getElem?_map,List.getElem?_eq_getElem hi,Option.map_some] at h;exact Option.some.inj h
 have hlook:∀{t:Nat} {c:Value},bas.lookup t=some c->(t,c)∈bas:=fun{t c} h=>by
  obtain⟨l1,l2,h1,_⟩:=List.lookup_eq_some_iff.1 h;rw[h1];simp
 have hval:∀(k:Nat) (o:Oper) (s:Act) (x:World),(∀p∈bas,s.tmps.getD p.1 undef=p.2)->(∀e∈o.after,Region.binds .any e=true->∀(d':Option Nat) (T':Kp),(zbA es)[e.on]? =some (d',T')->T' k (yM s d') x)->(∀t c,evE ops bas es o t=some c->s.tmps.getD t undef=c)/\(∀t T,elE ops es o t=some T->T k (s.tmps.getD t undef) x):=fun k o s x hb hdep=>by
  have key:∀(j t:Nat) (E:En) (d:Option Nat),onE ops t o.after.toList=some j->es[j]? =some (d,E)->E.kp k (s.tmps.getD t undef) x:=fun j t E d h1 h2=>by
   obtain⟨e,he,hbi,rfl,hd⟩:=zfk h1;have h3:=hdep e (by simpa using he) hbi d E.kp (zeJ h2);unfold zj4 at hd;cases ho:ops[e.on]? with
   |none=>rw[ho] at hd;cases hd
   |some o'=>
    rw[ho] at hd;have h4:o'.dst=some t:=by simpa using hd
    rw[hdst _ _ _ _ ho h2] at h4;rw[h4] at h3;exact h3
  constructor
  ·intro t c h;unfold evE at h;cases hl:bas.lookup t with
   |some c'=>rw[hl] at h;obtain rfl:=Option.some.inj h;exact hb _ (hlook hl)
   |none=>
    rw[hl] at h;cases hj:onE ops t o.after.toList with
    |none=>rw[hj] at h;cases h
    |some j=>
     rw[hj] at h;dsimp only at h;split at h
     ·obtain rfl:=Option.some.inj h;exact key j t _ _ hj (by assumption)
     ·cases h
  ·intro t T h;unfold elE at h;cases hj:onE ops t o.after.toList with
   |none=>rw[hj] at h;cases h
   |some j=>
    rw[hj] at h;dsimp only at h;split at h
    ·obtain rfl:=Option.some.inj h;exact key j t _ _ hj (by assumption)
    ·cases h
 have hwant:∀(k i:Nat) (o:Oper) (s:Act) (x:World),ops[i]? =some o->(∀e∈o.after,Region.binds .any e=true->∀(d':Option Nat) (T':Kp),(zbA es)[e.on]? =some (d',T')->T' k (yM s d') x)->Region.wanted o (yielded ops s.tmps)=true:=fun k i o s x ho hdep=>by
  have hg:=List.all_eq_true.1 e9 o (by rw[<-Array.mem_def];exact Array.mem_of_getElem? ho);unfold zo2 at hg;cases hgu:o.guard with
  |none=>exact zs hgu
  |some jb=>
   obtain⟨j,b⟩:=jb;rw[hgu] at hg;simp only[Bool.and_eq_true] at hg;obtain⟨⟨g1,g2⟩,g3⟩:=hg;obtain⟨e,he,heb⟩:=List.any_eq_true.1 g1;rw[Bool.and_eq_true] at heb;have hon:e.on=j:=by simpa using heb.2
   cases hoj:ops[j]? with
   |none=>rw[hoj] at g2;cases g2
   |some og=>
    rw[hoj] at g2;obtain⟨dd,hdd⟩:=Option.isSome_iff_exists.1 g2;split at g3
    ·rename_i q d c hq;have hc:c=b:=by simpa using g3
     subst hc;have h3:=hdep e (by simpa using he) heb.1 _ _ (by rw[hon];exact zeJ hq);have h4:=hdst _ _ _ _ hoj hq;rw[hdd] at h4;rw[<-h4] at h3;cases c with
     |true=>exact znJ hgu hoj hdd h3
     |false=>exact zli hgu hoj hdd h3
    ·cases g3
 refine zhY B (by kernel_rfl) e1 Ph (fun p _ x x'=>Rel p x x') (zbA es) calls (by unfold zbA;simpa using hlen) e3 hsz h0 bas hbase e4 e5 e6 e7 ?_ ?_ ?_ ?_ ?_
 ·intro j d T hj p s x x' h1 h2 h3 h4 h5;obtain⟨E,he,rfl⟩:=zeF hj;cases E with
  |inl c=>exact h5
  |inr T=>exact hs1 j d T he p _ x x' h1 h2 h3 h4 h5
 ·intro j d T hj p v x x' h1 h2 h3;obtain⟨E,he,rfl⟩:=zeF hj;cases E with
  |inl c=>exact h3
  |inr T=>exact hs2 j d T he p v x x' h1 h2 h3
 ·intro i o d T ho ht hic k s x hk hlo hhi hph hdf hb hdep;obtain⟨E,he,rfl⟩:=zeF ht;obtain⟨v1,v2⟩:=hval k o s x hb hdep;refine⟨hwant k i o s x ho hdep,fun K hK=> ?_⟩;by_cases hil:i∈loads
  ·obtain⟨q,hq⟩:=List.getElem?_of_mem hil;exact hloads.at hq o d E ho he k s x hk hlo hhi hph hdf v1 v2 K fun v x' h1 h2 h3=>hK v x' (hbel k x x' hph h1) h1 h2 h3
  ·have hi:i<ops.size:=(Array.getElem?_eq_some_iff.1 ho).1;have h:=congrArg (fun l:List (Option (Result Next))=>l[i]?) (congrFun (congrFun hauto s) x);have hsk:(calls++loads).contains i=false:=by simp[hic,hil]
   simp only[List.getElem?_map,List.getElem?_range hi,Option.map_some,hsk,cond_false,ho,he] at h
   have hrho:zeU (evE ops bas es o) s=s.eval:=by
    funext q;cases q with
    |tmp t=>
     show(evE ops bas es o t).getD _=_;cases hv:evE ops bas es o t with
     |none=>rfl
     |some c=>exact(v1 t c hv).symm
    |const v=>rfl
    |global g=>rfl
    |func f=>rfl
   cases E with
   |inr T=>cases d<;>simp at h
   |inl c=>
    cases d with
    |none=>simp at h
    |some d=>
    have h':(execOp s.eval o).run prog x=.ok (.value c) x:=by rw[<-hrho];exact Option.some.inj (Option.some.inj h)
    unfold Oper.wp;rw[h',Oper.upon_value,hdst _ _ _ _ ho he];exact hK c x hph (hBr x) (fun hd=>by cases hd) rfl
 ·intro p i o d T hp ho ht s x hph hdf hb hdep;obtain⟨E,he,rfl⟩:=zeF ht;obtain⟨v1,v2⟩:=hval p o s x hb hdep;refine⟨hwant p i o s x ho hdep,fun K hK=> ?_⟩;have:=hcalls.at hp o d E ho he;rw[Nat.zero_add] at this;exact this s x hph hdf v1 v2 K hK
 ·intro vs x hph hl hT;have hl2:vs.length=es.length:=by rw[hl];simp[zbA]
  have h:=hdone (fun k=>vs.getD k undef) x hph (fun i d T he=>hT i d _ (zeJ he));rw[<-zq3 vs es 0 (by omega) (fun j d c he=>by rw[Nat.zero_add];exact hT j d _ (zeJ he))] at h;simpa using h
theorem zt {ops:Array Oper} {Q:Exit->Act->World->Prop} {id:Nat} {a:Act} {w:World} (Ph:Nat->World->Prop) (Rel:Nat->World->World->Prop) (bas:List (Nat×Value)) (es:Es) (calls loads:List Nat)
  (hst:(zfV ops&&(es.length==ops.size)&&decide (zH (tbp (zbA es))).Nodup&&zhH ops (zbA es) bas&&((List.range (calls.length - 1)).all fun q=>zdN ops 3 (calls.getD (q+1) 0) (calls.getD q 0))&&decide calls.Nodup&&(calls.all fun c=>decide (c<ops.size))&&(es.map Prod.fst==ops.toList.map (·.dst))&&(ops.toList.all fun o=>zo2 ops es o))=true) (hsz:((zH (tbp (zbA es))).all fun d=>decide (d<a.tmps.size))=true) (hbas:(bas.map fun p=>a.tmps.getD p.1 undef)=bas.map Prod.snd)
  (hauto:(fun s x=>(List.range ops.size).map fun i=>bif (calls++loads).contains i then none else match ops[i]? with|some o=>some ((execOp (zeU (evE ops bas es o) s) o).run prog x)|none=>none)=fun _ x=>(List.range ops.size).map fun i=>bif (calls++loads).contains i then none else match(es)[i]? with|some (some _,.inl c)=>some (.ok (.value c) x)|_=>none)
  (h0:Ph 0 w.drew) (hbel:∀k x x',Ph k x->Below x.heap.size x x'->Ph k x')
  (hcalls:AllOb ops es (fun p _=>zlx ops bas es Ph Rel a.defers Q p) 0 calls)
  (hloads:AllOb ops es (fun _=>zkD (fun x x'=>Below x.heap.size x x') ops bas es calls Ph a.defers Q) 0 loads)
  (hs1:∀(i:Nat) (d:Option Nat) (T:Kp),es[i]? =some (d,En.l T)->∀p v x x',calls[p]? ≠some i->p<calls.length->Ph p x->Rel p x x'->T p v x->T (p+1) v x')
  (hs2:∀(i:Nat) (d:Option Nat) (T:Kp),es[i]? =some (d,En.l T)->∀p v x x',Ph p x->Below x.heap.size x x'->T p v x->T p v x')
  (hdone:∀(g:Nat->Value) x,Ph calls.length x->(∀(i:Nat) (d:Option Nat) (T:Kp),es[i]? =some (d,En.l T)->T calls.length (g i) x)->Q .normal (zF a (feE g es 0)) x):
  (Code.region id ops true).wp prog Q a w:=
 zcU _ (fun x=>Below.refl _ x) Ph Rel bas es calls loads hst hsz hbas hauto h0 hbel hcalls hloads hs1 hs2 hdone
theorem ZR {ops:Array Oper} {Q:Exit->Act->World->Prop} {id:Nat} {a:Act} {w:World} (Ph:Nat->World->Prop) (Rel:Nat->World->World->Prop) (bas:List (Nat×Value)) (es:Es) (calls loads:List Nat)
  (hst:(zfV ops&&(es.length==ops.size)&&decide (zH (tbp (zbA es))).Nodup&&zhH ops (zbA es) bas&&((List.range (calls.length - 1)).all fun q=>zdN ops 3 (calls.getD (q+1) 0) (calls.getD q 0))&&decide calls.Nodup&&(calls.all fun c=>decide (c<ops.size))&&(es.map Prod.fst==ops.toList.map (·.dst))&&(ops.toList.all fun o=>zo2 ops es o))=true) (hsz:((zH (tbp (zbA es))).all fun d=>decide (d<a.tmps.size))=true) (hbas:(bas.map fun p=>a.tmps.getD p.1 undef)=bas.map Prod.snd)
  (hauto:(fun s x=>(List.range ops.size).map fun i=>bif (calls++loads).contains i then none else match ops[i]? with|some o=>some ((execOp (zeU (evE ops bas es o) s) o).run prog x)|none=>none)=fun _ x=>(List.range ops.size).map fun i=>bif (calls++loads).contains i then none else match(es)[i]? with|some (some _,.inl c)=>some (.ok (.value c) x)|_=>none)
  (h0:Ph 0 w.drew)
  (hcalls:AllOb ops es (fun p _=>zlx ops bas es Ph Rel a.defers Q p) 0 calls)
  (hloads:AllOb ops es (fun _=>zkD Eq ops bas es calls Ph a.defers Q) 0 loads)
  (hs1:∀(i:Nat) (d:Option Nat) (T:Kp),es[i]? =some (d,En.l T)->∀p v x x',calls[p]? ≠some i->p<calls.length->Ph p x->Rel p x x'->T p v x->T (p+1) v x')
  (hdone:∀(g:Nat->Value) x,Ph calls.length x->(∀(i:Nat) (d:Option Nat) (T:Kp),es[i]? =some (d,En.l T)->T calls.length (g i) x)->Q .normal (zF a (feE g es 0)) x):
  (Code.region id ops true).wp prog Q a w:=
 zcU Eq (fun _=>rfl) Ph Rel bas es calls loads hst hsz hbas hauto h0 (fun k x x' h e=>e▸h) hcalls hloads hs1 (fun _ _ _ _ p v x x' _ e h=>e▸h) hdone
section
variable {s:Act} {x:World} {pos:String} {af:Array Edge} {g:Option (Nat×Bool)} {K:Act->World->Prop} {Q:Exit->Act->World->Prop}
theorem yU {t d b:Nat} {ty:TypeId} (he:s.tmps.getD t undef=.pointer (some ⟨b,0,none⟩)) (hK:K (s.put (some d) (.pointer (some ⟨b,19,none⟩))) x):
  Oper.wp prog ⟨some d,.fieldAddr 137 (.tmp t) 10,ty,pos,af,g⟩ s x K Q:=by
 have he2:s.eval (.tmp t)=.pointer (some ⟨b,0,none⟩):=he;go_simp;exact hK
theorem zv {t d:Nat} {T ty:TypeId} {ad:Addr} {v:Value} (hA:∀w,(isAgg T).run prog w=.ok false w) (he:s.tmps.getD t undef=.pointer (some ad)) (hc:x.cell? ad=some v) (hK:K (s.put (some d) v) x):
  Oper.wp prog ⟨some d,.load T (.tmp t),ty,pos,af,g⟩ s x K Q:=by
 have he2:s.eval (.tmp t)=.pointer (some ad):=he;have hl:∀P,(load ad).run P x=.ok v x:=fun P=>by simp[go_sem,hc]
 unfold Oper.wp;simp only[execOp,he2,Instr.loadAt,Instr.sureAddr,loadVar,Sem.run_bind,Sem.run_pure,Result.andThen_ok,hA,Bool.false_eq_true,if_false,hl];exact hK
theorem zD {t d b off n:Nat} {ty:TypeId} (he:s.tmps.getD t undef=.pointer (some ⟨b,off,none⟩)) (c0:x.cell? ⟨b,off,none⟩=some (.int .u64 (za n 0))) (c1:x.cell? ⟨b,off+1,none⟩=some (.int .u64 (za n 1))) (c2:x.cell? ⟨b,off+2,none⟩=some (.int .u64 (za n 2))) (c3:x.cell? ⟨b,off+3,none⟩=some (.int .u64 (za n 3))) (hK:K (s.put (some d) (wv n)) x):
  Oper.wp prog ⟨some d,.load 24 (.tmp t),ty,pos,af,g⟩ s x K Q:=by
 have he2:s.eval (.tmp t)=.pointer (some ⟨b,off,none⟩):=he;go_simp;exact hK
def badF:Fz:=⟨undef,⟨#[]⟩,undef,0,0,0,⟨#[]⟩,100001,false,0,[],[0],⟨#[]⟩,0,0,false,0,⟨#[]⟩⟩
theorem zcF {base fb:Nat} {S:List Nat} {sv mv:Value} {w:World} (h:Fr base fb badF S sv mv w):False:=by
 have:=h.gal;unfold badF at this;simp at this
def zh {α:Type} (r:Option (α×Fz)):Fz:=match r with
 |some (_,F)=>F
 |none=>badF
def zC (r:Option (Nat×Fz)):Nat:=match r with
 |some (n,_)=>n
 |none=>0
theorem zbd {f d base fb:Nat} {xs:Array Operand} {vs:Array Value} {A:Array TypeId} {ty:TypeId} {α:Type} {r:Option (α×Fz)} {val:α->Value} {S:List Nat} (hf:Own f) (hv:#[]++xs.map s.eval++#[]=vs) (hc:Calls prog f vs x (Out r val base fb S x))
  (hpan:∀u pv x',r=none->Kb S x x'->Q (.panic [{v:=.iface u pv,recovered:=false}]) s x')
  (hK:∀a F' S' sv' mv' x',r=some (a,F')->Fr base fb F' S' sv' mv' x'->Kb S x x'->(∀j∈S',j∈S\/x.heap.size<=j)->K (s.put (some d) (val a)) x'):
  Oper.wp prog ⟨some d,.call ⟨.value (.func f),xs,A⟩,ty,pos,af,g⟩ s x K Q:=by
 refine zfU hf hv hc fun e x' ho=> ?_
 unfold Out at ho;split at ho
 ·obtain⟨h1,S',sv',mv',h2,h3,h4⟩:=ho;exact Or.inl ⟨_,h1,hK _ _ S' sv' mv' x' rfl h2 h3 h4⟩
 ·obtain⟨⟨u,pv,rfl⟩,h2⟩:=ho;exact Or.inr ⟨_,rfl,hpan u pv x' rfl h2⟩
theorem YX:Own 257:=fun _ _=>by kernel_rfl
theorem zbx:Own 259:=fun _ _=>by kernel_rfl
theorem zb0:Own 262:=fun _ _=>by kernel_rfl
theorem zmU:Own 261:=fun _ _=>by kernel_rfl
theorem zcm:Own 260:=fun _ _=>by kernel_rfl
structure Same (F F':Fz):Prop where
 trail:F'.trail=F.trail
 code:F'.code=F.code
 jd:F'.jd=F.jd
 self:F'.self=F.self
 caller:F'.caller=F.caller
 value:F'.value=F.value
 data:F'.data=F.data
 ro:F'.ro=F.ro
 ret:F'.ret=F.ret
 pc:F'.pc=F.pc
 nx:F'.nx=F.nx
 mem:F'.mem=F.mem
 gas:F'.gas=F.gas
 depth:F'.depth=F.depth
theorem Same.refl (F:Fz):Same F F:=⟨rfl,rfl,rfl,rfl,rfl,rfl,rfl,rfl,rfl,rfl,rfl,rfl,rfl,rfl⟩
theorem zms:100000<badF.gas:=by decide
theorem Zn {F G:Fz} (h:100000<G.gas\/Same F G):100000<(zh (zi G)).gas\/Same F (zh (zi G)):=by
 unfold zi;split
 ·exact Or.inl zms
 ·rcases h with h|h
  ·exact Or.inl h
  ·exact Or.inr ⟨h.trail,h.code,h.jd,h.self,h.caller,h.value,h.data,h.ro,h.ret,h.pc,h.nx,h.mem,h.gas,h.depth⟩
theorem ZW {F G:Fz} (h:100000<G.gas\/Same F G) (n:Nat):100000<(zh (zm n G)).gas\/Same F (zh (zm n G)):=by
 unfold zm;split
 ·exact Or.inl zms
 ·rcases h with h|h
  ·exact Or.inl h
  ·exact Or.inr ⟨h.trail,h.code,h.jd,h.self,h.caller,h.value,h.data,h.ro,h.ret,h.pc,h.nx,h.mem,h.gas,h.depth⟩
def Pc (l:List UInt8):Kn:=fun _ S v x=>∃b,Bys x b v l/\∀k,v.ownBlock=some k->k∉S
theorem zbQ (l:List UInt8):yS (Pc l):=YC fun _ _ S S' v x x' ⟨b,h1,h2⟩ _ hk hs=>⟨b,hk.own h1 h2,fun k hk2 hm=>(hs k hm).elim (h2 k hk2) (fun h=>by have:=(h1.lt k hk2).2;omega)⟩
def Ln (n:Nat):Kn:=fun _ _ v _=>∃ad c,v=.slice ad n c
theorem zdM (n:Nat):yS (Ln n):=YC fun _ _ _ _ _ _ _ h _ _ _=>h
theorem ltq9 {i:Nat} (h:i<9):i=0\/i=1\/i=2\/i=3\/i=4\/i=5\/i=6\/i=7\/i=8:=by omega
theorem ltq10 {i:Nat} (h:i<10):i=0\/i=1\/i=2\/i=3\/i=4\/i=5\/i=6\/i=7\/i=8\/i=9:=by omega
theorem zmN {i:Nat} (h:i<12):i=0\/i=1\/i=2\/i=3\/i=4\/i=5\/i=6\/i=7\/i=8\/i=9\/i=10\/i=11:=by omega
theorem lenq12 {vs:List Value} (h:vs.length=12):∃v0 v1 v2 v3 v4 v5 v6 v7 v8 v9 v10 v11:Value,vs=[v0,v1,v2,v3,v4,v5,v6,v7,v8,v9,v10,v11]:=by
 match vs,h with
 |[v0,v1,v2,v3,v4,v5,v6,v7,v8,v9,v10,v11],_=>exact⟨v0,v1,v2,v3,v4,v5,v6,v7,v8,v9,v10,v11,rfl⟩
theorem ltq17 {i:Nat} (h:i<17):i=0\/i=1\/i=2\/i=3\/i=4\/i=5\/i=6\/i=7\/i=8\/i=9\/i=10\/i=11\/i=12\/i=13\/i=14\/i=15\/i=16:=by omega
theorem lenq17 {vs:List Value} (h:vs.length=17):∃v0 v1 v2 v3 v4 v5 v6 v7 v8 v9 v10 v11 v12 v13 v14 v15 v16:Value,vs=[v0,v1,v2,v3,v4,v5,v6,v7,v8,v9,v10,v11,v12,v13,v14,v15,v16]:=by
 match vs,h with
 |[v0,v1,v2,v3,v4,v5,v6,v7,v8,v9,v10,v11,v12,v13,v14,v15,v16],_=>exact⟨v0,v1,v2,v3,v4,v5,v6,v7,v8,v9,v10,v11,v12,v13,v14,v15,v16,rfl⟩
theorem ltq18 {i:Nat} (h:i<18):i=0\/i=1\/i=2\/i=3\/i=4\/i=5\/i=6\/i=7\/i=8\/i=9\/i=10\/i=11\/i=12\/i=13\/i=14\/i=15\/i=16\/i=17:=by omega
theorem lenq18 {vs:List Value} (h:vs.length=18):∃v0 v1 v2 v3 v4 v5 v6 v7 v8 v9 v10 v11 v12 v13 v14 v15 v16 v17:Value,vs=[v0,v1,v2,v3,v4,v5,v6,v7,v8,v9,v10,v11,v12,v13,v14,v15,v16,v17]:=by
 match vs,h with
 |[v0,v1,v2,v3,v4,v5,v6,v7,v8,v9,v10,v11,v12,v13,v14,v15,v16,v17],_=>exact⟨v0,v1,v2,v3,v4,v5,v6,v7,v8,v9,v10,v11,v12,v13,v14,v15,v16,v17,rfl⟩
end
theorem zdk {env:Nat->Option Value} {s:Act} (h:∀t c,env t=some c->s.tmps.getD t undef=c):zeU env s=s.eval:=by
 funext q;cases q with
 |tmp t=>
  show(env t).getD _=_;cases hv:env t with
  |none=>rfl
  |some c=>exact(h t c hv).symm
 |const v=>rfl
 |global g=>rfl
 |func f=>rfl
theorem zZ {env:Nat->Option Value} {o:Oper} {s:Act} {x:World} {K:Act->World->Prop} {Q:Exit->Act->World->Prop} {f:FuncId} {args:Array Value} {Post:Ending->World->Prop} (hv:∀t c,env t=some c->s.tmps.getD t undef=c)
  (hc:Calls prog f args x Post) (he:(execOp (zeU env s) o).run prog x=.ok (.enter f args) x) (hr:∀v x',Post (.returned v) x'->K (s.put o.dst v) x') (hp:∀l x',Post (.panicked l) x'->Q (.panic l) s x') (hn:∀x',¬Post .outgrown x'):Oper.wp prog o s x K Q:=by
 rw[zdk hv] at he;unfold Oper.wp;rw[he,Oper.upon_enter];refine hc.mono fun e x' h=> ?_
 cases e with
 |returned v=>exact hr v x' h
 |panicked l=>exact hp l x' h
 |outgrown=>exact absurd h (hn x')
theorem zdU {env:Nat->Option Value} {o:Oper} {s:Act} {x:World} {K:Act->World->Prop} {Q:Exit->Act->World->Prop} {v:Value} {x':World} (hv:∀t c,env t=some c->s.tmps.getD t undef=c)
  (he:(execOp (zeU env s) o).run prog x=.ok (.value v) x') (hK:K (s.put o.dst v) x'):Oper.wp prog o s x K Q:=by
 rw[zdk hv] at he;unfold Oper.wp;rw[he,Oper.upon_value];exact hK
def PhF (base fb:Nat) (G:Nat->Fz) (S:List Nat) (w:World) (k:Nat) (x:World):Prop:=∃S' sv mv,Fr base fb (G k) S' sv mv x/\Kb S w x/\∀j∈S',j∈S\/w.heap.size<=j
theorem PhF.bel {base fb:Nat} {G:Nat->Fz} {S:List Nat} {w:World} (k:Nat) (x x':World) (h:PhF base fb G S w k x) (hb:Below x.heap.size x x'):PhF base fb G S w k x':=by
 obtain⟨S',sv,mv,h1,h2,h3⟩:=h;exact⟨S',sv,mv,h1.below hb,h2.below hb,h3⟩
theorem PhF.init {base fb:Nat} {G:Nat->Fz} {S:List Nat} {w:World} {sv mv:Value} (h:Fr base fb (G 0) S sv mv w):PhF base fb G S w 0 w.drew:=
 ⟨S,sv,mv,h.below (Below.refl _ w).drew,(Kb.refl S w).drew,fun j hj=>Or.inl hj⟩
theorem ZO {α:Type} {r:Option (α×Fz)} {val:α->Value} {base fb p:Nat} {G:Nat->Fz} {S:List Nat} {w:World} {c:Value} {env:Nat->Option Value} {o:Oper} {s:Act} {x:World} {K:Act->World->Prop} {Q:Exit->Act->World->Prop} {f:FuncId} {args:Array Value}
  (hph:PhF base fb G S w p x) (hv:∀t c,env t=some c->s.tmps.getD t undef=c) (hc:∀S' sv mv,Fr base fb (G p) S' sv mv x->Calls prog f args x (Out r val base fb S' x))
  (he:(execOp (zeU env s) o).run prog x=.ok (.enter f args) x) (hg:G (p+1)=zh r) (hval:∀a F',r=some (a,F')->val a=c)
  (hpan:r=none->∀u pv x',Kb S w x'->Q (.panic [{v:=.iface u pv,recovered:=false}]) s x')
  (hK:∀x',PhF base fb G S w (p+1) x'->K (s.put o.dst c) x'):Oper.wp prog o s x K Q:=by
 obtain⟨S',sv,mv,h1,h2,h3⟩:=hph;cases hr:r with
 |none=>
  refine zZ hv (hc S' sv mv h1) he (fun v x' h=> ?_) (fun l x' h=> ?_) (fun x' h=> ?_)
  ·rw[hr] at h;obtain⟨⟨u,pv,e⟩,_⟩:=h;cases e
  ·rw[hr] at h;obtain⟨⟨u,pv,e⟩,hk⟩:=h;injection e with e
   rw[e];exact hpan hr u pv x' (h2.trans hk h3)
  ·rw[hr] at h;obtain⟨⟨u,pv,e⟩,_⟩:=h;cases e
 |some q=>
  obtain⟨a,F'⟩:=q;refine zZ hv (hc S' sv mv h1) he (fun v x' h=> ?_) (fun l x' h=> ?_) (fun x' h=> ?_)
  ·rw[hr] at h;obtain⟨e,S2,sv2,mv2,k1,k2,k3⟩:=h;injection e with e
   rw[e,hval a F' hr];refine hK x' ⟨S2,sv2,mv2, ?_,h2.trans k2 h3,fun j hj=> ?_⟩
   ·rw[hg,hr];exact k1
   ·rcases k3 j hj with e|e
    ·exact h3 j e
    ·exact Or.inr (Nat.le_trans h2.size e)
  ·rw[hr] at h;obtain⟨e,_⟩:=h;cases e
  ·rw[hr] at h;obtain⟨e,_⟩:=h;cases e
section
open Go.Maps
def zau (s:Nat->Nat) (k v:Nat):Nat->Nat:=fun m=>if m%M=k%M then v else s m
theorem zgC (s:Nat->Nat) (k v:Nat) (hv:v%M≠0) (m:Nat):Zs (zau s k v) m=if m%M=k%M then some (wv v) else Zs s m:=by
 unfold Zs zau;by_cases e:m%M=k%M
 ·rw[if_pos e,if_pos e,if_neg hv]
 ·rw[if_neg e,if_neg e]
theorem zgP (s:Nat->Nat) (k v:Nat) (hv:v%M=0) (m:Nat):Zs (zau s k v) m=if m%M=k%M then none else Zs s m:=by
 unfold Zs zau;by_cases e:m%M=k%M
 ·rw[if_pos e,if_pos e,if_pos hv]
 ·rw[if_neg e,if_neg e]
abbrev b3 (w:World) (a c d:Nat):World:=((w.alloc (wc a)).alloc (wc c)).alloc (wc d)
abbrev b4 (w:World) (a c d bl:Nat) (cd:ByteArray) (o:Option Nat):World:=(b3 w a c d).alloc (.cells #[.int .u64 (za bl 0),.int .u64 (za bl 1),.int .u64 (za bl 2),.int .u64 (za bl 3),.string cd,.map o] 95)
theorem ze1 (w:World) (a c d:Nat):Below w.heap.size w (b3 w a c d):=bal (bal (bal (Below.refl _ w) _) _) _
theorem zeh {ab n:Nat} {A:Nat->Acc} {sb:Nat->Value} {at':Nat} {s':Nat->Nat} {w:World} (h:Accs ab n A sb w) (hn:n<900000000000) (hz:Zr w) {x:World} {S:List Nat} {b:Nat} (hk:Kb S w x) (ha:AM x b (n+1) (Zs s')) (hS:∀k∈S,k=b) (hab:b≠ab) (h0:0≠b) (hot:∀m,m%M≠at'%M->¬(A m).no->sb m≠.map (some b)):
  Calls prog 81 #[.map (some ab),wv at',Z2 (A at').bal (A at').code (.map (some b))] x fun e w'=>e=.returned (.tuple #[])/\Accs ab (n+2) (Zv A at' {A at' with slots:=s'}) (Zv sb at' (.map (some b))) w'/\Kb [ab] x w':=by
 have hx:=((h.x at').kb hk (fun hm=>hab (hS _ hm).symm) (fun m k hm hno e hk=>hot m hm hno (by rw[e,hS k hk]))).mono (Nat.le_succ n);exact zh6 {A at' with slots:=s'} (.map (some b)) x hx (Or.inr ⟨b,rfl,hab,ha⟩) (fun m k hm hno e e2=>hot m hm hno (e.trans e2.symm)) (by omega) (hz.kb hk (fun hm=>h0 (hS _ hm)))
theorem zqM (w:World):(binOp .eql 93 (.map none) (.map none)).run prog w=.ok (.bool true) w:=by kernel_rfl
theorem zqb (b:Nat) (w:World):(binOp .eql 93 (.map (some b)) (.map none)).run prog w=.ok (.bool false) w:=by kernel_rfl
theorem zc4 {S:List Nat} {w x:World} {a c d bl:Nat} {cd:ByteArray} {o:Option Nat} (hk:Kb S (b4 w a c d bl cd o) x) (h1:w.heap.size∉S) (h2:w.heap.size+1+1+1∉S):
  (x.cell? ⟨w.heap.size,0,none⟩=some (.int .u64 (za a 0))/\x.cell? ⟨w.heap.size,1,none⟩=some (.int .u64 (za a 1))/\x.cell? ⟨w.heap.size,2,none⟩=some (.int .u64 (za a 2))/\x.cell? ⟨w.heap.size,3,none⟩=some (.int .u64 (za a 3)))/\
  (x.cell? ⟨w.heap.size+1+1+1,0,none⟩=some (.int .u64 (za bl 0))/\x.cell? ⟨w.heap.size+1+1+1,1,none⟩=some (.int .u64 (za bl 1))/\x.cell? ⟨w.heap.size+1+1+1,2,none⟩=some (.int .u64 (za bl 2))/\x.cell? ⟨w.heap.size+1+1+1,3,none⟩=some (.int .u64 (za bl 3))/\x.cell? ⟨w.heap.size+1+1+1,4,none⟩=some (.string cd)/\x.cell? ⟨w.heap.size+1+1+1,5,none⟩=some (.map o)):=by
 have q1:∀i,x.cell? ⟨w.heap.size,i,none⟩=(b4 w a c d bl cd o).cell? ⟨w.heap.size,i,none⟩:=fun i=>World.cell?_of_block (hk.block _ (by simp;omega) h1)
 have q2:∀i,x.cell? ⟨w.heap.size+1+1+1,i,none⟩=(b4 w a c d bl cd o).cell? ⟨w.heap.size+1+1+1,i,none⟩:=fun i=>World.cell?_of_block (hk.block _ (by simp) h2)
 simp only[q1,q2];simp[go_sem]
abbrev nwb (w:World):Nat:=w.heap.size+1+1+1+1
abbrev b5 (w:World) (a c d bl:Nat) (cd:ByteArray):World:=(b4 w a c d bl cd (some (nwb w))).alloc (.map #[] 0)
theorem b5_made (w:World) (a c d bl:Nat) (cd:ByteArray):AM (b5 w a c d bl cd) (nwb w) 0 (fun _=>none):=by
 have h:=AM.made (b4 w a c d bl cd (some (nwb w)));rw[show(b4 w a c d bl cd (some (nwb w))).heap.size=nwb w by simp[nwb]] at h;exact h
theorem b5_kb (S:List Nat) (w:World) (a c d bl:Nat) (cd:ByteArray):Kb S w (b5 w a c d bl cd):=(((((Kb.refl S w).alloc _).alloc _).alloc _).alloc _).alloc _
theorem zoQ {s:Nat->Nat} (h:∀k,s k%M=0) (m:Nat):Zs s m=none:=if_pos (h m)
theorem Accs.old {ab n:Nat} {A:Nat->Acc} {sb:Nat->Value} {w:World} (h:Accs ab n A sb w) {m b:Nat} (hno:¬(A m).no) (e:sb m=.map (some b)):b<w.heap.size:=h.lt (Or.inr ⟨m,hno,e⟩)
theorem ziI {ab n:Nat} {A:Nat->Acc} {sb:Nat->Value} (at' key v:Nat) (w:World) (h:Accs ab n A sb w) (hn:n<900000000000) (hz:Zr w) {f:Nat->Option Value} (hf:AM w ab n f) (e1:(f at').getD zmd=Z2 (A at').bal (A at').code (.map none)) (h0:∀k,(A at').slots k%M=0):
  Calls prog 207 #[.map (some ab),wv at',wv key,wv v] w fun e w'=>e=.returned (.tuple #[])/\Accs ab (n+2) (Zv A at' {A at' with slots:=zau (A at').slots key v}) (Zv sb at' (.map (some (nwb w)))) w'/\Kb [ab] w w':=by
 have hlk:=(hf.kb (Kb.of_below (S:=[]) (ze1 w at' key v)) (by simp)).look YA Yj at';rw[e1] at hlk
 have HF:Hid (∀x,Kb [nwb w] (b5 w at' key v (A at').bal (A at').code) x->AM x (nwb w) (n+1) (Zs (zau (A at').slots key v))->Calls prog 81 #[.map (some ab),wv at',Z2 (A at').bal (A at').code (.map (some (nwb w)))] x fun e w'=>e=.returned (.tuple #[])/\Accs ab (n+2) (Zv A at' {A at' with slots:=zau (A at').slots key v}) (Zv sb at' (.map (some (nwb w)))) w'/\Kb [ab] x w'):=by
  intro x hk ha;have hab:ab<w.heap.size:=h.lt (Or.inl rfl);exact zeh h hn hz (S:=[]) ((b5_kb [] w at' key v _ _).trans hk (fun i hi=>Or.inr (by simp at hi;unfold nwb at hi;omega))) ha (by simp) (by unfold nwb;omega) (by unfold nwb;omega) (fun m hm hno e=>by have:=h.old hno e;unfold nwb at this;omega)
 have HG:Hid (∀m,Zs (A at').slots m=none):=fun m=>zoQ h0 m
 generalize hU:Zv A at' {A at' with slots:=zau (A at').slots key v}=U at*;clear hU h0 e1;generalize(A at').bal=bl at*;generalize(A at').code=cd at*;generalize(A at').slots=sl at*;obtain⟨⟨z0,z1,z2,z3⟩,_⟩:=hz.below (bal (Below.refl _ w) (wc at'));have hmm:=@run_makeMap prog;have hne:=zqM;have hez:=Z8 v;have HA:=zb (b5_made w at' key v bl cd);have HKB:=zb (b5_kb [ab] w at' key v bl cd);have HL:Hid (0<maxLen):=by unfold maxLen;show 0<_;omega
 have HNB:Hid (nwb w∈[ab]\/w.heap.size<=nwb w):=Or.inr (by unfold nwb;omega);clear h hn hz hf;by_cases hv:v%M=0
 ·rw[ze5 hv] at hez;have HV:=zb hv;clear hv;go_enter func207,ntmps207;go_wp2_with (first|(at_delete;refine Yu _ rfl _ _ 93 rfl _ zaG (nwb w) 0 (fun _=>none) rfl HA.out key rfl ?_;intro w1 hA hT;have HA1:Hid (AM w1 (nwb w) (n+1) (Zs (zau sl key v))/\Kb [nwb w] (b5 w at' key v bl cd) w1):=⟨(hA.mono (by omega)).congr (fun m=>(zgP sl key v HV.out m).trans (by rw[HG.out m])),yF hT⟩;obtain⟨⟨c0,c1,c2,c3⟩,d0,d1,d2,d3,d4,d5⟩:=zc4 (((Kb.refl [] (b4 w at' key v bl cd (some (nwb w)))).alloc (.map #[] 0)).mono (T:=[nwb w]) (by simp) |>.trans HA1.out.2 (fun i hi=>Or.inl hi)) (by simp[nwb];omega) (by simp[nwb]);clear hA hT)|fail)
  refine(HF.out _ HA1.out.2 HA1.out.1).mono ?_;rintro e w2 ⟨rfl,hR,hK⟩;have HO:Hid (Accs ab (n+2) U (Zv sb at' (.map (some (nwb w)))) w2/\Kb [ab] w w2):=⟨hR,(HKB.out.trans HA1.out.2 (fun i hi=>by simp at hi;subst hi;exact HNB.out)).trans hK (by simp)⟩;clear hR hK HF HA1;go_wp2;go_end0;exact⟨rfl,HO.out⟩
 ·rw[ziy hv] at hez;have HV:=zb hv;clear hv;go_enter func207,ntmps207;go_wp2_with (first|(at_mapUpdate;refine ZX _ rfl _ _ _ 93 rfl _ zaG (nwb w) 0 (fun _=>none) rfl HA.out HL.out key (wv v) rfl rfl ?_;intro w1 hA hT;have HA1:Hid (AM w1 (nwb w) (n+1) (Zs (zau sl key v))/\Kb [nwb w] (b5 w at' key v bl cd) w1):=⟨(hA.mono (by omega)).congr (fun m=>(zgC sl key v HV.out m).trans (by rw[HG.out m])),yF hT⟩;obtain⟨⟨c0,c1,c2,c3⟩,d0,d1,d2,d3,d4,d5⟩:=zc4 (((Kb.refl [] (b4 w at' key v bl cd (some (nwb w)))).alloc (.map #[] 0)).mono (T:=[nwb w]) (by simp) |>.trans HA1.out.2 (fun i hi=>Or.inl hi)) (by simp[nwb];omega) (by simp[nwb]);clear hA hT)|fail)
  refine(HF.out _ HA1.out.2 HA1.out.1).mono ?_;rintro e w2 ⟨rfl,hR,hK⟩;have HO:Hid (Accs ab (n+2) U (Zv sb at' (.map (some (nwb w)))) w2/\Kb [ab] w w2):=⟨hR,(HKB.out.trans HA1.out.2 (fun i hi=>by simp at hi;subst hi;exact HNB.out)).trans hK (by simp)⟩;clear hR hK HF HA1;go_wp2;go_end0;exact⟨rfl,HO.out⟩
theorem b4_kb (S:List Nat) (w:World) (a c d bl:Nat) (cd:ByteArray) (o:Option Nat):Kb S w (b4 w a c d bl cd o):=((((Kb.refl S w).alloc _).alloc _).alloc _).alloc _
theorem ziZ {ab n:Nat} {A:Nat->Acc} {sb:Nat->Value} (at' key v:Nat) (w:World) (h:Accs ab n A sb w) (hn:n<900000000000) (hz:Zr w) {f:Nat->Option Value} (hf:AM w ab n f) {b:Nat} (e1:(f at').getD zmd=Z2 (A at').bal (A at').code (.map (some b))) (hb:AM w b n (Zs (A at').slots)) (hab:b≠ab) (hot:∀m,m%M≠at'%M->¬(A m).no->sb m≠.map (some b)) (hb0:0≠b):
  Calls prog 207 #[.map (some ab),wv at',wv key,wv v] w fun e w'=>e=.returned (.tuple #[])/\Accs ab (n+2) (Zv A at' {A at' with slots:=zau (A at').slots key v}) (Zv sb at' (.map (some b))) w'/\Kb [ab,b] w w':=by
 have hlk:=(hf.kb (Kb.of_below (S:=[]) (ze1 w at' key v)) (by simp)).look YA Yj at';rw[e1] at hlk
 have HF:Hid (∀x,Kb [b] (b4 w at' key v (A at').bal (A at').code (some b)) x->AM x b (n+1) (Zs (zau (A at').slots key v))->Calls prog 81 #[.map (some ab),wv at',Z2 (A at').bal (A at').code (.map (some b))] x fun e w'=>e=.returned (.tuple #[])/\Accs ab (n+2) (Zv A at' {A at' with slots:=zau (A at').slots key v}) (Zv sb at' (.map (some b))) w'/\Kb [ab] x w'):=by
  intro x hk ha;exact zeh h hn hz (S:=[b]) ((b4_kb [b] w at' key v _ _ _).trans hk (fun i hi=>Or.inl hi)) ha (by simp) hab hb0 hot
 have HA:=zb (hb.kb (b4_kb [] w at' key v (A at').bal (A at').code (some b)) (by simp));generalize hU:Zv A at' {A at' with slots:=zau (A at').slots key v}=U at*;have hlt:=hb.lt;clear hU e1 hb hot;generalize(A at').bal=bl at*;generalize(A at').code=cd at*;generalize(A at').slots=sl at*;obtain⟨⟨z0,z1,z2,z3⟩,_⟩:=hz.below (bal (Below.refl _ w) (wc at'));have hne:=zqb b;have hez:=Z8 v;have HKB:=zb (b4_kb [ab,b] w at' key v bl cd (some b));have HL:Hid (n<maxLen):=by unfold maxLen;show n<_;omega
 have HLT:Hid (w.heap.size∉[b]/\w.heap.size+1+1+1∉[b]):=⟨by simp;omega,by simp;omega⟩;clear h hn hz hf hlt hab hb0;by_cases hv:v%M=0
 ·rw[ze5 hv] at hez;have HV:=zb hv;clear hv;go_enter func207,ntmps207;go_wp2_with (first|(at_delete;refine Yu _ rfl _ _ 93 rfl _ zaG b n (Zs sl) rfl HA.out key rfl ?_;intro w1 hA hT;have HA1:Hid (AM w1 b (n+1) (Zs (zau sl key v))/\Kb [b] (b4 w at' key v bl cd (some b)) w1):=⟨(hA.mono (by omega)).congr (fun m=>zgP sl key v HV.out m),yF hT⟩;obtain⟨⟨c0,c1,c2,c3⟩,d0,d1,d2,d3,d4,d5⟩:=zc4 HA1.out.2 HLT.out.1 HLT.out.2;clear hA hT)|fail)
  refine(HF.out _ HA1.out.2 HA1.out.1).mono ?_;rintro e w2 ⟨rfl,hR,hK⟩;have HO:Hid (Accs ab (n+2) U (Zv sb at' (.map (some b))) w2/\Kb [ab,b] w w2):=⟨hR,(HKB.out.trans HA1.out.2 (fun i hi=>Or.inl (by simp at hi;simp[hi]))).trans hK (fun i hi=>Or.inl (by simp at hi;simp[hi]))⟩;clear hR hK HF HA1;go_wp2;go_end0;exact⟨rfl,HO.out⟩
 ·rw[ziy hv] at hez;have HV:=zb hv;clear hv;go_enter func207,ntmps207;go_wp2_with (first|(at_mapUpdate;refine ZX _ rfl _ _ _ 93 rfl _ zaG b n (Zs sl) rfl HA.out HL.out key (wv v) rfl rfl ?_;intro w1 hA hT;have HA1:Hid (AM w1 b (n+1) (Zs (zau sl key v))/\Kb [b] (b4 w at' key v bl cd (some b)) w1):=⟨hA.congr (fun m=>zgC sl key v HV.out m),yF hT⟩;obtain⟨⟨c0,c1,c2,c3⟩,d0,d1,d2,d3,d4,d5⟩:=zc4 HA1.out.2 HLT.out.1 HLT.out.2;clear hA hT)|fail)
  refine(HF.out _ HA1.out.2 HA1.out.1).mono ?_;rintro e w2 ⟨rfl,hR,hK⟩;have HO:Hid (Accs ab (n+2) U (Zv sb at' (.map (some b))) w2/\Kb [ab,b] w w2):=⟨hR,(HKB.out.trans HA1.out.2 (fun i hi=>Or.inl (by simp at hi;simp[hi]))).trans hK (fun i hi=>Or.inl (by simp at hi;simp[hi]))⟩;clear hR hK HF HA1;go_wp2;go_end0;exact⟨rfl,HO.out⟩
theorem zr_no {w:World} (hz:Zr w) {b n:Nat} {f:Nat->Option Value} (h:AM w b n f):0≠b:=fun e=>by
 subst e;obtain⟨es,cl,h1⟩:=h.is;obtain⟨⟨z0,_⟩,_⟩:=hz;simp[World.cell?,h1] at z0
theorem zjt {ab n:Nat} {A:Nat->Acc} {sb:Nat->Value} (at' key v:Nat) (w:World) (h:Accs ab n A sb w) (hn:n<900000000000) (hz:Zr w):
  Calls prog 207 #[.map (some ab),wv at',wv key,wv v] w fun e w'=>e=.returned (.tuple #[])/\(∃sv,(∀b,sv=.map (some b)->ZZ ab A sb b\/w.heap.size<=b)/\Accs ab (n+2) (Zv A at' {A at' with slots:=zau (A at').slots key v}) (Zv sb at' sv) w')/\∃S,Kb S w w'/\∀k∈S,ZZ ab A sb k:=by
 obtain⟨f,hf,hf'⟩:=h.map;obtain⟨sv,e1,e3,e4,e5⟩:=h.read at' hf';rcases e3 with⟨rfl,h0⟩|⟨b,rfl,hab,hb⟩
 ·refine(ziI at' key v w h hn hz hf e1 h0).mono ?_;rintro e w' ⟨h1,h2,h3⟩;exact⟨h1,⟨_,fun b e=>Or.inr (by injection e with e;injection e with e;unfold nwb at e;omega),h2⟩,[ab],h3,fun k hk=>Or.inl (by simpa using hk)⟩
 ·refine(ziZ at' key v w h hn hz hf e1 hb hab (fun m hm hno e=>e4 m b hm hno e rfl) (zr_no hz hb)).mono ?_;rintro e w' ⟨h1,h2,h3⟩;refine⟨h1,⟨_,fun b' e=>Or.inl (e5 b' e),h2⟩,[ab,b],h3,fun k hk=> ?_⟩;simp at hk;rcases hk with rfl|rfl
  ·exact Or.inl rfl
  ·exact e5 k rfl
end
section
open Go.Maps
structure Chg where
 kind:Nat
 at':Nat
 key:Nat
 old:Nat
structure LogE where
 at':Nat
 topics:List Nat
 data:ByteArray
structure TS where
 acc:Nat->Acc
 pas:Nat->Nat->Nat
 ch:List Chg
 logs:List LogE
structure TV where
 ab:Nat
 pb:Nat
 n:Nat
 sb:Nat->Value
 cv:Value
 lv:Value
 tv:List Value
abbrev zel (kind a key:Nat):Array Value:=#[.int .i64 (kind:Int),.int .u64 (za a 0),.int .u64 (za a 1),.int .u64 (za a 2),.int .u64 (za a 3),.int .u64 (za key 0),.int .u64 (za key 1),.int .u64 (za key 2),.int .u64 (za key 3)]
abbrev ZT (kind a key:Nat):Value:=.agg (zel kind a key)
def chC (c:Chg):List Value:=[.int .i64 (c.kind:Int),.int .u64 (za c.at' 0),.int .u64 (za c.at' 1),.int .u64 (za c.at' 2),.int .u64 (za c.at' 3),.int .u64 (za c.key 0),.int .u64 (za c.key 1),.int .u64 (za c.key 2),.int .u64 (za c.key 3),.int .u64 (za c.old 0),.int .u64 (za c.old 1),.int .u64 (za c.old 2),.int .u64 (za c.old 3)]
def chL (l:List Chg):List Value:=l.flatMap chC
def loC (l:LogE) (t:Value):List Value:=[.int .u64 (za l.at' 0),.int .u64 (za l.at' 1),.int .u64 (za l.at' 2),.int .u64 (za l.at' 3),t,.string l.data]
def loL:List LogE->List Value->List Value
 |l::r,t::s=>loC l t++loL r s
 |_,_=>[]
def Lo (w:World) (base:Nat) (lv:Value) (tv:List Value) (L:List LogE):Prop:=
 tv.length=L.length/\w.ownsRow base 112 6 lv L.length (loL L tv)/\∀(i:Nat) l t,L[i]? =some l->tv[i]? =some t->Wds w base t l.topics
theorem Lo.kb {S:List Nat} {w w':World} {base:Nat} {lv:Value} {tv:List Value} {L:List LogE} (h:Lo w base lv tv L) (hk:Kb S w w') (h1:∀k,lv.ownBlock=some k->k∉S) (h2:∀t∈tv,∀k,t.ownBlock=some k->k∉S):Lo w' base lv tv L:=
 ⟨h.1,hk.own h.2.1 h1,fun i l t hl ht=>hk.own (h.2.2 i l t hl ht) (h2 t (List.mem_of_getElem? ht))⟩
def trC (V:TV) (i:Nat):Value:=if i=0 then .map (some V.ab) else if i=1 then .map (some V.pb) else if i=2 then V.cv else V.lv
def PM (w:World) (pb n:Nat) (p:Nat->Nat->Nat):Prop:=∃g,MapV prog 217 w pb n g/\∀a k,(g (ZT 2 a k)).getD (wv 0)=wv (p a k)
theorem PM.kb {S:List Nat} {w w':World} {pb n:Nat} {p:Nat->Nat->Nat} (h:PM w pb n p) (hk:Kb S w w') (hS:pb∉S):PM w' pb n p:=by
 obtain⟨g,h1,h2⟩:=h;exact⟨g,h1.block (hk.block pb h1.lt hS),h2⟩
theorem PM.lt {w:World} {pb n:Nat} {p:Nat->Nat->Nat} (h:PM w pb n p):pb<w.heap.size:=by
 obtain⟨g,h1,h2⟩:=h;exact h1.lt
theorem PM.is {w:World} {pb n:Nat} {p:Nat->Nat->Nat} (h:PM w pb n p):∃es cl,w.heap[pb]? =some (.map es cl):=by
 obtain⟨g,h1,h2⟩:=h;exact h1.is
theorem PM.mono {w:World} {pb n m:Nat} {p:Nat->Nat->Nat} (h:PM w pb n p) (hn:n<=m):PM w pb m p:=by
 obtain⟨g,h1,h2⟩:=h;exact⟨g,h1.mono hn,h2⟩
structure Tr (base tb:Nat) (T:TS) (V:TV) (w:World):Prop where
 row:w.rowIs tb 131 4 (trC V)
 acc:Accs V.ab V.n T.acc V.sb w
 pas:PM w V.pb V.n T.pas
 ch:w.ownsRow base 220 13 V.cv T.ch.length (chL T.ch)
 lo:Lo w base V.lv V.tv T.logs
 zr:Zr w
 hb:base<=w.heap.size
 hb1:0<base
 pn:¬ZZ V.ab T.acc V.sb V.pb
def zG (tb:Nat) (T:TS) (V:TV) (k:Nat):Prop:=k=tb\/ZZ V.ab T.acc V.sb k\/k=V.pb\/V.cv.ownBlock=some k\/V.lv.ownBlock=some k\/∃t∈V.tv,t.ownBlock=some k
theorem Tr.kb {S:List Nat} {base tb:Nat} {T:TS} {V:TV} {w w':World} (h:Tr base tb T V w) (hk:Kb S w w') (hS:∀k∈S,¬zG tb T V k) (h0:0∉S):Tr base tb T V w':=
 ⟨hk.row h.row (fun hm=>hS _ hm (Or.inl rfl)),h.acc.kb hk (fun k hm hf=>hS k hm (Or.inr (Or.inl hf))),h.pas.kb hk (fun hm=>hS _ hm (Or.inr (Or.inr (Or.inl rfl)))),
  hk.own h.ch (fun k e hm=>hS k hm (Or.inr (Or.inr (Or.inr (Or.inl e))))),h.lo.kb hk (fun k e hm=>hS k hm (Or.inr (Or.inr (Or.inr (Or.inr (Or.inl e)))))) (fun t ht k e hm=>hS k hm (Or.inr (Or.inr (Or.inr (Or.inr (Or.inr ⟨t,ht,e⟩)))))),
  h.zr.kb hk h0,Nat.le_trans h.hb hk.size,h.hb1,h.pn⟩
theorem Tr.below {base tb:Nat} {T:TS} {V:TV} {w w':World} (h:Tr base tb T V w) (hk:Below w.heap.size w w'):Tr base tb T V w':=h.kb (Kb.of_below (S:=[]) hk) (by simp) (by simp)
def zjq (T:TS) (kind a key:Nat):Nat:=if kind=0 then(T.acc a).bal else if kind=1 then(T.acc a).slots key else T.pas a key
theorem znd (s:Nat->Nat) (k:Nat):(Zs s k).getD (.agg #[.int .u64 0,.int .u64 0,.int .u64 0,.int .u64 0])=wv (s k):=by
 unfold Zs;by_cases h:s k%M=0
 ·rw[if_pos h,yo (show s k%M=0%M from h)];unfold wv;rw[zn,zn,zn,zn];rfl
 ·rw[if_neg h];rfl
theorem zg6 {w:World} {n ab:Nat} {s:Nat->Nat} {v:Value} (h:SlotsOk w n ab s v) (k:Nat):(Instr.lookup 93 v (wv k) false).run prog w=.ok (wv (s k)) w:=by
 rcases h with⟨rfl,h0⟩|⟨b,rfl,_,hb⟩
 ·obtain⟨l,hl⟩:=zcs k;have:=Maps.look_nil (w:=w) false wd_keyed zaG (zfj w) hl;rw[yo (show s k%M=0%M from h0 k)];unfold wv;rw[zn,zn,zn,zn];simpa using this
 ·rw[hb.look zaG zfj k,znd]
theorem zqQ (b:Nat) (c:ByteArray) (o:Option Nat) (w:World):(Instr.field 95 (Z2 b c (.map o)) 0).run prog w=.ok (wv b) w:=by kernel_rfl
theorem acc_f1 (b:Nat) (c:ByteArray) (o:Option Nat) (w:World):(Instr.field 95 (Z2 b c (.map o)) 1).run prog w=.ok (.string c) w:=by kernel_rfl
theorem acc_f2 (b:Nat) (c:ByteArray) (o:Option Nat) (w:World):(Instr.field 95 (Z2 b c (.map o)) 2).run prog w=.ok (.map o) w:=by kernel_rfl
abbrev g2 (w:World) (kind a key:Nat):World:=((w.alloc (.cells (zel kind a key) 217)).alloc (.cells #[.int .u64 0,.int .u64 0,.int .u64 0,.int .u64 0] 24)).drew
theorem zfT (w:World) (kind a key:Nat):Below w.heap.size w (g2 w kind a key):=(bal (bal (Below.refl _ w) _) _).drew
theorem zgU {base tb:Nat} {T:TS} {V:TV} (a key:Nat) (w:World) (h:Tr base tb T V w):
  Calls prog 202 #[.pointer (some ⟨tb,0,none⟩),ZT 0 a key] w fun e w'=>e=.returned (wv (T.acc a).bal)/\Below w.heap.size w w':=by
 have h2:=h.below (zfT w 0 a key);obtain⟨f,hf,hf'⟩:=h2.acc.map;obtain⟨sv,e1,e3,e4,e5⟩:=h2.acc.read a hf';have hlk:=hf.look YA Yj a;rw[e1] at hlk;have c0:=h2.row.cell (i:=0) (by decide);rw[show trC V 0=.map (some V.ab) from rfl] at c0;obtain⟨o,rfl⟩:=e3.is;generalize(T.acc a).bal=bl at*;generalize(T.acc a).code=cd at*;clear h h2 hf hf' e1 e3 e4 e5;have hfd:=zqQ bl cd o;go_enter func202,ntmps202;go_wp2
 go_region
 go_wp2;refine bodyPost_ret (v:=wv bl) (by simp[results,results202,go_sem]) rfl ⟨rfl,(bal (bal (Below.refl _ w) _) _).drew⟩
theorem zer {base tb:Nat} {T:TS} {V:TV} (a key:Nat) (w:World) (h:Tr base tb T V w):
  Calls prog 202 #[.pointer (some ⟨tb,0,none⟩),ZT 1 a key] w fun e w'=>e=.returned (wv ((T.acc a).slots key))/\Below w.heap.size w w':=by
 have h2:=h.below (zfT w 1 a key);obtain⟨f,hf,hf'⟩:=h2.acc.map;obtain⟨sv,e1,e3,e4,e5⟩:=h2.acc.read a hf';have hlk:=hf.look YA Yj a;rw[e1] at hlk;have c0:=h2.row.cell (i:=0) (by decide);rw[show trC V 0=.map (some V.ab) from rfl] at c0;obtain⟨o,rfl⟩:=e3.is;have hsl:=zg6 e3 key;generalize(T.acc a).slots key=r at*;generalize(T.acc a).bal=bl at*;generalize(T.acc a).code=cd at*;clear h h2 hf hf' e1 e3 e4 e5;have hfd:=acc_f2 bl cd o;go_enter func202,ntmps202;go_wp2
 go_region
 go_wp2;refine bodyPost_ret (v:=wv r) (by simp[results,results202,go_sem]) rfl ⟨rfl,(bal (bal (Below.refl _ w) _) _).drew⟩
end
section
open Go.Maps
def Yt (T:TS) (kind a key v:Nat):TS:=
 if kind=0 then{T with acc:=Zv T.acc a {T.acc a with bal:=v}} else if kind=1 then{T with acc:=Zv T.acc a {T.acc a with slots:=zau (T.acc a).slots key v}} else{T with pas:=fun b k=>if b%M=a%M/\k%M=key%M then v else T.pas b k}
theorem Accs.isMap {ab n k:Nat} {A:Nat->Acc} {sb:Nat->Value} {w:World} (h:Accs ab n A sb w) (hk:ZZ ab A sb k):∃es cl,w.heap[k]? =some (.map es cl):=by
 rcases hk with rfl|⟨m,h1,h2⟩
 ·obtain⟨f,h1,_⟩:=h.map;exact h1.is
 ·rcases h.slot m h1 with⟨e,_⟩|⟨b,e,_,h3⟩
  ·rw[e] at h2;cases h2
  ·rw[e] at h2;injection h2 with h2;injection h2 with h2;subst h2;exact h3.is
theorem yf {w:World} {base e size n k:Nat} {v:Value} {xs:List Value} (ho:w.ownsRow base e size v n xs) (hk:∃es cl,w.heap[k]? =some (.map es cl)):v.ownBlock≠some k:=fun h=>by
 obtain⟨es,cl,h1⟩:=hk;rcases ho.2 with⟨h2,_⟩|⟨g,cap,cur,h2,_,h3,_⟩
 ·rw[h2] at h;cases h
 ·rw[h2] at h;obtain rfl:g=k:=by simpa[Value.ownBlock] using h
  rw[h1] at h3;cases h3
theorem ZN {w:World} {b T N k:Nat} {f:Nat->Value} (hr:w.rowIs b T N f) (hk:∃es cl,w.heap[k]? =some (.map es cl)):b≠k:=fun e=>by
 subst e;obtain⟨es,cl,h1⟩:=hk;obtain⟨c,h2,_⟩:=hr;rw[h1] at h2;cases h2
theorem zbU {w:World} {k:Nat} (hz:Zr w) (hk:∃es cl,w.heap[k]? =some (.map es cl)):0≠k:=fun e=>by
 subst e;obtain⟨es,cl,h1⟩:=hk;obtain⟨⟨z0,_⟩,_⟩:=hz;simp[World.cell?,h1] at z0
theorem Lo.tv {w:World} {base:Nat} {lv:Value} {tv:List Value} {L:List LogE} (h:Lo w base lv tv L) {t:Value} (ht:t∈tv):∃l,Wds w base t l:=by
 obtain⟨i,hi,e⟩:=List.getElem_of_mem ht;have h1:i<L.length:=by rw[<-h.1];exact hi
 exact⟨_,h.2.2 i L[i] t (List.getElem?_eq_getElem h1) (by rw[List.getElem?_eq_getElem hi,e])⟩
def TTo (base tb:Nat) (T:TS) (V:TV) (T':TS) (m:Nat) (w w':World):Prop:=∃V' S,Tr base tb T' V' w'/\V'.n<=V.n+m/\Kb S w w'/\(∀k∈S,zG tb T V k)/\(∀k,zG tb T' V' k->zG tb T V k\/w.heap.size<=k)/\V'.ab=V.ab
theorem Tr.to {base tb:Nat} {T:TS} {V:TV} {w w':World} (h:Tr base tb T V w) (hk:Below w.heap.size w w'):TTo base tb T V T 0 w w':=⟨V,[],h.below hk,Nat.le_refl _,Kb.of_below hk,by simp,fun k hk=>Or.inl hk,rfl⟩
theorem TTo.pre {base tb m:Nat} {T T1:TS} {V:TV} {w x w1:World} (hb:Below w.heap.size w x) (h:TTo base tb T V T1 m x w1):TTo base tb T V T1 m w w1:=by
 obtain⟨V1,S,h1,h2,h3,h4,h5,h6⟩:=h;refine⟨V1,S,h1,h2,(Kb.of_below hb).trans h3 (fun i hi=>Or.inl hi),h4,fun k hk=>(h5 k hk).imp id (fun h=>Nat.le_trans hb.size h),h6⟩
theorem TTo.below {base tb m:Nat} {T T1:TS} {V:TV} {w x w1:World} (h:TTo base tb T V T1 m w x) (hb:Below x.heap.size x w1):TTo base tb T V T1 m w w1:=by
 obtain⟨V1,S,h1,h2,h3,h4,h5,h6⟩:=h;exact⟨V1,S,h1.below hb,h2,h3.below hb,h4,h5,h6⟩
theorem Tr.acc_to {base tb n' a:Nat} {T:TS} {V:TV} {w w':World} {A':Acc} {sv:Value} {S:List Nat} (h:Tr base tb T V w) (hk:Kb S w w') (hS:∀k∈S,ZZ V.ab T.acc V.sb k) (hn:V.n<=n') (hsv:∀b,sv=.map (some b)->ZZ V.ab T.acc V.sb b\/w.heap.size<=b) (hA:Accs V.ab n' (Zv T.acc a A') (Zv V.sb a sv) w'):
  Tr base tb {T with acc:=Zv T.acc a A'} {V with n:=n',sb:=Zv V.sb a sv} w'/\∀k,zG tb {T with acc:=Zv T.acc a A'} {V with n:=n',sb:=Zv V.sb a sv} k->zG tb T V k\/w.heap.size<=k:=by
 have ha:∀k,ZZ V.ab (Zv T.acc a A') (Zv V.sb a sv) k->ZZ V.ab T.acc V.sb k\/w.heap.size<=k:=by
  intro k hk;rcases hk with rfl|⟨m,h1,h2⟩
  ·exact Or.inl (Or.inl rfl)
  ·by_cases e:m%M=a%M
   ·rw[YE e] at h2;exact hsv k h2
   ·rw[yC e] at h1 h2;exact Or.inl (Or.inr ⟨m,h1,h2⟩)
 have hm:∀k∈S,∃es cl,w.heap[k]? =some (.map es cl):=fun k hk=>h.acc.isMap (hS k hk)
 refine⟨⟨hk.row h.row (fun e=>ZN h.row (hm _ e) rfl),hA,(h.pas.kb hk (fun e=>h.pn (hS _ e))).mono hn,hk.own h.ch (fun k e hS=>yf h.ch (hm k hS) e),h.lo.kb hk (fun k e hS=>yf h.lo.2.1 (hm k hS) e) (fun t ht k e hS=>by obtain⟨l,hl⟩:=h.lo.tv ht;exact yf hl (hm k hS) e),h.zr.kb hk (fun e=>zbU h.zr (hm _ e) rfl),Nat.le_trans h.hb hk.size,h.hb1,fun e=> ?_⟩,fun k hk=> ?_⟩
 ·rcases ha _ e with e|e
  ·exact h.pn e
  ·have:=h.pas.lt;exact absurd e (by show¬w.heap.size<=V.pb;omega)
 ·rcases hk with e|e|e
  ·exact Or.inl (Or.inl e)
  ·rcases ha _ e with e|e
   ·exact Or.inl (Or.inr (Or.inl e))
   ·exact Or.inr e
  ·exact Or.inl (Or.inr (Or.inr e))
theorem zii {base tb:Nat} {T:TS} {V:TV} (a v:Nat) (w:World) (h:Tr base tb T V w) (hn:V.n<900000000000):
  Calls prog 206 #[.map (some V.ab),wv a,wv v] w fun e w'=>e=.returned (.tuple #[])/\TTo base tb T V (Yt T 0 a 0 v) 2 w w':=by
 refine(ze0 a v w h.acc (by omega) h.zr).mono ?_;rintro e w' ⟨h1,⟨sv,h2,h3⟩,h4⟩;obtain⟨h5,h6⟩:=h.acc_to h4 (fun k hk=>Or.inl (by simpa using hk)) (Nat.le_succ _) (fun b e=>Or.inl (h2 b e)) h3;exact⟨h1,_,[V.ab],h5,by show V.n+1<=_;omega,h4,fun k hk=>Or.inr (Or.inl (Or.inl (by simpa using hk))),h6,rfl⟩
theorem zmR {base tb:Nat} {T:TS} {V:TV} (a key v:Nat) (w:World) (h:Tr base tb T V w) (hn:V.n<900000000000):
  Calls prog 207 #[.map (some V.ab),wv a,wv key,wv v] w fun e w'=>e=.returned (.tuple #[])/\TTo base tb T V (Yt T 1 a key v) 2 w w':=by
 refine(zjt a key v w h.acc hn h.zr).mono ?_;rintro e w' ⟨h1,⟨sv,h2,h3⟩,S,h4,h7⟩;obtain⟨h5,h6⟩:=h.acc_to h4 h7 (Nat.le_add_right _ 2) h2 h3;exact⟨h1,_,S,h5,by show V.n+2<=_;omega,h4,fun k hk=>Or.inr (Or.inl (h7 k hk)),h6,rfl⟩
abbrev p2 (w:World) (kind a key v:Nat):World:=((w.alloc (.cells (zel kind a key) 217)).alloc (wc v)).drew
theorem zaW (w:World) (kind a key v:Nat):Below w.heap.size w (p2 w kind a key v):=(bal (bal (Below.refl _ w) _) _).drew
theorem ze4 {base tb:Nat} {T:TS} {V:TV} (a key v:Nat) (w:World) (h:Tr base tb T V w) (hn:V.n<900000000000):
  Calls prog 159 #[.pointer (some ⟨tb,0,none⟩),ZT 0 a key,wv v] w fun e w'=>e=.returned (.tuple #[])/\TTo base tb T V (Yt T 0 a key v) 2 w w':=by
 have h2:=h.below (zaW w 0 a key v);have HS:=zb (zii a v _ h2 hn);have HB:=zb (zaW w 0 a key v);have c0:=h2.row.cell (i:=0) (by decide);rw[show trC V 0=.map (some V.ab) from rfl] at c0;have HT:Hid (Yt T 0 a key v=Yt T 0 a 0 v):=rfl;clear h h2;go_enter func159,ntmps159;go_wp2
 go_region_with (refine HS.out.mono ?_;rintro e w1 ⟨rfl,hto⟩)
 all_goals (
  have HO:Hid (TTo base tb T V (Yt T 0 a key v) 2 w w1):=by rw[HT.out];exact hto.pre HB.out
  clear hto;go_wp2;go_end0;exact⟨rfl,HO.out⟩)
theorem zc2 {base tb:Nat} {T:TS} {V:TV} (a key v:Nat) (w:World) (h:Tr base tb T V w) (hn:V.n<900000000000):
  Calls prog 159 #[.pointer (some ⟨tb,0,none⟩),ZT 1 a key,wv v] w fun e w'=>e=.returned (.tuple #[])/\TTo base tb T V (Yt T 1 a key v) 2 w w':=by
 have h2:=h.below (zaW w 1 a key v);have HS:=zb (zmR a key v _ h2 hn);have HB:=zb (zaW w 1 a key v);have c0:=h2.row.cell (i:=0) (by decide);rw[show trC V 0=.map (some V.ab) from rfl] at c0;clear h h2;go_enter func159,ntmps159;go_wp2
 go_region_with (refine HS.out.mono ?_;rintro e w1 ⟨rfl,hto⟩)
 all_goals (
  have HO:Hid (TTo base tb T V (Yt T 1 a key v) 2 w w1):=hto.pre HB.out;clear hto;go_wp2;go_end0;exact⟨rfl,HO.out⟩)
end
section
open Go.Maps
theorem zmp:Own 202:=fun _ _=>by kernel_rfl
theorem info_ch:(prog.info? 220).map (fun i=>(i.zero,i.size,i.bytes))=some (some (.agg #[.int .i64 0,.int .u64 0,.int .u64 0,.int .u64 0,.int .u64 0,.int .u64 0,.int .u64 0,.int .u64 0,.int .u64 0,.int .u64 0,.int .u64 0,.int .u64 0,.int .u64 0]),13,104):=by kernel_rfl
theorem ty_ch:prog.underlying 129=some (.slice 220):=by kernel_rfl
def Yo (T:TS) (kind a key v:Nat):TS:=Yt {T with ch:=T.ch++[⟨kind,a,key,zjq T kind a key⟩]} kind a key v
theorem zp6 (l:List Chg) (c:Chg):chL (l++[c])=chL l++chC c:=by simp[chL]
theorem trC_cv (V:TV) (v':Value):(fun i=>if i=2 then v' else trC V i)=trC {V with cv:=v'}:=by
 funext i;by_cases h:i=2
 ·subst h;rfl
 ·simp only[trC,if_neg h]
theorem zkV:(220:Nat)≠112:=by decide
theorem tCh_Wd:(220:Nat)≠24:=by decide
theorem zfu:(131:Nat)≠220:=by decide
theorem zge:(131:Nat)≠112:=by decide
theorem zhC:(131:Nat)≠24:=by decide
theorem Tr.ch_to {base tb:Nat} {T:TS} {V:TV} {w w':World} {v':Value} {c':List Chg} (h:Tr base tb T V w) (hu:Up V.cv.ownBlock.toList tb 2 v' w w') (ho:w'.ownsRow base 220 13 v' c'.length (chL c')) (hf:Fresh w V.cv v') (hcb:∀k,V.cv.ownBlock=some k->base<=k):
  Tr base tb {T with ch:=c'} {V with cv:=v'} w'/\TTo base tb T V {T with ch:=c'} 0 w w':=by
 have hS:∀k∈tb::V.cv.ownBlock.toList,k=tb\/V.cv.ownBlock=some k:=fun k hk=>by simpa using hk
 have hnm:∀k,(∃es cl,w.heap[k]? =some (.map es cl))->k∉tb::V.cv.ownBlock.toList:=fun k hm hk=>by
  rcases hS k hk with e|e
  ·exact ZN h.row hm e.symm
  ·exact yf h.ch hm e
 have hdis:∀{e size n v xs b},w.ownsRow b e size v n xs->131≠e->220≠e->∀k,v.ownBlock=some k->k∉tb::V.cv.ownBlock.toList:=fun ho h1 h2 k hk hm=>by
  rcases hS k hm with e|e
  ·exact zJ h.row ho h1 k hk e
  ·rcases zcE h.ch ho h2 with e2|e2
   ·rw[e] at e2;cases e2
   ·exact e2 (e.trans hk.symm)
 have h0:0∉tb::V.cv.ownBlock.toList:=fun hm=>by
  rcases hS 0 hm with e|e
  ·have h1:=h.row.cell (i:=0) (by decide);rw[<-e] at h1;rw[h.zr.1.1] at h1;cases h1
  ·have:=hcb 0 e;have:=h.hb1;omega
 have hT:Tr base tb {T with ch:=c'} {V with cv:=v'} w':=by
  refine⟨?_,h.acc.kb hu.kb (fun k hk hm=>hnm k (h.acc.isMap hm) hk),h.pas.kb hu.kb (hnm _ h.pas.is),ho,h.lo.kb hu.kb (hdis h.lo.2.1 zge zkV) (fun t ht=>by obtain⟨l,hl⟩:=h.lo.tv ht;exact hdis hl zhC tCh_Wd),h.zr.kb hu.kb h0,Nat.le_trans h.hb hu.kb.size,h.hb1,h.pn⟩;rw[<-trC_cv];exact hu.row h.row
 refine⟨hT,_,_,hT,Nat.le_refl _,hu.kb,fun k hk=> ?_,fun k hk=> ?_,rfl⟩
 ·rcases hS k hk with e|e
  ·exact Or.inl e
  ·exact Or.inr (Or.inr (Or.inr (Or.inl e)))
 ·rcases hk with e|e|e|e|e
  ·exact Or.inl (Or.inl e)
  ·exact Or.inl (Or.inr (Or.inl e))
  ·exact Or.inl (Or.inr (Or.inr (Or.inl e)))
  ·rcases hf with e2|e2
   ·exact Or.inl (Or.inr (Or.inr (Or.inr (Or.inl (e2▸e)))))
   ·exact Or.inr (e2 k e)
  ·exact Or.inl (Or.inr (Or.inr (Or.inr (Or.inr e))))
theorem zpa {S:List Nat} {w x:World} {a key v kind:Nat} (hk:Kb S (p2 w kind a key v) x) (h1:w.heap.size∉S) (h2:w.heap.size+1∉S):
  (x.cell? ⟨w.heap.size,0,none⟩=some (.int .i64 (kind:Int))/\x.cell? ⟨w.heap.size,1,none⟩=some (.int .u64 (za a 0))/\x.cell? ⟨w.heap.size,2,none⟩=some (.int .u64 (za a 1))/\x.cell? ⟨w.heap.size,3,none⟩=some (.int .u64 (za a 2))/\x.cell? ⟨w.heap.size,4,none⟩=some (.int .u64 (za a 3))/\
   x.cell? ⟨w.heap.size,5,none⟩=some (.int .u64 (za key 0))/\x.cell? ⟨w.heap.size,6,none⟩=some (.int .u64 (za key 1))/\x.cell? ⟨w.heap.size,7,none⟩=some (.int .u64 (za key 2))/\x.cell? ⟨w.heap.size,8,none⟩=some (.int .u64 (za key 3)))/\
  (x.cell? ⟨w.heap.size+1,0,none⟩=some (.int .u64 (za v 0))/\x.cell? ⟨w.heap.size+1,1,none⟩=some (.int .u64 (za v 1))/\x.cell? ⟨w.heap.size+1,2,none⟩=some (.int .u64 (za v 2))/\x.cell? ⟨w.heap.size+1,3,none⟩=some (.int .u64 (za v 3))):=by
 have q1:∀i,x.cell? ⟨w.heap.size,i,none⟩=(p2 w kind a key v).cell? ⟨w.heap.size,i,none⟩:=fun i=>World.cell?_of_block (hk.block _ (by simp;omega) h1)
 have q2:∀i,x.cell? ⟨w.heap.size+1,i,none⟩=(p2 w kind a key v).cell? ⟨w.heap.size+1,i,none⟩:=fun i=>World.cell?_of_block (hk.block _ (by simp) h2)
 simp only[q1,q2];simp[go_sem]
end
section
open Go.Maps
theorem ltq4 {i:Nat} (h:i<4):i=0\/i=1\/i=2\/i=3:=by omega
theorem ltq3 {i:Nat} (h:i<3):i=0\/i=1\/i=2:=by omega
theorem zbW (a:Addr) (j:Nat):(a.add j).block=a.block:=by
 unfold Addr.add;split<;>rfl
section
variable {s:Act} {x:World} {pos:String} {af:Array Edge} {g:Option (Nat×Bool)} {K:Act->World->Prop} {Q:Exit->Act->World->Prop}
theorem znz {kind at' key r t d:Nat} {ty:TypeId} (he:s.tmps.getD t undef=.agg #[.int .i64 (kind:Int),.int .u64 (za at' 0),.int .u64 (za at' 1),.int .u64 (za at' 2),.int .u64 (za at' 3),.int .u64 (za key 0),.int .u64 (za key 1),.int .u64 (za key 2),.int .u64 (za key 3),.int .u64 (za r 0),.int .u64 (za r 1),.int .u64 (za r 2),.int .u64 (za r 3)]) (hK:K (s.put (some d) (.slice (some ⟨x.heap.size,0,none⟩) 1 1)) (x.alloc (.cells #[.int .i64 (kind:Int),.int .u64 (za at' 0),.int .u64 (za at' 1),.int .u64 (za at' 2),.int .u64 (za at' 3),.int .u64 (za key 0),.int .u64 (za key 1),.int .u64 (za key 2),.int .u64 (za key 3),.int .u64 (za r 0),.int .u64 (za r 1),.int .u64 (za r 2),.int .u64 (za r 3)] 220))):
  Oper.wp prog ⟨some d,.buildSlice 129 1 #[(0,.tmp t)],ty,pos,af,g⟩ s x K Q:=by
 have he2:s.eval (.tmp t)=.agg #[.int .i64 (kind:Int),.int .u64 (za at' 0),.int .u64 (za at' 1),.int .u64 (za at' 2),.int .u64 (za at' 3),.int .u64 (za key 0),.int .u64 (za key 1),.int .u64 (za key 2),.int .u64 (za key 3),.int .u64 (za r 0),.int .u64 (za r 1),.int .u64 (za r 2),.int .u64 (za r 3)]:=he;have he3:s.tmps[t]?.getD undef=.agg #[.int .i64 (kind:Int),.int .u64 (za at' 0),.int .u64 (za at' 1),.int .u64 (za at' 2),.int .u64 (za at' 3),.int .u64 (za key 0),.int .u64 (za key 1),.int .u64 (za key 2),.int .u64 (za key 3),.int .u64 (za r 0),.int .u64 (za r 1),.int .u64 (za r 2),.int .u64 (za r 3)]:=by rw[<-Array.getD_eq_getD_getElem?];exact he
 go_simp;exact hK
theorem ziB {t1 t2 b off n c:Nat} {ad:Option Addr} {u:Value} {ty:TypeId} (h1:s.tmps.getD t1 undef=.pointer (some ⟨b,off,none⟩)) (h2:s.tmps.getD t2 undef=.slice ad n c) (hc:x.cell? ⟨b,off,none⟩=some u) (hf:x.frozen? ⟨b,off,none⟩=false) (hK:K (s.put none undef) (x.setCell ⟨b,off,none⟩ (.slice ad n c))):
  Oper.wp prog ⟨none,.store 129 (.tmp t1) (.tmp t2),ty,pos,af,g⟩ s x K Q:=by
 have e1:s.eval (.tmp t1)=.pointer (some ⟨b,off,none⟩):=h1;have e2:s.eval (.tmp t2)=.slice ad n c:=h2;go_simp;exact hK
theorem zaS {P:Program} {t1 t2 d:Nat} {ty t:TypeId} (base:Nat) (e:TypeId) (i:TypeInfo) (z:Value) (size bytes:Nat) (ht:P.underlying t=some (.slice e)) (hi:P.info? e=some i) (hz:i.zero=some z)
  (hsize:i.size=size) (hby:i.bytes=bytes) (hzs:z.cells.size=size) (hsz:0<size)
  (v:Value) (n:Nat) (xs:List Value) (hs:s.tmps.getD t1 undef=v) (hown:x.ownsRow base e size v n xs)
  (ad:Addr) (m c:Nat) (news:List Value) (hx:s.tmps.getD t2 undef=.slice (some ad) m c) (hl:news.length=m*size) (hnews:∀j u,news[j]? =some u->x.cell? (ad.add j)=some u) (h1:∀u∈news,u.oneCell'=true)
  (h63:n+m<=maxLen) (hbytes:(n+m)*bytes<=140737488355328) (hbase:base<=x.heap.size)
  (h:∀v' w',w'.ownsRow base e size v' (n+m) (xs++news)->x.grownBy w' v.ownBlock->Fresh x v v'->K (s.put (some d) v') w'):
  Oper.wp P ⟨some d,.call ⟨.builtin .append,#[.tmp t1,.tmp t2],#[t,t]⟩,ty,pos,af,none⟩ s x K Q:=by
 have h2:=zbn (P:=P) (ops:=#[]) (o:=⟨some d,.call ⟨.builtin .append,#[.tmp t1,.tmp t2],#[t,t]⟩,ty,pos,af,none⟩) (a:=s) (w:=x) (K:=K) (Q:=Q) (E:=True) rfl (.tmp t1) (.tmp t2) t rfl base e i z size bytes ht hi hz hsize hby hzs hsz v n xs hs hown ad m c news hx hl hnews h1 h63 hbytes hbase h;rw[if_pos (zs rfl)] at h2;exact h2
end
def CellAt (x:World) (cb kind at' key:Nat):Prop:=x.cell? ⟨cb,0,none⟩=some (.int .i64 (kind:Int))/\x.cell? ⟨cb,1,none⟩=some (.int .u64 (za at' 0))/\x.cell? ⟨cb,2,none⟩=some (.int .u64 (za at' 1))/\x.cell? ⟨cb,3,none⟩=some (.int .u64 (za at' 2))/\x.cell? ⟨cb,4,none⟩=some (.int .u64 (za at' 3))/\
   x.cell? ⟨cb,5,none⟩=some (.int .u64 (za key 0))/\x.cell? ⟨cb,6,none⟩=some (.int .u64 (za key 1))/\x.cell? ⟨cb,7,none⟩=some (.int .u64 (za key 2))/\x.cell? ⟨cb,8,none⟩=some (.int .u64 (za key 3))
theorem zbh {x:World} {b o:Nat} {v:Value} (h:x.cell? ⟨b,o,none⟩=some v):b<x.heap.size:=by
 cases e:x.heap[b]? with
 |none=>simp[World.cell?,e] at h
 |some ob=>exact(Array.getElem?_eq_some_iff.1 e).1
theorem CellAt.below {w x:World} {cb kind at' key:Nat} (h:CellAt w cb kind at' key) (hb:Below w.heap.size w x):CellAt x cb kind at' key:=by
 obtain⟨q0,q1,q2,q3,q4,q5,q6,q7,q8⟩:=h;have hl:cb<w.heap.size:=zbh q0;have e:∀i,x.cell? ⟨cb,i,none⟩=w.cell? ⟨cb,i,none⟩:=fun i=>hb.cell hl
 exact⟨(e 0).trans q0,(e 1).trans q1,(e 2).trans q2,(e 3).trans q3,(e 4).trans q4,(e 5).trans q5,(e 6).trans q6,(e 7).trans q7,(e 8).trans q8⟩
def PhS (base tb:Nat) (V:TV) (c':List Chg) (w:World):Nat->World->Prop
 |0,x=>Below w.heap.size w x
 |1,x=>Below w.heap.size w x
 |2,x=>Below w.heap.size w x
 |3,x=>Kb V.cv.ownBlock.toList w x
 |_,x=>∃v',x.ownsRow base 220 13 v' c'.length (chL c')/\Fresh w V.cv v'/\Up V.cv.ownBlock.toList tb 2 v' w x
theorem ziq {base tb:Nat} {V:TV} {c':List Chg} {w x:World} {k:Nat} (h:PhS base tb V c' w k x) (hk:k<=2):Below w.heap.size w x:=by
 match k,hk,h with
 |0,_,h=>exact h
 |1,_,h=>exact h
 |2,_,h=>exact h
def RelS (tb:Nat) (V:TV):Nat->World->World->Prop
 |0,x,x'=>Below x.heap.size x x'
 |1,x,x'=>Below x.heap.size x x'
 |2,x,x'=>True
 |_,x,x'=>Kb [tb] x x'
def OneL (c:Chg):Kp:=fun p v x=>∃q,v=.slice (some ⟨q,0,none⟩) 1 1/\(p<=2->q<x.heap.size/\∀(j:Nat) u,(chC c)[j]? =some u->x.cell? ((⟨q,0,none⟩:Addr).add j)=some u)
def NewL (base:Nat) (V:TV) (c':List Chg) (w:World):Kp:=fun _ v x=>x.ownsRow base 220 13 v c'.length (chL c')/\Fresh w V.cv v
theorem zlW {base tb:Nat} {T:TS} {V:TV} {w:World} (h:Tr base tb T V w):tb∉V.cv.ownBlock.toList:=fun hm=>zJ h.row h.ch zfu tb (by simpa using hm) rfl
theorem set_r1 {base tb:Nat} {T:TS} {V:TV} {kind at' key r cb:Nat} {Q:Exit->Act->World->Prop} (a:Act) (w:World) (h:Tr base tb T V w) (hl:T.ch.length<1000000000) (hget:∀x,Below w.heap.size w x->Calls prog 202 #[.pointer (some ⟨tb,0,none⟩),.agg #[.int .i64 (kind:Int),.int .u64 (za at' 0),.int .u64 (za at' 1),.int .u64 (za at' 2),.int .u64 (za at' 3),.int .u64 (za key 0),.int .u64 (za key 1),.int .u64 (za key 2),.int .u64 (za key 3)]] x fun e w'=>e=.returned (wv r)/\Below x.heap.size x w') (hbx:CellAt w cb kind at' key) (h0:Below w.heap.size w w.drew) (hsz:([6,7,8,9,10,11,12,13,14,15,16,17,18,19]:List Nat).all (fun d=>decide (d<a.tmps.size))=true) (c0:a.tmps.getD 0 undef=.pointer (some ⟨tb,0,none⟩)) (c4:a.tmps.getD 4 undef=.pointer (some ⟨cb,0,none⟩))
  (hok:∀(x:World) (z10:Value) (z11:Value),(PhS base tb V (T.ch++[⟨kind,at',key,r⟩]) w) 4 x->(OneL ⟨kind,at',key,r⟩) 4 z10 x->(NewL base V (T.ch++[⟨kind,at',key,r⟩]) w) 4 z11 x->Q .normal (zF a [(6,.pointer (some ⟨tb,0,none⟩)),(7,.pointer (some ⟨tb,0,none⟩)),(8,.pointer (some ⟨tb,0,none⟩)),(9,.pointer (some ⟨tb,2,none⟩)),(10,V.cv),(11,.agg #[.int .i64 (kind:Int),.int .u64 (za at' 0),.int .u64 (za at' 1),.int .u64 (za at' 2),.int .u64 (za at' 3),.int .u64 (za key 0),.int .u64 (za key 1),.int .u64 (za key 2),.int .u64 (za key 3)]),(12,.pointer (some ⟨tb,0,none⟩)),(13,.agg #[.int .i64 (kind:Int),.int .u64 (za at' 0),.int .u64 (za at' 1),.int .u64 (za at' 2),.int .u64 (za at' 3),.int .u64 (za key 0),.int .u64 (za key 1),.int .u64 (za key 2),.int .u64 (za key 3)]),(14,wv r),(15,.agg #[.int .i64 (kind:Int),.int .u64 (za at' 0),.int .u64 (za at' 1),.int .u64 (za at' 2),.int .u64 (za at' 3),.int .u64 (za key 0),.int .u64 (za key 1),.int .u64 (za key 2),.int .u64 (za key 3),.int .u64 (za r 0),.int .u64 (za r 1),.int .u64 (za r 2),.int .u64 (za r 3)]),(16,z10),(17,z11),(18,.pointer (some ⟨tb,0,none⟩)),(19,.pointer (some ⟨tb,2,none⟩))]) x):
  (Code.region 1 #[⟨some 6,.move (.tmp 0),96,"trail.go:71",#[],none⟩,⟨some 7,.move (.tmp 0),96,"trail.go:71",#[],none⟩,⟨some 8,.nilCheck (.tmp 7),0,"trail.go:71",#[⟨1,.data⟩],none⟩,⟨some 9,.fieldAddr 131 (.tmp 8) 2,0,"trail.go:71",#[⟨2,.data⟩],none⟩,⟨some 10,.load 129 (.tmp 9),129,"trail.go:71",#[⟨3,.data⟩],none⟩,⟨some 11,.load 217 (.tmp 4),217,"trail.go:71",#[],none⟩,⟨some 12,.move (.tmp 0),96,"trail.go:71",#[],none⟩,⟨some 13,.load 217 (.tmp 4),217,"trail.go:71",#[],none⟩,⟨some 14,.call ⟨.value (.func 202),#[.tmp 12,.tmp 13],#[96,217]⟩,24,"trail.go:71",#[⟨6,.data⟩,⟨7,.data⟩],none⟩,⟨some 15,.build 220 #[(0,.tmp 11),(1,.tmp 14)],220,"trail.go:71",#[⟨5,.data⟩,⟨8,.data⟩],none⟩,⟨some 16,.buildSlice 129 1 #[(0,.tmp 15)],129,"trail.go:71",#[⟨9,.data⟩],none⟩,⟨some 17,.call ⟨.builtin Builtin.append,#[.tmp 10,.tmp 16],#[129,129]⟩,129,"trail.go:71",#[⟨4,.data⟩,⟨10,.data⟩,⟨8,.chain⟩],none⟩,⟨some 18,.nilCheck (.tmp 6),0,"trail.go:71",#[⟨0,.data⟩,⟨0,.phase⟩,⟨1,.phase⟩,⟨2,.phase⟩,⟨3,.phase⟩,⟨4,.phase⟩,⟨5,.phase⟩,⟨6,.phase⟩,⟨7,.phase⟩,⟨8,.phase⟩,⟨9,.phase⟩,⟨10,.phase⟩,⟨11,.phase⟩],none⟩,⟨some 19,.fieldAddr 131 (.tmp 18) 2,0,"trail.go:71",#[⟨12,.data⟩,⟨0,.phase⟩,⟨1,.phase⟩,⟨2,.phase⟩,⟨3,.phase⟩,⟨4,.phase⟩,⟨5,.phase⟩,⟨6,.phase⟩,⟨7,.phase⟩,⟨8,.phase⟩,⟨9,.phase⟩,⟨10,.phase⟩,⟨11,.phase⟩],none⟩,⟨none,.store 129 (.tmp 19) (.tmp 17),0,"trail.go:71",#[⟨13,.data⟩,⟨11,.data⟩,⟨11,.chain⟩,⟨0,.phase⟩,⟨1,.phase⟩,⟨2,.phase⟩,⟨3,.phase⟩,⟨4,.phase⟩,⟨5,.phase⟩,⟨6,.phase⟩,⟨7,.phase⟩,⟨8,.phase⟩,⟨9,.phase⟩,⟨10,.phase⟩,⟨11,.phase⟩],none⟩] true).wp prog Q a w:=by
 refine ZR (PhS base tb V (T.ch++[⟨kind,at',key,r⟩]) w) (RelS tb V) [(0,.pointer (some ⟨tb,0,none⟩)),(4,.pointer (some ⟨cb,0,none⟩))] [(some 6,.v (.pointer (some ⟨tb,0,none⟩))),(some 7,.v (.pointer (some ⟨tb,0,none⟩))),(some 8,.v (.pointer (some ⟨tb,0,none⟩))),(some 9,.v (.pointer (some ⟨tb,2,none⟩))),(some 10,.v (V.cv)),(some 11,.v (.agg #[.int .i64 (kind:Int),.int .u64 (za at' 0),.int .u64 (za at' 1),.int .u64 (za at' 2),.int .u64 (za at' 3),.int .u64 (za key 0),.int .u64 (za key 1),.int .u64 (za key 2),.int .u64 (za key 3)])),(some 12,.v (.pointer (some ⟨tb,0,none⟩))),(some 13,.v (.agg #[.int .i64 (kind:Int),.int .u64 (za at' 0),.int .u64 (za at' 1),.int .u64 (za at' 2),.int .u64 (za at' 3),.int .u64 (za key 0),.int .u64 (za key 1),.int .u64 (za key 2),.int .u64 (za key 3)])),(some 14,.v (wv r)),(some 15,.v (.agg #[.int .i64 (kind:Int),.int .u64 (za at' 0),.int .u64 (za at' 1),.int .u64 (za at' 2),.int .u64 (za at' 3),.int .u64 (za key 0),.int .u64 (za key 1),.int .u64 (za key 2),.int .u64 (za key 3),.int .u64 (za r 0),.int .u64 (za r 1),.int .u64 (za r 2),.int .u64 (za r 3)])),(some 16,.l (OneL ⟨kind,at',key,r⟩)),(some 17,.l (NewL base V (T.ch++[⟨kind,at',key,r⟩]) w)),(some 18,.v (.pointer (some ⟨tb,0,none⟩))),(some 19,.v (.pointer (some ⟨tb,2,none⟩))),(none,.v undef)] [8,10,11,14] [4,5,7] (by kernel_rfl) hsz (Zi c0 (Zi c4 rfl)) (by kernel_rfl) h0
  (zf _ _ _ rfl rfl (fun s x hph hdf hv hl K hK=>by
   refine ZK zmp (ev2 (hv 12 _ rfl) (hv 13 _ rfl)) (hget x hph) ?_;rintro e y ⟨rfl,hB⟩;have hph:Below w.heap.size w x:=hph;exact⟨_,rfl,hK _ y (hph.trans (hB.mono hph.size)) hB nn1 rfl⟩
  )
  (zf _ _ _ rfl rfl (fun s x hph hdf hv hl K hK=>by
   have hph:Below w.heap.size w x:=hph;have hB:Below x.heap.size x (x.alloc (.cells #[.int .i64 (kind:Int),.int .u64 (za at' 0),.int .u64 (za at' 1),.int .u64 (za at' 2),.int .u64 (za at' 3),.int .u64 (za key 0),.int .u64 (za key 1),.int .u64 (za key 2),.int .u64 (za key 3),.int .u64 (za r 0),.int .u64 (za r 1),.int .u64 (za r 2),.int .u64 (za r 3)] 220)):=bal (Below.refl _ x) _;have hL:=zV x #[.int .i64 (kind:Int),.int .u64 (za at' 0),.int .u64 (za at' 1),.int .u64 (za at' 2),.int .u64 (za at' 3),.int .u64 (za key 0),.int .u64 (za key 1),.int .u64 (za key 2),.int .u64 (za key 3),.int .u64 (za r 0),.int .u64 (za r 1),.int .u64 (za r 2),.int .u64 (za r 3)] 220;exact znz (hv 15 _ rfl) (hK _ _ (hph.trans (hB.mono hph.size)) hB nn1 ⟨x.heap.size,rfl,fun _=>⟨by simp,hL⟩⟩)
  )
  (zf _ _ _ rfl rfl (fun s x hph hdf hv hl K hK=>by
   have h16:=(hl 16 _ rfl);obtain⟨q,e16,hq⟩:=h16;obtain⟨hq1,hq2⟩:=hq (by omega);have hph:Below w.heap.size w x:=hph;obtain⟨i0,hi0,hz0,hz1,hz2⟩:=info_parts info_ch;refine zaS base 220 i0 _ 13 104 ty_ch hi0 hz0 hz1 hz2 rfl (by decide) V.cv T.ch.length (chL T.ch) (hv 10 _ rfl) (zj h.ch hph) ⟨q,0,none⟩ 1 1 (chC ⟨kind,at',key,r⟩) e16 rfl hq2 (by intro u hu;simp[chC] at hu;rcases hu with rfl|rfl|rfl|rfl|rfl|rfl|rfl|rfl|rfl|rfl|rfl|rfl|rfl<;>rfl) (by unfold maxLen;omega) (by omega) (Nat.le_trans h.hb hph.size) ?_;intro v' y ho hg hf;have ho2:y.ownsRow base 220 13 v' (T.ch++[(⟨kind,at',key,r⟩:Chg)]).length (chL (T.ch++[(⟨kind,at',key,r⟩:Chg)])):=by rw[zp6,List.length_append];exact ho
   exact hK v' y ((Kb.of_below hph).grown hg (fun k hk=>Or.inl (by rw[hk];simp))) trivial nn1 ⟨ho2,hf.imp id (fun h k hk=>Nat.le_trans hph.size (h k hk))⟩
  )
  (zf _ _ _ rfl rfl (fun s x hph hdf hv hl K hK=>by
   have h17:=(hl 17 _ rfl);obtain⟨ho,hf⟩:=h17;generalize e17:s.tmps.getD 17 undef=v17 at ho hf;have hph:Kb V.cv.ownBlock.toList w x:=hph;have hr:=hph.row h.row (zlW h);have hne:=zJ hr ho zfu;obtain⟨ad,cp,rfl⟩:=zS ho;exact ziB (hv 19 _ rfl) e17 (hr.cell (i:=2) (by decide)) (hr.frozen 2) (hK undef _ ⟨_,yR ho hne 2 _,hf,Up.mk' _ hph (zlW h) h.row.lt⟩ ((Kb.refl [tb] x).setCell (Or.inl (by simp)) _) (fun _=>rfl) rfl)
  )
  True.intro))))
  (zf _ _ _ rfl rfl (fun k s x hk hlo hhi hph hdf hv hl K hK=>by
   have k2:=(h.below (ziq hph (by have:=hhi 2 11 rfl (by kernel_rfl);omega))).row.cell (i:=2) (by decide);rw[show trC V 2=V.cv from rfl] at k2;exact zv (fun w=>by kernel_rfl) (hv 9 _ rfl) k2 (hK _ x rfl nn1 rfl)
  )
  (zf _ _ _ rfl rfl (fun k s x hk hlo hhi hph hdf hv hl K hK=>by
   obtain⟨q0,q1,q2,q3,q4,q5,q6,q7,q8⟩:=hbx.below (ziq hph (by have:=hhi 1 10 rfl (by kernel_rfl);omega));have e4:=hv 4 _ rfl;have f4:s.eval (.tmp 4)=_:=e4;clear hv hl hlo hhi hdf;go_simp;exact(hK _ x rfl nn1 rfl)
  )
  (zf _ _ _ rfl rfl (fun k s x hk hlo hhi hph hdf hv hl K hK=>by
   obtain⟨q0,q1,q2,q3,q4,q5,q6,q7,q8⟩:=hbx.below (ziq hph (by have:=hhi 0 8 rfl (by kernel_rfl);omega));have e4:=hv 4 _ rfl;have f4:s.eval (.tmp 4)=_:=e4;clear hv hl hlo hhi hdf;go_simp;exact(hK _ x rfl nn1 rfl)
  )
  True.intro)))
  (zjT (And.intro (fun p v x x' hne hpl hph hrel ht=>by
   obtain⟨q,e,hq⟩:=ht;have hp2:p≠1:=fun e2=>hne (by rw[e2];rfl)
   refine⟨q,e,fun hp3=> ?_⟩;obtain rfl:p=0:=by omega
   obtain⟨h1,h2⟩:=hq (by omega);have hB:Below x.heap.size x x':=hrel;exact⟨Nat.lt_of_lt_of_le h1 hB.size,fun j u hj=>(hB.cell (by rw[zbW];exact h1)).trans (h2 j u hj)⟩)
  (And.intro (fun p v x x' hne hpl hph hrel ht=>by
   have hp2:p≠2:=fun e2=>hne (by rw[e2];rfl)
   rcases ltq4 hpl with rfl|rfl|rfl|rfl
   ·exact⟨zj ht.1 hrel,ht.2⟩
   ·exact⟨zj ht.1 hrel,ht.2⟩
   ·exact absurd rfl hp2
   ·have hk:Kb V.cv.ownBlock.toList w x:=hph;have hr:=hk.row h.row (zlW h);exact⟨Kb.own (S:=[tb]) hrel ht.1 (fun k hk2=>by simpa using zJ hr ht.1 zfu k hk2),ht.2⟩)
  trivial))) ?_
 intro g x hph hT;exact hok x (g 10) (g 11) hph (hT 10 _ _ rfl) (hT 11 _ _ rfl)
end
section
open Go.Maps
theorem TTo.comp {base tb m m':Nat} {T T1 T2:TS} {V V1:TV} {S:List Nat} {w w1 w2:World} (h2:V1.n<=V.n+m) (h3:Kb S w w1) (h4:∀k∈S,zG tb T V k) (h5:∀k,zG tb T1 V1 k->zG tb T V k\/w.heap.size<=k) (h6:V1.ab=V.ab) (k:TTo base tb T1 V1 T2 m' w1 w2):TTo base tb T V T2 (m+m') w w2:=by
 obtain⟨V2,S2,k1,k2,k3,k4,k5,k6⟩:=k;refine⟨V2,S++S2.filter (fun k=>decide (k<w.heap.size)),k1,by omega,(h3.mono (fun i hi=>List.mem_append_left _ hi)).trans k3 (fun i hi=> ?_),fun i hi=> ?_,fun i hi=> ?_,k6.trans h6⟩
 ·by_cases hl:i<w.heap.size
  ·exact Or.inl (List.mem_append_right _ (List.mem_filter.2 ⟨hi,by simpa using hl⟩))
  ·exact Or.inr (by omega)
 ·rcases List.mem_append.1 hi with e|e
  ·exact h4 i e
  ·obtain⟨e1,e2⟩:=List.mem_filter.1 e;rcases h5 i (k4 i e1) with e3|e3
   ·exact e3
   ·have:i<w.heap.size:=by simpa using e2
    omega
 ·rcases k5 i hi with e|e
  ·exact h5 i e
  ·exact Or.inr (Nat.le_trans h3.size e)
theorem Kb.undrew {S:List Nat} {w x:World} (h:Kb S w x):Kb S w.drew x:=⟨h.os,h.tape,h.output,h.size,h.block⟩
theorem zk1 {base tb:Nat} {T:TS} {V:TV} (kind at' key v r:Nat) (w:World) (h:Tr base tb T V w) (hr:r=zjq T kind at' key) (hl:T.ch.length<1000000000)
  (hget:∀x,Tr base tb T V x->Calls prog 202 #[.pointer (some ⟨tb,0,none⟩),ZT kind at' key] x fun e w'=>e=.returned (wv r)/\Below x.heap.size x w')
  (hput:∀T' V' x,Tr base tb T' V' x->V'.n<=V.n->Calls prog 159 #[.pointer (some ⟨tb,0,none⟩),ZT kind at' key,wv v] x fun e w'=>e=.returned (.tuple #[])/\TTo base tb T' V' (Yt T' kind at' key v) 2 x w'):
  Calls prog 154 #[.pointer (some ⟨tb,0,none⟩),ZT kind at' key,wv v] w fun e w'=>e=.returned (.tuple #[])/\TTo base tb T V (Yo T kind at' key v) 2 w w':=by
 go_enter func154,ntmps154;go_wp2;have hB:Below w.heap.size w ((w.alloc (.cells (zel kind at' key) 217)).alloc (wc v)):=bal (bal (Below.refl _ w) _) _;have h2:=h.below hB
 have hbx:CellAt ((w.alloc (.cells (zel kind at' key) 217)).alloc (wc v)) w.heap.size kind at' key:=by
  unfold CellAt;simp[go_sem]
 refine set_r1 (r:=r) (cb:=w.heap.size) _ _ h2 hl (fun x hx=>hget x (h2.below hx)) hbx (Below.refl _ _).drew rfl rfl rfl ?_;rintro x z10 z11 ⟨v',ho,hf,hu⟩ - -;have hcb:∀k,V.cv.ownBlock=some k->base<=k/\k<w.heap.size:=fun k hk=>h.ch.lt k hk
 obtain⟨hT,hTo⟩:=h2.ch_to hu ho hf (fun k hk=>(hcb k hk).1)
 obtain⟨⟨k0,k1,k2,k3,k4,k5,k6,k7,k8⟩,l0,l1,l2,l3⟩:=zpa hu.kb.undrew (fun hm=>by
  rcases List.mem_cons.1 hm with e|e
  ·have:=h.row.lt;omega
  ·have:=(hcb _ (by simpa using e)).2;omega) (fun hm=>by
  rcases List.mem_cons.1 hm with e|e
  ·have:=h.row.lt;omega
  ·have:=(hcb _ (by simpa using e)).2;omega)
 obtain⟨V1,S1,j1,j2,j3,j4,j5,j6⟩:=hTo;have HP:=zb (hput _ V1 x j1 (by omega))
 have HO:Hid (∀y,TTo base tb {T with ch:=T.ch++[⟨kind,at',key,r⟩]} V1 (Yt {T with ch:=T.ch++[⟨kind,at',key,r⟩]} kind at' key v) 2 x y->TTo base tb T V (Yo T kind at' key v) 2 w y):=by
  intro y hy;unfold Yo;rw[<-hr];exact TTo.pre hB (TTo.comp (m:=0) j2 j3 j4 j5 j6 hy)
 clear hT hu hf ho hcb j1 j2 j3 j4 j5 j6 h h2 hbx hB hget hput hl hr;simp only[zF,List.foldl_cons,List.foldl_nil,Act.put];simp only[sx9];go_wp2_with fail
 refine HP.out.mono ?_;rintro e y ⟨rfl,hy⟩;have HY:=zb (HO.out y hy);clear hy HO HP;go_wp2;go_end0;exact⟨rfl,HY.out⟩
theorem zmT {base tb:Nat} {T:TS} {V:TV} (at' key v:Nat) (w:World) (h:Tr base tb T V w) (hl:T.ch.length<1000000000) (hn:V.n<900000000000):
  Calls prog 154 #[.pointer (some ⟨tb,0,none⟩),ZT 0 at' key,wv v] w fun e w'=>e=.returned (.tuple #[])/\TTo base tb T V (Yo T 0 at' key v) 2 w w':=
 zk1 0 at' key v _ w h rfl hl (fun x hx=>zgU at' key x hx) (fun T' V' x hx hv=>ze4 at' key v x hx (by omega))
theorem zjw {base tb:Nat} {T:TS} {V:TV} (at' key v:Nat) (w:World) (h:Tr base tb T V w) (hl:T.ch.length<1000000000) (hn:V.n<900000000000):
  Calls prog 154 #[.pointer (some ⟨tb,0,none⟩),ZT 1 at' key,wv v] w fun e w'=>e=.returned (.tuple #[])/\TTo base tb T V (Yo T 1 at' key v) 2 w w':=
 zk1 1 at' key v _ w h rfl hl (fun x hx=>zer at' key x hx) (fun T' V' x hx hv=>zc2 at' key v x hx (by omega))
end
end cin
end Go.Proofs.YtohoajjdoihekaaGreatDoor
