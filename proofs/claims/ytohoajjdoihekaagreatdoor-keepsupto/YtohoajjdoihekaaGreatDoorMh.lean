import Derived.Test.YtohoajjdoihekaaGreatDoorLw
import Derived.Maps.OwnSet
import Derived.Maps.OwnOps
import Derived.DeepKeys4
set_option linter.unusedVariables false
set_option linter.unusedSimpArgs false
namespace Go.Proofs.YtohoajjdoihekaaGreatDoor
namespace cin
open Go.RowKit Go.Proofs.Tryz Tryz
set_option maxRecDepth 100000
set_option maxHeartbeats 8000000
section
variable {ops:Array Oper} {Q:Exit->Act->World->Prop}
theorem GP.upd2 {Ph:Nat->World->Prop} {tab:Tb} {calls:List Nat} {a:Act} {l:Array Bool} {s:Act} {x:World} {k:Nat}
  (G:GP ops Ph tab calls a l s x k) (hnd:(zH tab).Nodup) (hlt:∀d,d∈zH tab->d<a.tmps.size)
  {i:Nat} {d:Option Nat} {T:Kn} {v:Value} {x':World} {k':Nat} (hi:i<l.size) (hdv:tab[i]? =some (d,T))
  (hcl:∀i' j,(l.setIfInBounds i true).getD i' false=true->YZ ops i' j=true->(l.setIfInBounds i true).getD j false=true) (hcnt:∀(p c:Nat),calls[p]? =some c->((l.setIfInBounds i true).getD c false=true↔p<k')) (hkle:k'<=calls.length) (hF:Ph k' x') (hv:d=none->v=undef) (hT:T (k',undef) [] v x')
  (hst:∀(j:Nat) (dj:Option Nat) (Tj:Kn),tab[j]? =some (dj,Tj)->j≠i->Tj (k,undef) [] (yR s dj) x->Tj (k',undef) [] (yR s dj) x'):GP ops Ph tab calls a (l.setIfInBounds i true) (s.put d v) x' k':=by
 have hds:∀e,d=some e->e<s.tmps.size:=fun e he=>by rw[G.sz];exact hlt e (Yf (by rw[hdv,he]))
 have hother:∀(j:Nat) (dj:Option Nat) (Tj:Kn),tab[j]? =some (dj,Tj)->j≠i->yR (s.put d v) dj=yR s dj:=fun j dj Tj hj hne=>by
  cases dj with
  |none=>rfl
  |some e=>
   refine zaH s d v e fun e' he'=>⟨hds e' he',fun h=> ?_⟩
   subst h;exact hne (zen tab hnd j i e' Tj T hj (by rw[hdv,he']))
 refine⟨hcnt,hkle,hF, ?_, ?_,fun j hj=> ?_,fun j dj Tj hj hl=> ?_,hcl⟩
 ·cases d with
  |none=>exact G.sz
  |some e=>rw[zaG];exact G.sz
 ·cases d with
  |none=>exact G.df
  |some e=>rw[zce];exact G.df
 ·rw[<-G.out j hj];exact zaH s d v j fun e he=>⟨hds e he,fun h=>hj (h▸Yf (by rw[hdv,he]))⟩
 ·by_cases e:j=i
  ·subst e;rw[hdv] at hj;obtain⟨rfl,rfl⟩:=Prod.mk.inj (Option.some.inj hj);cases d with
   |none=>rw[hv rfl] at hT;exact hT
   |some e=>
    have:yR (s.put (some e) v) (some e)=v:=by
     show(s.put (some e) v).tmps.getD e undef=v;rw[zaj _ _ _ _ (hds e rfl),if_pos rfl]
    rw[this];exact hT
  ·rw[zQ l i j hi,if_neg (fun h=>e h.symm)] at hl;rw[hother j dj Tj hj e];exact hst j dj Tj hj e (G.kn j dj Tj hj hl)
def zgQ (ops:Array Oper) (tab:Tp) (bas:List (Nat×Value)):Bool:=(bas.all fun p=> !(zH (tbp tab)).contains p.1)||
 (((List.range ops.size).all fun j=>j==ops.size - 1||YZ ops (ops.size - 1) j)&&((List.range tab.length).all fun j=>j==ops.size - 1||(match tab[j]? with
  |some (some d,_)=>bas.all fun p=> !(d==p.1)
  |_=>true)))
theorem zdL {ops:Array Oper} {tab:Tp} {bas:List (Nat×Value)} (h:zgQ ops tab bas=true):(∀p∈bas,p.1∉zH (tbp tab))\/((∀j,j<ops.size->j≠ops.size - 1->YZ ops (ops.size - 1) j=true)/\∀(i:Nat) (q:Option Nat×Kp),tab[i]? =some q->¬i=ops.size - 1->∀p∈bas,∀{e:Nat},q.1=some e->¬e=p.1):=by
 unfold zgQ at h;rw[Bool.or_eq_true] at h;rcases h with h|h
 ·left;intro p hp hm;have:=List.all_eq_true.1 h p hp;simp only[Bool.not_eq_true',List.contains_eq_mem,decide_eq_false_iff_not] at this;exact this hm
 ·right;rw[Bool.and_eq_true] at h;refine⟨fun j hj hne=> ?_,fun i q hq hne p hp e he e2=> ?_⟩
  ·have:=List.all_eq_true.1 h.1 j (List.mem_range.2 hj);rw[Bool.or_eq_true] at this;rcases this with h2|h2
   ·exact absurd (by simpa using h2) hne
   ·exact h2
  ·have:=List.all_eq_true.1 h.2 i (List.mem_range.2 (List.getElem?_eq_some_iff.1 hq).1);rw[Bool.or_eq_true] at this;rcases this with h2|h2
   ·exact hne (by simpa using h2)
   ·obtain⟨d,T⟩:=q;dsimp only at he;subst he;rw[hq] at h2;have:=List.all_eq_true.1 h2 p hp;simp[e2] at this
theorem zgF (B:World->World->Prop) {id:Nat} {a:Act} {w:World} (hm:prog.follows .mixedOrders=true) (hdown:zeX ops=true) (Ph:Nat->World->Prop) (Rel:Nat->Act->World->World->Prop) (tab:Tp) (calls:List Nat)
  (hlen:tab.length=ops.size) (hnd:decide (zH (tbp tab)).Nodup=true) (hlt0:((zH (tbp tab)).all fun d=>decide (d<a.tmps.size))=true) (h0:Ph 0 w.drew)
  (bas:List (Nat×Value)) (hbas:∀p∈bas,a.tmps.getD p.1 undef=p.2) (hapart:zgQ ops tab bas=true)
  (hchain:((List.range (calls.length - 1)).all fun q=>zdg ops 3 (calls.getD (q+1) 0) (calls.getD q 0))=true) (hcn:decide calls.Nodup=true) (hcl:(calls.all fun c=>decide (c<ops.size))=true)
  (hstab:∀(j:Nat) (d:Option Nat) (T:Kp),tab[j]? =some (d,T)->∀p s x x',calls[p]? ≠some j->p<calls.length->Ph p x->Rel p s x x'->T p (yR s d) x->T (p+1) (yR s d) x')
  (hst2:∀(j:Nat) (d:Option Nat) (T:Kp),tab[j]? =some (d,T)->∀p v x x',Ph p x->B x x'->T p v x->T p v x')
  (hpure:∀(i:Nat) (o:Oper) (d:Option Nat) (T:Kp),ops[i]? =some o->tab[i]? =some (d,T)->i∉calls->∀k s x,k<=calls.length->(∀q c,calls[q]? =some c->zdg ops 3 i c=true->q<k)->(∀q c,calls[q]? =some c->zdg ops 3 c i=true->k<=q)->Ph k x->s.defers=a.defers->(∀p∈bas,s.tmps.getD p.1 undef=p.2)->
   (∀e∈o.after,Region.binds .any e=true->∀(d':Option Nat) (T':Kp),tab[e.on]? =some (d',T')->T' k (yR s d') x)->
   (Region.wanted o (yielded ops s.tmps)=true/\∀K:Act->World->Prop,(∀v x',Ph k x'->B x x'->(d=none->v=undef)->T k v x'->K (s.put d v) x')->Oper.wp prog o s x K Q))
  (himp:∀(p i:Nat) (o:Oper) (d:Option Nat) (T:Kp),calls[p]? =some i->ops[i]? =some o->tab[i]? =some (d,T)->∀s x,Ph p x->s.defers=a.defers->(∀p∈bas,s.tmps.getD p.1 undef=p.2)->
   (∀e∈o.after,Region.binds .any e=true->∀(d':Option Nat) (T':Kp),tab[e.on]? =some (d',T')->T' p (yR s d') x)->
   (Region.wanted o (yielded ops s.tmps)=true/\∀K:Act->World->Prop,(∀v x',Ph (p+1) x'->Rel p s x x'->(d=none->v=undef)->T (p+1) v x'->K (s.put d v) x')->Oper.wp prog o s x K Q))
  (hdone:∀(vs:List Value) x,Ph calls.length x->vs.length=tab.length->(∀(i:Nat) (d:Option Nat) (T:Kp),tab[i]? =some (d,T)->T calls.length (vs.getD i undef) x)->Q .normal (zF a (zcT (tbp tab) vs)) x):
  (Code.region id ops true).wp prog Q a w:=by
 have hnd:=of_decide_eq_true hnd;have hcn:=of_decide_eq_true hcn;have hlt:∀d,d∈zH (tbp tab)->d<a.tmps.size:=fun d hd=>of_decide_eq_true (List.all_eq_true.1 hlt0 d hd)
 have hlen2:(tbp tab).length=ops.size:=by unfold tbp;simpa using hlen
 refine zcr hm hdown (fun l s x=>∃k,GP ops Ph (tbp tab) calls a l s x k/\(l.getD (ops.size - 1) false=false->∀p∈bas,s.tmps.getD p.1 undef=p.2)) ?_ ?_ ?_
 ·have hrep:∀j,(Array.replicate ops.size false).getD j false=false:=fun j=>by
   rw[Array.getD_eq_getD_getElem?,Array.getElem?_replicate];split<;>rfl
  exact⟨0,⟨fun p c _=>(by rw[hrep];simp),Nat.zero_le _,h0,rfl,rfl,fun _ _=>rfl,fun i d T _ hl=>(by rw[hrep] at hl;cases hl),fun i j hl=>(by rw[hrep] at hl;cases hl)⟩,fun _=>hbas⟩
 ·rintro l i o hls ho hnl hdep s x ⟨k,G,hBb⟩;have hio:i<ops.size:=(Array.getElem?_eq_some_iff.1 ho).1;have hil:i<l.size:=by omega
  obtain⟨⟨d,U⟩,hdu⟩:∃p,tab[i]? =some p:=⟨_,List.getElem?_eq_getElem (by omega)⟩;have hdv:=zhh hdu
  have hb':∀p∈bas,s.tmps.getD p.1 undef=p.2:=by
   rcases zdL hapart with ha|⟨hdl,_⟩
   ·exact fun p hp=>(G.out p.1 (ha p hp)).trans (hbas p hp)
   ·refine hBb ?_;cases hll:l.getD (ops.size - 1) false with
    |false=>rfl
    |true=>
     by_cases e:i=ops.size - 1
     ·rw[<-e,hnl] at hll;cases hll
     ·have:=G.cl (ops.size - 1) i hll (hdl i hio e);rw[hnl] at this;cases this
  have hBbn:∀v,(l.setIfInBounds i true).getD (ops.size - 1) false=false->∀p∈bas,(s.put d v).tmps.getD p.1 undef=p.2:=fun v hl p hp=>by
   refine Eq.trans ?_ (hb' p hp);cases d with
   |none=>rfl
   |some e=>
    have hds:e<s.tmps.size:=by rw[G.sz];exact hlt e (Yf hdv)
    rw[zaj _ _ _ _ hds];refine if_neg fun he=> ?_
    rcases zdL hapart with ha|⟨_,hd⟩
    ·exact ha p hp (by rw[he];exact Yf hdv)
    ·refine hd i _ hdu (fun e9=> ?_) p hp rfl he.symm;rw[zQ l i _ hil,if_pos e9] at hl;cases hl
  have hdp:∀e∈o.after,Region.binds .any e=true->∀(d':Option Nat) (T':Kp),tab[e.on]? =some (d',T')->T' k (yR s d') x:=fun e he hb d' T' h=>G.kn _ _ _ (zhh h) (hdep e he hb)
  have hdj:∀j,YZ ops i j=true->l.getD j false=true:=fun j hj=>by
   obtain⟨e,he,hb,hon⟩:=zhJ ho hj;exact hon▸hdep e he hb
  have hcl2:∀i' j,(l.setIfInBounds i true).getD i' false=true->YZ ops i' j=true->(l.setIfInBounds i true).getD j false=true:=fun i' j h1 h2=>by
   rw[zQ l i j hil];by_cases e:i=j
   ·rw[if_pos e]
   ·rw[if_neg e];rw[zQ l i i' hil] at h1;by_cases e2:i=i'
    ·subst e2;exact hdj j h2
    ·rw[if_neg e2] at h1;exact G.cl i' j h1 h2
  refine wpOp_step ho fun K hK=> ?_
  by_cases hic:i∈calls
  ·obtain⟨p,hp⟩:=List.getElem?_of_mem hic
   have hkp:k=p:=by
    have h1:¬p<k:=fun h=>by rw[(G.cnt p i hp).2 h] at hnl;cases hnl
    cases p with
    |zero=>omega
    |succ q=>
     have hq2:q<calls.length:=by have:=(List.getElem?_eq_some_iff.1 hp).1;omega
     have h2:=List.all_eq_true.1 hchain q (List.mem_range.2 (by have:=(List.getElem?_eq_some_iff.1 hp).1;omega));rw[List.getD_eq_getElem?_getD,hp,Option.getD_some] at h2;have h3:=zdj G.cl 3 i _ hdj h2;rw[List.getD_eq_getElem?_getD,List.getElem?_eq_getElem hq2,Option.getD_some] at h3;have h4:=(G.cnt q _ (List.getElem?_eq_getElem hq2)).1 h3;omega
   subst hkp;have hkl:=(List.getElem?_eq_some_iff.1 hp).1;obtain⟨hw,hrun⟩:=himp k i o d U hp ho hdu s x G.ph G.df hb' hdp;rw[if_pos hw];refine hrun K fun v x' hF' hr hv hT=>hK _ _ ⟨k+1,G.upd2 hnd hlt hil hdv hcl2 (fun q c hqc=> ?_) (by omega) hF' hv hT (fun j dj Tj hj hne hu=> ?_),hBbn v⟩
   ·rw[zQ l i c hil];by_cases e:i=c
    ·subst e;have:q=k:=(List.getElem?_inj (List.getElem?_eq_some_iff.1 hqc).1 hcn).1 (hqc.trans hp.symm);subst this;simp
    ·rw[if_neg e,G.cnt q c hqc];have:q≠k:=fun h=>e (by subst h;rw[hp] at hqc;exact Option.some.inj hqc)
     omega
   ·obtain⟨Uj,h1,rfl⟩:=zoO hj;exact hstab j dj Uj h1 k s x x' (fun h=>hne (Option.some.inj (h.symm.trans hp))) hkl G.ph hr hu
  ·have hcnt':∀(p c:Nat),calls[p]? =some c->((l.setIfInBounds i true).getD c false=true↔p<k):=fun p c hpc=>by
    rw[zQ l i c hil,if_neg (fun h=>hic (by rw[h];exact List.mem_of_getElem? hpc))];exact G.cnt p c hpc
   obtain⟨hw,hrun⟩:=hpure i o d U ho hdu hic k s x G.kle (fun q c hq ha=>(G.cnt q c hq).1 (zdj G.cl 3 i c hdj ha)) (fun q c hq ha=>Nat.le_of_not_lt fun hlt=>by
    have h1:=(G.cnt q c hq).2 hlt;rw[zdj G.cl 3 c i (fun j hj=>G.cl c j h1 hj) ha] at hnl;cases hnl) G.ph G.df hb' hdp
   rw[if_pos hw]
   exact hrun K fun v x' hP hS hv hT=>hK _ _ ⟨k,G.upd2 hnd hlt hil hdv hcl2 hcnt' G.kle hP hv hT (fun j dj Tj hj hne hu=>by
    obtain⟨Uj,h1,rfl⟩:=zoO hj;exact hst2 j dj Uj h1 k _ x x' G.ph hS hu),hBbn v⟩
 ·rintro l s x hls hall ⟨k,G, -⟩
  have hk:k=calls.length:=by
   refine Nat.le_antisymm G.kle (Nat.le_of_not_lt fun h=> ?_);have h1:=List.getElem?_eq_getElem h;have h2:=(G.cnt k _ h1).1 (hall _ (of_decide_eq_true (List.all_eq_true.1 hcl _ (List.getElem_mem h))));omega
  subst hk
  have hmemt:∀p∈(zH (tbp tab)).map (fun d=>(d,s.tmps.getD d undef)),p.1<a.tmps.size:=fun p hp=>by
   obtain⟨d,hd,rfl⟩:=List.mem_map.1 hp;exact hlt d hd
  have hfst:((zH (tbp tab)).map (fun d=>(d,s.tmps.getD d undef))).map Prod.fst=zH (tbp tab):=by simp[List.map_map,Function.comp_def]
  have e:s=zF a (zcT (tbp tab) ((tbp tab).map fun p=>yR s p.1)):=by
   rw[zcw];refine zk3 (by rw[zds,G.sz]) (by rw[zbx,G.df]) fun k _=> ?_
   by_cases hk:k∈zH (tbp tab)
   ·rw[zhr _ a k (s.tmps.getD k undef) hmemt (by rw[hfst];exact hnd) (List.mem_map.2 ⟨k,hk,rfl⟩)]
   ·rw[G.out k hk,zc3 _ a k hmemt fun p hp e=>hk (by obtain⟨d,hd,rfl⟩:=List.mem_map.1 hp;exact e▸hd)]
  have hat:∀(i:Nat) (d:Option Nat) (T:Kp),tab[i]? =some (d,T)->((tbp tab).map fun p=>yR s p.1).getD i undef=yR s d:=fun i d T h=>by rw[List.getD_eq_getElem?_getD,List.getElem?_map,zhh h];rfl
  have hli:∀(i:Nat) (d:Option Nat) (T:Kp),tab[i]? =some (d,T)->l.getD i false=true:=fun i d T h=>hall i (by rw[<-hlen];exact(List.getElem?_eq_some_iff.1 h).1)
  have h:=hdone ((tbp tab).map fun p=>yR s p.1) x G.ph (by simp[tbp]) (fun i d T h=>by rw[hat i d T h];exact G.kn i d _ (zhh h) (hli i d T h));rwa[<-e] at h
def Cp (c:Value):Kp:=fun _ v _=>v=c
end
abbrev En:=Value ⊕ Kp
abbrev En.v (c:Value):En:=.inl c
abbrev En.l (T:Kp):En:=.inr T
theorem En.l.injEq (T U:Kp):(En.l T=En.l U)=(T=U):=by simp
def En.kp:En->Kp
 |.inl c=>Cp c
 |.inr T=>T
def En.isV:En->Bool
 |.inl _=>true
 |.inr _=>false
abbrev Es:=List (Option Nat×En)
def zbv (es:Es):Tp:=es.map fun p=>(p.1,p.2.kp)
def zjo (ops:Array Oper) (j t:Nat):Bool:=match ops[j]? with
 |some o=>o.dst==some t
 |none=>false
def onE (ops:Array Oper) (t:Nat):List Edge->Option Nat
 |[]=>none
 |e::r=>bif Region.binds .any e&&zjo ops e.on t then some e.on else onE ops t r
def evE (ops:Array Oper) (bas:List (Nat×Value)) (es:Es) (o:Oper) (t:Nat):Option Value:=match bas.lookup t with
 |some c=>some c
 |none=>match onE ops t o.after.toList with
  |some j=>match es[j]? with
   |some (_,.inl c)=>some c
   |_=>none
  |none=>none
def elE (ops:Array Oper) (es:Es) (o:Oper) (t:Nat):Option Kp:=match onE ops t o.after.toList with
 |some j=>match es[j]? with
  |some (_,.inr T)=>some T
  |_=>none
 |none=>none
def zea (env:Nat->Option Value) (s:Act):Operand->Value
 |.tmp t=>(env t).getD (s.tmps.getD t undef)
 |.const v=>v
 |.global g=>.pointer (some ⟨g,0,none⟩)
 |.func f=>.func (.func f) #[] #[]
def zoK (ops:Array Oper) (es:Es) (o:Oper):Bool:=match o.guard with
 |none=>true
 |some (j,b)=>(o.after.toList.any fun e=>Region.binds .any e&&e.on==j)&&(match ops[j]? with
  |some og=>og.dst.isSome
  |none=>false)&&(match es[j]? with
  |some (_,.inl (.bool c))=>c==b
  |_=>false)
def feE (g:Nat->Value):Es->Nat->List (Nat×Value)
 |[],_=>[]
 |(none,_)::r,i=>feE g r (i+1)
 |(some d,.inl c)::r,i=>(d,c)::feE g r (i+1)
 |(some d,.inr _)::r,i=>(d,g i)::feE g r (i+1)
theorem Zg (g:Nat->Value) (i:Nat):feE g [] i=[]:=rfl
theorem yx (g:Nat->Value) (i:Nat) (E:En) (r:Es):feE g ((none,E)::r) i=feE g r (i+1):=rfl
theorem yy (g:Nat->Value) (i d:Nat) (c:Value) (r:Es):feE g ((some d,.v c)::r) i=(d,c)::feE g r (i+1):=rfl
theorem yw (g:Nat->Value) (i d:Nat) (T:Kp) (r:Es):feE g ((some d,.l T)::r) i=(d,g i)::feE g r (i+1):=rfl
theorem znT (vs:List Value):∀(es:Es) (i:Nat),i+es.length=vs.length->(∀j d c,es[j]? =some (d,.v c)->vs.getD (i+j) undef=c)->zcT (tbp (zbv es)) (vs.drop i)=feE (fun k=>vs.getD k undef) es i
 |[],i,hl,_=>by
  rw[List.drop_eq_nil_of_le (by simp at hl;omega)];rfl
 |(d,E)::r,i,hl,hv=>by
  have hi:i<vs.length:=by simp at hl;omega
  rw[List.drop_eq_getElem_cons hi];have ih:=znT vs r (i+1) (by simp at hl;omega) (fun j d c h=>by have:=hv (j+1) d c (by simpa using h);rwa[show i+(j+1)=i+1+j by omega] at this);have hg:vs[i]=vs.getD i undef:=by rw[List.getD_eq_getElem?_getD,List.getElem?_eq_getElem hi];rfl
  cases d with
  |none=>exact ih
  |some d=>
   cases E with
   |inl c=>
    have:=hv 0 (some d) c rfl;show(d,vs[i])::zcT (tbp (zbv r)) (vs.drop (i+1))=_;rw[hg,show vs.getD i undef=c from this,ih];rfl
   |inr T=>
    show(d,vs[i])::zcT (tbp (zbv r)) (vs.drop (i+1))=_;rw[hg,ih];rfl
theorem zei {es:Es} {i:Nat} {d:Option Nat} {T:Kp} (h:(zbv es)[i]? =some (d,T)):∃E,es[i]? =some (d,E)/\T=E.kp:=by
 unfold zbv at h;rw[List.getElem?_map] at h;cases he:es[i]? with
 |none=>rw[he] at h;cases h
 |some p=>rw[he] at h;obtain⟨rfl,rfl⟩:=Prod.mk.inj (Option.some.inj h);exact⟨p.2,rfl,rfl⟩
theorem zd7 {es:Es} {i:Nat} {d:Option Nat} {E:En} (h:es[i]? =some (d,E)):(zbv es)[i]? =some (d,E.kp):=by
 unfold zbv;rw[List.getElem?_map,h];rfl
theorem zeE {ops:Array Oper} {t j:Nat}:∀{l:List Edge},onE ops t l=some j->∃e∈l,Region.binds .any e=true/\e.on=j/\zjo ops j t=true
 |[],h=>by cases h
 |e::r,h=>by
  unfold onE at h;cases hb:(Region.binds .any e&&zjo ops e.on t) with
  |true=>
   rw[hb] at h;obtain rfl:=Option.some.inj h;rw[Bool.and_eq_true] at hb;exact⟨e,List.mem_cons_self ..,hb.1,rfl,hb.2⟩
  |false=>
   rw[hb] at h;obtain⟨e',h1,h2⟩:=zeE (l:=r) h;exact⟨e',List.mem_cons_of_mem _ h1,h2⟩
def zkn (B:World->World->Prop) (ops:Array Oper) (bas:List (Nat×Value)) (es:Es) (calls:List Nat) (Ph:Nat->World->Prop) (df:List Deferred) (Q:Exit->Act->World->Prop) (i:Nat) (o:Oper) (d:Option Nat) (E:En):Prop:=
 ∀(k:Nat) (s:Act) (x:World),k<=calls.length->(∀q c,calls[q]? =some c->zdg ops 3 i c=true->q<k)->(∀q c,calls[q]? =some c->zdg ops 3 c i=true->k<=q)->Ph k x->s.defers=df->
  (∀t c,evE ops bas es o t=some c->s.tmps.getD t undef=c)->(∀t T,elE ops es o t=some T->T k (s.tmps.getD t undef) x)->
  ∀K:Act->World->Prop,(∀v x',B x x'->(d=none->v=undef)->E.kp k v x'->K (s.put d v) x')->Oper.wp prog o s x K Q
def zjZ (ops:Array Oper) (bas:List (Nat×Value)) (es:Es) (Ph:Nat->World->Prop) (Rel:Nat->World->World->Prop) (df:List Deferred) (Q:Exit->Act->World->Prop) (p:Nat) (o:Oper) (d:Option Nat) (E:En):Prop:=
 ∀(s:Act) (x:World),Ph p x->s.defers=df->
  (∀t c,evE ops bas es o t=some c->s.tmps.getD t undef=c)->(∀t T,elE ops es o t=some T->T p (s.tmps.getD t undef) x)->
  ∀K:Act->World->Prop,(∀v x',Ph (p+1) x'->Rel p x x'->(d=none->v=undef)->E.kp (p+1) v x'->K (s.put d v) x')->Oper.wp prog o s x K Q
def AllOb {α:Type} (ops:Array Oper) (es:List (Option Nat×α)) (B:Nat->Nat->Oper->Option Nat->α->Prop):Nat->List Nat->Prop
 |_,[]=>True
 |p,i::l=>(∀o d E,ops[i]? =some o->es[i]? =some (d,E)->B p i o d E)/\AllOb ops es B (p+1) l
theorem AllOb.at {α:Type} {ops:Array Oper} {es:List (Option Nat×α)} {B:Nat->Nat->Oper->Option Nat->α->Prop}:∀{l:List Nat} {p q i:Nat},AllOb ops es B p l->l[q]? =some i->∀o d E,ops[i]? =some o->es[i]? =some (d,E)->B (p+q) i o d E
 |[],_,_,_,_,h=>by simp at h
 |j::l,p,0,i,h,hq=>by
  obtain rfl:j=i:=by simpa using hq
  exact h.1
 |j::l,p,q+1,i,h,hq=>by
  have:=AllOb.at (q:=q) h.2 (by simpa using hq);rwa[show p+1+q=p+(q+1) by omega] at this
theorem zf {α:Type} {ops:Array Oper} {es:List (Option Nat×α)} {B:Nat->Nat->Oper->Option Nat->α->Prop} {p i:Nat} {l:List Nat} (o:Oper) (d:Option Nat) (E:α) (ho:ops[i]? =some o) (he:es[i]? =some (d,E)) (h:B p i o d E) (hl:AllOb ops es B (p+1) l):AllOb ops es B p (i::l):=by
 refine⟨fun o' d' E' h1 h2=> ?_,hl⟩;rw[ho] at h1;rw[he] at h2;obtain rfl:=Option.some.inj h1;obtain⟨rfl,rfl⟩:=Prod.mk.inj (Option.some.inj h2);exact h
def zgU (B:Nat->Kp->Prop):Es->Nat->Prop
 |[],_=>True
 |(_,.inl _)::r,i=>zgU B r (i+1)
 |(_,.inr T)::r,i=>B i T/\zgU B r (i+1)
theorem ze3 {B:Nat->Kp->Prop}:∀{es:Es} {k:Nat},zgU B es k->∀(i:Nat) (d:Option Nat) (T:Kp),es[i]? =some (d,.l T)->B (k+i) T
 |[],_,_,i,_,_,h=>by simp at h
 |(d',.inl _)::r,k,hl,0,d,T,h=>by simp at h
 |(d',.inr U)::r,k,hl,0,d,T,h=>by
  obtain⟨_,rfl⟩:d'=d/\U=T:=by simpa using h
  exact hl.1
 |(d',.inl _)::r,k,hl,i+1,d,T,h=>by
  have:=ze3 (es:=r) (k:=k+1) hl i d T (by simpa using h);rwa[show k+1+i=k+(i+1) by omega] at this
 |(d',.inr U)::r,k,hl,i+1,d,T,h=>by
  have:=ze3 (es:=r) (k:=k+1) hl.2 i d T (by simpa using h);rwa[show k+1+i=k+(i+1) by omega] at this
theorem ziH {es:Es} {B:Nat->Kp->Prop} (h:zgU B es 0) (i:Nat) (d:Option Nat) (T:Kp) (he:es[i]? =some (d,.l T)):B i T:=by
 have:=ze3 h i d T he;rwa[Nat.zero_add] at this
theorem Zi {α:Type} {a b:α} {l m:List α} (h:a=b) (h':l=m):a::l=b::m:=by rw[h,h']
theorem zo {es:Es} (h:(es.all fun p=>p.2.isV)=true) {i:Nat} {d:Option Nat} {T:Kp} (he:es[i]? =some (d,.l T)):False:=by
 have:=List.all_eq_true.1 h _ (List.mem_of_getElem? he);cases this
theorem zcZ (B:World->World->Prop) (hBr:∀x,B x x) {ops:Array Oper} {Q:Exit->Act->World->Prop} {id:Nat} {a:Act} {w:World} (Ph:Nat->World->Prop) (Rel:Nat->World->World->Prop) (bas:List (Nat×Value)) (es:Es) (calls loads:List Nat)
  (hst:(zeX ops&&(es.length==ops.size)&&decide (zH (tbp (zbv es))).Nodup&&zgQ ops (zbv es) bas&&((List.range (calls.length - 1)).all fun q=>zdg ops 3 (calls.getD (q+1) 0) (calls.getD q 0))&&decide calls.Nodup&&(calls.all fun c=>decide (c<ops.size))&&(es.map Prod.fst==ops.toList.map (·.dst))&&(ops.toList.all fun o=>zoK ops es o))=true) (hsz:((zH (tbp (zbv es))).all fun d=>decide (d<a.tmps.size))=true) (hbas:(bas.map fun p=>a.tmps.getD p.1 undef)=bas.map Prod.snd)
  (hauto:(fun s x=>(List.range ops.size).map fun i=>bif (calls++loads).contains i then none else match ops[i]? with|some o=>some ((execOp (zea (evE ops bas es o) s) o).run prog x)|none=>none)=fun _ x=>(List.range ops.size).map fun i=>bif (calls++loads).contains i then none else match(es)[i]? with|some (some _,.inl c)=>some (.ok (.value c) x)|_=>none)
  (h0:Ph 0 w.drew) (hbel:∀k x x',Ph k x->B x x'->Ph k x')
  (hcalls:AllOb ops es (fun p _=>zjZ ops bas es Ph Rel a.defers Q p) 0 calls)
  (hloads:AllOb ops es (fun _=>zkn B ops bas es calls Ph a.defers Q) 0 loads)
  (hs1:∀(i:Nat) (d:Option Nat) (T:Kp),es[i]? =some (d,En.l T)->∀p v x x',calls[p]? ≠some i->p<calls.length->Ph p x->Rel p x x'->T p v x->T (p+1) v x')
  (hs2:∀(i:Nat) (d:Option Nat) (T:Kp),es[i]? =some (d,En.l T)->∀p v x x',Ph p x->B x x'->T p v x->T p v x')
  (hdone:∀(g:Nat->Value) x,Ph calls.length x->(∀(i:Nat) (d:Option Nat) (T:Kp),es[i]? =some (d,En.l T)->T calls.length (g i) x)->Q .normal (zF a (feE g es 0)) x):
  (Code.region id ops true).wp prog Q a w:=by
 simp only[Bool.and_eq_true] at hst;obtain⟨⟨⟨⟨⟨⟨⟨⟨e1,e2⟩,e3⟩,e4⟩,e5⟩,e6⟩,e7⟩,e8⟩,e9⟩:=hst;have hlen:es.length=ops.size:=by simpa using e2
 have hdst:∀(i:Nat) (o:Oper) (d:Option Nat) (E:En),ops[i]? =some o->es[i]? =some (d,E)->o.dst=d:=fun i o d E ho he=>by
  have h8:es.map Prod.fst=ops.toList.map (·.dst):=by simpa using e8
  have h:=congrArg (fun l:List (Option Nat)=>l[i]?) h8;simp only[List.getElem?_map,he,Array.getElem?_toList,ho,Option.map_some] at h;exact(Option.some.inj h).symm
 have hbase:∀p∈bas,a.tmps.getD p.1 undef=p.2:=fun p hp=>by
  obtain⟨i,hi,rfl⟩:=List.getElem_of_mem hp;have h:=congrArg (fun l:List Value=>l[i]?) hbas;simp only[List.getElem?_map,List.getElem?_eq_getElem hi,Option.map_some] at h;exact Option.some.inj h
 have hlook:∀{t:Nat} {c:Value},bas.lookup t=some c->(t,c)∈bas:=fun{t c} h=>by
  obtain⟨l1,l2,h1,_⟩:=List.lookup_eq_some_iff.1 h;rw[h1];simp
 have hval:∀(k:Nat) (o:Oper) (s:Act) (x:World),(∀p∈bas,s.tmps.getD p.1 undef=p.2)->(∀e∈o.after,Region.binds .any e=true->∀(d':Option Nat) (T':Kp),(zbv es)[e.on]? =some (d',T')->T' k (yR s d') x)->(∀t c,evE ops bas es o t=some c->s.tmps.getD t undef=c)/\(∀t T,elE ops es o t=some T->T k (s.tmps.getD t undef) x):=fun k o s x hb hdep=>by
  have key:∀(j t:Nat) (E:En) (d:Option Nat),onE ops t o.after.toList=some j->es[j]? =some (d,E)->E.kp k (s.tmps.getD t undef) x:=fun j t E d h1 h2=>by
   obtain⟨e,he,hbi,rfl,hd⟩:=zeE h1;have h3:=hdep e (by simpa using he) hbi d E.kp (zd7 h2);unfold zjo at hd;cases ho:ops[e.on]? with
   |none=>rw[ho] at hd;cases hd
   |some o'=>
    rw[ho] at hd;have h4:o'.dst=some t:=by simpa using hd
    rw[hdst _ _ _ _ ho h2] at h4;rw[h4] at h3;exact h3
  constructor
  ·intro t c h;unfold evE at h;cases hl:bas.lookup t with
   |some c'=>rw[hl] at h;obtain rfl:=Option.some.inj h;exact hb _ (hlook hl)
   |none=>
    rw[hl] at h;cases hj:onE ops t o.after.toList with
    |none=>rw[hj] at h;cases h
    |some j=>
     rw[hj] at h;dsimp only at h;split at h
     ·obtain rfl:=Option.some.inj h;exact key j t _ _ hj (by assumption)
     ·cases h
  ·intro t T h;unfold elE at h;cases hj:onE ops t o.after.toList with
   |none=>rw[hj] at h;cases h
   |some j=>
    rw[hj] at h;dsimp only at h;split at h
    ·obtain rfl:=Option.some.inj h;exact key j t _ _ hj (by assumption)
    ·cases h
 have hwant:∀(k i:Nat) (o:Oper) (s:Act) (x:World),ops[i]? =some o->(∀e∈o.after,Region.binds .any e=true->∀(d':Option Nat) (T':Kp),(zbv es)[e.on]? =some (d',T')->T' k (yR s d') x)->Region.wanted o (yielded ops s.tmps)=true:=fun k i o s x ho hdep=>by
  have hg:=List.all_eq_true.1 e9 o (by rw[<-Array.mem_def];exact Array.mem_of_getElem? ho);unfold zoK at hg;cases hgu:o.guard with
  |none=>exact zt hgu
  |some jb=>
   obtain⟨j,b⟩:=jb;rw[hgu] at hg;simp only[Bool.and_eq_true] at hg;obtain⟨⟨g1,g2⟩,g3⟩:=hg;obtain⟨e,he,heb⟩:=List.any_eq_true.1 g1;rw[Bool.and_eq_true] at heb;have hon:e.on=j:=by simpa using heb.2
   cases hoj:ops[j]? with
   |none=>rw[hoj] at g2;cases g2
   |some og=>
    rw[hoj] at g2;obtain⟨dd,hdd⟩:=Option.isSome_iff_exists.1 g2;split at g3
    ·rename_i q d c hq;have hc:c=b:=by simpa using g3
     subst hc;have h3:=hdep e (by simpa using he) heb.1 _ _ (by rw[hon];exact zd7 hq);have h4:=hdst _ _ _ _ hoj hq;rw[hdd] at h4;rw[<-h4] at h3;cases c with
     |true=>exact zmy hgu hoj hdd h3
     |false=>exact zjQ hgu hoj hdd h3
    ·cases g3
 refine zgF B (by kernel_rfl) e1 Ph (fun p _ x x'=>Rel p x x') (zbv es) calls (by unfold zbv;simpa using hlen) e3 hsz h0 bas hbase e4 e5 e6 e7 ?_ ?_ ?_ ?_ ?_
 ·intro j d T hj p s x x' h1 h2 h3 h4 h5;obtain⟨E,he,rfl⟩:=zei hj;cases E with
  |inl c=>exact h5
  |inr T=>exact hs1 j d T he p _ x x' h1 h2 h3 h4 h5
 ·intro j d T hj p v x x' h1 h2 h3;obtain⟨E,he,rfl⟩:=zei hj;cases E with
  |inl c=>exact h3
  |inr T=>exact hs2 j d T he p v x x' h1 h2 h3
 ·intro i o d T ho ht hic k s x hk hlo hhi hph hdf hb hdep;obtain⟨E,he,rfl⟩:=zei ht;obtain⟨v1,v2⟩:=hval k o s x hb hdep;refine⟨hwant k i o s x ho hdep,fun K hK=> ?_⟩;by_cases hil:i∈loads
  ·obtain⟨q,hq⟩:=List.getElem?_of_mem hil;exact hloads.at hq o d E ho he k s x hk hlo hhi hph hdf v1 v2 K fun v x' h1 h2 h3=>hK v x' (hbel k x x' hph h1) h1 h2 h3
  ·have hi:i<ops.size:=(Array.getElem?_eq_some_iff.1 ho).1;have h:=congrArg (fun l:List (Option (Result Next))=>l[i]?) (congrFun (congrFun hauto s) x);have hsk:(calls++loads).contains i=false:=by simp[hic,hil]
   simp only[List.getElem?_map,List.getElem?_range hi,Option.map_some,hsk,cond_false,ho,he] at h
   have hrho:zea (evE ops bas es o) s=s.eval:=by
    funext q;cases q with
    |tmp t=>
     show(evE ops bas es o t).getD _=_;cases hv:evE ops bas es o t with
     |none=>rfl
     |some c=>exact(v1 t c hv).symm
    |const v=>rfl
    |global g=>rfl
    |func f=>rfl
   cases E with
   |inr T=>cases d<;>simp at h
   |inl c=>
    cases d with
    |none=>simp at h
    |some d=>
    have h':(execOp s.eval o).run prog x=.ok (.value c) x:=by rw[<-hrho];exact Option.some.inj (Option.some.inj h)
    unfold Oper.wp;rw[h',Oper.upon_value,hdst _ _ _ _ ho he];exact hK c x hph (hBr x) (fun hd=>by cases hd) rfl
 ·intro p i o d T hp ho ht s x hph hdf hb hdep;obtain⟨E,he,rfl⟩:=zei ht;obtain⟨v1,v2⟩:=hval p o s x hb hdep;refine⟨hwant p i o s x ho hdep,fun K hK=> ?_⟩;have:=hcalls.at hp o d E ho he;rw[Nat.zero_add] at this;exact this s x hph hdf v1 v2 K hK
 ·intro vs x hph hl hT;have hl2:vs.length=es.length:=by rw[hl];simp[zbv]
  have h:=hdone (fun k=>vs.getD k undef) x hph (fun i d T he=>hT i d _ (zd7 he));rw[<-znT vs es 0 (by omega) (fun j d c he=>by rw[Nat.zero_add];exact hT j d _ (zd7 he))] at h;simpa using h
theorem zq {ops:Array Oper} {Q:Exit->Act->World->Prop} {id:Nat} {a:Act} {w:World} (Ph:Nat->World->Prop) (Rel:Nat->World->World->Prop) (bas:List (Nat×Value)) (es:Es) (calls loads:List Nat)
  (hst:(zeX ops&&(es.length==ops.size)&&decide (zH (tbp (zbv es))).Nodup&&zgQ ops (zbv es) bas&&((List.range (calls.length - 1)).all fun q=>zdg ops 3 (calls.getD (q+1) 0) (calls.getD q 0))&&decide calls.Nodup&&(calls.all fun c=>decide (c<ops.size))&&(es.map Prod.fst==ops.toList.map (·.dst))&&(ops.toList.all fun o=>zoK ops es o))=true) (hsz:((zH (tbp (zbv es))).all fun d=>decide (d<a.tmps.size))=true) (hbas:(bas.map fun p=>a.tmps.getD p.1 undef)=bas.map Prod.snd)
  (hauto:(fun s x=>(List.range ops.size).map fun i=>bif (calls++loads).contains i then none else match ops[i]? with|some o=>some ((execOp (zea (evE ops bas es o) s) o).run prog x)|none=>none)=fun _ x=>(List.range ops.size).map fun i=>bif (calls++loads).contains i then none else match(es)[i]? with|some (some _,.inl c)=>some (.ok (.value c) x)|_=>none)
  (h0:Ph 0 w.drew) (hbel:∀k x x',Ph k x->Below x.heap.size x x'->Ph k x')
  (hcalls:AllOb ops es (fun p _=>zjZ ops bas es Ph Rel a.defers Q p) 0 calls)
  (hloads:AllOb ops es (fun _=>zkn (fun x x'=>Below x.heap.size x x') ops bas es calls Ph a.defers Q) 0 loads)
  (hs1:∀(i:Nat) (d:Option Nat) (T:Kp),es[i]? =some (d,En.l T)->∀p v x x',calls[p]? ≠some i->p<calls.length->Ph p x->Rel p x x'->T p v x->T (p+1) v x')
  (hs2:∀(i:Nat) (d:Option Nat) (T:Kp),es[i]? =some (d,En.l T)->∀p v x x',Ph p x->Below x.heap.size x x'->T p v x->T p v x')
  (hdone:∀(g:Nat->Value) x,Ph calls.length x->(∀(i:Nat) (d:Option Nat) (T:Kp),es[i]? =some (d,En.l T)->T calls.length (g i) x)->Q .normal (zF a (feE g es 0)) x):
  (Code.region id ops true).wp prog Q a w:=
 zcZ _ (fun x=>Below.refl _ x) Ph Rel bas es calls loads hst hsz hbas hauto h0 hbel hcalls hloads hs1 hs2 hdone
theorem ZQ {ops:Array Oper} {Q:Exit->Act->World->Prop} {id:Nat} {a:Act} {w:World} (Ph:Nat->World->Prop) (Rel:Nat->World->World->Prop) (bas:List (Nat×Value)) (es:Es) (calls loads:List Nat)
  (hst:(zeX ops&&(es.length==ops.size)&&decide (zH (tbp (zbv es))).Nodup&&zgQ ops (zbv es) bas&&((List.range (calls.length - 1)).all fun q=>zdg ops 3 (calls.getD (q+1) 0) (calls.getD q 0))&&decide calls.Nodup&&(calls.all fun c=>decide (c<ops.size))&&(es.map Prod.fst==ops.toList.map (·.dst))&&(ops.toList.all fun o=>zoK ops es o))=true) (hsz:((zH (tbp (zbv es))).all fun d=>decide (d<a.tmps.size))=true) (hbas:(bas.map fun p=>a.tmps.getD p.1 undef)=bas.map Prod.snd)
  (hauto:(fun s x=>(List.range ops.size).map fun i=>bif (calls++loads).contains i then none else match ops[i]? with|some o=>some ((execOp (zea (evE ops bas es o) s) o).run prog x)|none=>none)=fun _ x=>(List.range ops.size).map fun i=>bif (calls++loads).contains i then none else match(es)[i]? with|some (some _,.inl c)=>some (.ok (.value c) x)|_=>none)
  (h0:Ph 0 w.drew)
  (hcalls:AllOb ops es (fun p _=>zjZ ops bas es Ph Rel a.defers Q p) 0 calls)
  (hloads:AllOb ops es (fun _=>zkn Eq ops bas es calls Ph a.defers Q) 0 loads)
  (hs1:∀(i:Nat) (d:Option Nat) (T:Kp),es[i]? =some (d,En.l T)->∀p v x x',calls[p]? ≠some i->p<calls.length->Ph p x->Rel p x x'->T p v x->T (p+1) v x')
  (hdone:∀(g:Nat->Value) x,Ph calls.length x->(∀(i:Nat) (d:Option Nat) (T:Kp),es[i]? =some (d,En.l T)->T calls.length (g i) x)->Q .normal (zF a (feE g es 0)) x):
  (Code.region id ops true).wp prog Q a w:=
 zcZ Eq (fun _=>rfl) Ph Rel bas es calls loads hst hsz hbas hauto h0 (fun k x x' h e=>e▸h) hcalls hloads hs1 (fun _ _ _ _ p v x x' _ e h=>e▸h) hdone
section
variable {s:Act} {x:World} {pos:String} {af:Array Edge} {g:Option (Nat×Bool)} {K:Act->World->Prop} {Q:Exit->Act->World->Prop}
theorem Ya {t d b:Nat} {ty:TypeId} (he:s.tmps.getD t undef=.pointer (some ⟨b,0,none⟩)) (hK:K (s.put (some d) (.pointer (some ⟨b,19,none⟩))) x):
  Oper.wp prog ⟨some d,.fieldAddr 137 (.tmp t) 10,ty,pos,af,g⟩ s x K Q:=by
 have he2:s.eval (.tmp t)=.pointer (some ⟨b,0,none⟩):=he;go_simp;exact hK
theorem zv {t d:Nat} {T ty:TypeId} {ad:Addr} {v:Value} (hA:∀w,(isAgg T).run prog w=.ok false w) (he:s.tmps.getD t undef=.pointer (some ad)) (hc:x.cell? ad=some v) (hK:K (s.put (some d) v) x):
  Oper.wp prog ⟨some d,.load T (.tmp t),ty,pos,af,g⟩ s x K Q:=by
 have he2:s.eval (.tmp t)=.pointer (some ad):=he;have hl:∀P,(load ad).run P x=.ok v x:=fun P=>by simp[go_sem,hc]
 unfold Oper.wp;simp only[execOp,he2,Instr.loadAt,Instr.sureAddr,loadVar,Sem.run_bind,Sem.run_pure,Result.andThen_ok,hA,Bool.false_eq_true,if_false,hl];exact hK
theorem zB {t d b off n:Nat} {ty:TypeId} (he:s.tmps.getD t undef=.pointer (some ⟨b,off,none⟩)) (c0:x.cell? ⟨b,off,none⟩=some (.int .u64 (za n 0))) (c1:x.cell? ⟨b,off+1,none⟩=some (.int .u64 (za n 1))) (c2:x.cell? ⟨b,off+2,none⟩=some (.int .u64 (za n 2))) (c3:x.cell? ⟨b,off+3,none⟩=some (.int .u64 (za n 3))) (hK:K (s.put (some d) (wv n)) x):
  Oper.wp prog ⟨some d,.load 24 (.tmp t),ty,pos,af,g⟩ s x K Q:=by
 have he2:s.eval (.tmp t)=.pointer (some ⟨b,off,none⟩):=he;go_simp;exact hK
def badF:Fz:=⟨undef,⟨#[]⟩,undef,0,0,0,⟨#[]⟩,100001,false,0,[],[0],⟨#[]⟩,0,0,false,0,⟨#[]⟩⟩
theorem zcg {base fb:Nat} {S:List Nat} {sv mv:Value} {w:World} (h:Fr base fb badF S sv mv w):False:=by
 have:=h.gal;unfold badF at this;simp at this
def zh {α:Type} (r:Option (α×Fz)):Fz:=match r with
 |some (_,F)=>F
 |none=>badF
def zA (r:Option (Nat×Fz)):Nat:=match r with
 |some (n,_)=>n
 |none=>0
theorem zaU {f d base fb:Nat} {xs:Array Operand} {vs:Array Value} {A:Array TypeId} {ty:TypeId} {α:Type} {r:Option (α×Fz)} {val:α->Value} {S:List Nat} (hf:Own f) (hv:#[]++xs.map s.eval++#[]=vs) (hc:Calls prog f vs x (Out r val base fb S x))
  (hpan:∀u pv x',r=none->Kb S x x'->Q (.panic [{v:=.iface u pv,recovered:=false}]) s x')
  (hK:∀a F' S' sv' mv' x',r=some (a,F')->Fr base fb F' S' sv' mv' x'->Kb S x x'->(∀j∈S',j∈S\/x.heap.size<=j)->K (s.put (some d) (val a)) x'):
  Oper.wp prog ⟨some d,.call ⟨.value (.func f),xs,A⟩,ty,pos,af,g⟩ s x K Q:=by
 refine zeI hf hv hc fun e x' ho=> ?_
 unfold Out at ho;split at ho
 ·obtain⟨h1,S',sv',mv',h2,h3,h4⟩:=ho;exact Or.inl ⟨_,h1,hK _ _ S' sv' mv' x' rfl h2 h3 h4⟩
 ·obtain⟨⟨u,pv,rfl⟩,h2⟩:=ho;exact Or.inr ⟨_,rfl,hpan u pv x' rfl h2⟩
theorem YO:Own 257:=fun _ _=>by kernel_rfl
theorem zbC:Own 259:=fun _ _=>by kernel_rfl
theorem zbG:Own 262:=fun _ _=>by kernel_rfl
theorem zmP:Own 261:=fun _ _=>by kernel_rfl
theorem zb5:Own 260:=fun _ _=>by kernel_rfl
structure Same (F F':Fz):Prop where
 trail:F'.trail=F.trail
 code:F'.code=F.code
 jd:F'.jd=F.jd
 self:F'.self=F.self
 caller:F'.caller=F.caller
 value:F'.value=F.value
 data:F'.data=F.data
 ro:F'.ro=F.ro
 ret:F'.ret=F.ret
 pc:F'.pc=F.pc
 nx:F'.nx=F.nx
 mem:F'.mem=F.mem
 gas:F'.gas=F.gas
 depth:F'.depth=F.depth
theorem Same.refl (F:Fz):Same F F:=⟨rfl,rfl,rfl,rfl,rfl,rfl,rfl,rfl,rfl,rfl,rfl,rfl,rfl,rfl⟩
theorem zls:100000<badF.gas:=by decide
theorem Zp {F G:Fz} (h:100000<G.gas\/Same F G):100000<(zh (zi G)).gas\/Same F (zh (zi G)):=by
 unfold zi;split
 ·exact Or.inl zls
 ·rcases h with h|h
  ·exact Or.inl h
  ·exact Or.inr ⟨h.trail,h.code,h.jd,h.self,h.caller,h.value,h.data,h.ro,h.ret,h.pc,h.nx,h.mem,h.gas,h.depth⟩
theorem ZW {F G:Fz} (h:100000<G.gas\/Same F G) (n:Nat):100000<(zh (zl n G)).gas\/Same F (zh (zl n G)):=by
 unfold zl;split
 ·exact Or.inl zls
 ·rcases h with h|h
  ·exact Or.inl h
  ·exact Or.inr ⟨h.trail,h.code,h.jd,h.self,h.caller,h.value,h.data,h.ro,h.ret,h.pc,h.nx,h.mem,h.gas,h.depth⟩
def Pc (l:List UInt8):Kn:=fun _ S v x=>∃b,Bys x b v l/\∀k,v.ownBlock=some k->k∉S
theorem zbL (l:List UInt8):yW (Pc l):=YA fun _ _ S S' v x x' ⟨b,h1,h2⟩ _ hk hs=>⟨b,hk.own h1 h2,fun k hk2 hm=>(hs k hm).elim (h2 k hk2) (fun h=>by have:=(h1.lt k hk2).2;omega)⟩
def Ln (n:Nat):Kn:=fun _ _ v _=>∃ad c,v=.slice ad n c
theorem zdA (n:Nat):yW (Ln n):=YA fun _ _ _ _ _ _ _ h _ _ _=>h
theorem ltq9 {i:Nat} (h:i<9):i=0\/i=1\/i=2\/i=3\/i=4\/i=5\/i=6\/i=7\/i=8:=by omega
theorem ltq10 {i:Nat} (h:i<10):i=0\/i=1\/i=2\/i=3\/i=4\/i=5\/i=6\/i=7\/i=8\/i=9:=by omega
theorem zla {i:Nat} (h:i<12):i=0\/i=1\/i=2\/i=3\/i=4\/i=5\/i=6\/i=7\/i=8\/i=9\/i=10\/i=11:=by omega
theorem lenq12 {vs:List Value} (h:vs.length=12):∃v0 v1 v2 v3 v4 v5 v6 v7 v8 v9 v10 v11:Value,vs=[v0,v1,v2,v3,v4,v5,v6,v7,v8,v9,v10,v11]:=by
 match vs,h with
 |[v0,v1,v2,v3,v4,v5,v6,v7,v8,v9,v10,v11],_=>exact⟨v0,v1,v2,v3,v4,v5,v6,v7,v8,v9,v10,v11,rfl⟩
theorem ltq17 {i:Nat} (h:i<17):i=0\/i=1\/i=2\/i=3\/i=4\/i=5\/i=6\/i=7\/i=8\/i=9\/i=10\/i=11\/i=12\/i=13\/i=14\/i=15\/i=16:=by omega
theorem lenq17 {vs:List Value} (h:vs.length=17):∃v0 v1 v2 v3 v4 v5 v6 v7 v8 v9 v10 v11 v12 v13 v14 v15 v16:Value,vs=[v0,v1,v2,v3,v4,v5,v6,v7,v8,v9,v10,v11,v12,v13,v14,v15,v16]:=by
 match vs,h with
 |[v0,v1,v2,v3,v4,v5,v6,v7,v8,v9,v10,v11,v12,v13,v14,v15,v16],_=>exact⟨v0,v1,v2,v3,v4,v5,v6,v7,v8,v9,v10,v11,v12,v13,v14,v15,v16,rfl⟩
theorem ltq18 {i:Nat} (h:i<18):i=0\/i=1\/i=2\/i=3\/i=4\/i=5\/i=6\/i=7\/i=8\/i=9\/i=10\/i=11\/i=12\/i=13\/i=14\/i=15\/i=16\/i=17:=by omega
theorem lenq18 {vs:List Value} (h:vs.length=18):∃v0 v1 v2 v3 v4 v5 v6 v7 v8 v9 v10 v11 v12 v13 v14 v15 v16 v17:Value,vs=[v0,v1,v2,v3,v4,v5,v6,v7,v8,v9,v10,v11,v12,v13,v14,v15,v16,v17]:=by
 match vs,h with
 |[v0,v1,v2,v3,v4,v5,v6,v7,v8,v9,v10,v11,v12,v13,v14,v15,v16,v17],_=>exact⟨v0,v1,v2,v3,v4,v5,v6,v7,v8,v9,v10,v11,v12,v13,v14,v15,v16,v17,rfl⟩
end
theorem zcv {env:Nat->Option Value} {s:Act} (h:∀t c,env t=some c->s.tmps.getD t undef=c):zea env s=s.eval:=by
 funext q;cases q with
 |tmp t=>
  show(env t).getD _=_;cases hv:env t with
  |none=>rfl
  |some c=>exact(h t c hv).symm
 |const v=>rfl
 |global g=>rfl
 |func f=>rfl
theorem zW {env:Nat->Option Value} {o:Oper} {s:Act} {x:World} {K:Act->World->Prop} {Q:Exit->Act->World->Prop} {f:FuncId} {args:Array Value} {Post:Ending->World->Prop} (hv:∀t c,env t=some c->s.tmps.getD t undef=c)
  (hc:Calls prog f args x Post) (he:(execOp (zea env s) o).run prog x=.ok (.enter f args) x) (hr:∀v x',Post (.returned v) x'->K (s.put o.dst v) x') (hp:∀l x',Post (.panicked l) x'->Q (.panic l) s x') (hn:∀x',¬Post .outgrown x'):Oper.wp prog o s x K Q:=by
 rw[zcv hv] at he;unfold Oper.wp;rw[he,Oper.upon_enter];refine hc.mono fun e x' h=> ?_
 cases e with
 |returned v=>exact hr v x' h
 |panicked l=>exact hp l x' h
 |outgrown=>exact absurd h (hn x')
theorem zdH {env:Nat->Option Value} {o:Oper} {s:Act} {x:World} {K:Act->World->Prop} {Q:Exit->Act->World->Prop} {v:Value} {x':World} (hv:∀t c,env t=some c->s.tmps.getD t undef=c)
  (he:(execOp (zea env s) o).run prog x=.ok (.value v) x') (hK:K (s.put o.dst v) x'):Oper.wp prog o s x K Q:=by
 rw[zcv hv] at he;unfold Oper.wp;rw[he,Oper.upon_value];exact hK
def PhF (base fb:Nat) (G:Nat->Fz) (S:List Nat) (w:World) (k:Nat) (x:World):Prop:=∃S' sv mv,Fr base fb (G k) S' sv mv x/\Kb S w x/\∀j∈S',j∈S\/w.heap.size<=j
theorem PhF.bel {base fb:Nat} {G:Nat->Fz} {S:List Nat} {w:World} (k:Nat) (x x':World) (h:PhF base fb G S w k x) (hb:Below x.heap.size x x'):PhF base fb G S w k x':=by
 obtain⟨S',sv,mv,h1,h2,h3⟩:=h;exact⟨S',sv,mv,h1.below hb,h2.below hb,h3⟩
theorem PhF.init {base fb:Nat} {G:Nat->Fz} {S:List Nat} {w:World} {sv mv:Value} (h:Fr base fb (G 0) S sv mv w):PhF base fb G S w 0 w.drew:=
 ⟨S,sv,mv,h.below (Below.refl _ w).drew,(Kb.refl S w).drew,fun j hj=>Or.inl hj⟩
theorem ZP {α:Type} {r:Option (α×Fz)} {val:α->Value} {base fb p:Nat} {G:Nat->Fz} {S:List Nat} {w:World} {c:Value} {env:Nat->Option Value} {o:Oper} {s:Act} {x:World} {K:Act->World->Prop} {Q:Exit->Act->World->Prop} {f:FuncId} {args:Array Value}
  (hph:PhF base fb G S w p x) (hv:∀t c,env t=some c->s.tmps.getD t undef=c) (hc:∀S' sv mv,Fr base fb (G p) S' sv mv x->Calls prog f args x (Out r val base fb S' x))
  (he:(execOp (zea env s) o).run prog x=.ok (.enter f args) x) (hg:G (p+1)=zh r) (hval:∀a F',r=some (a,F')->val a=c)
  (hpan:r=none->∀u pv x',Kb S w x'->Q (.panic [{v:=.iface u pv,recovered:=false}]) s x')
  (hK:∀x',PhF base fb G S w (p+1) x'->K (s.put o.dst c) x'):Oper.wp prog o s x K Q:=by
 obtain⟨S',sv,mv,h1,h2,h3⟩:=hph;cases hr:r with
 |none=>
  refine zW hv (hc S' sv mv h1) he (fun v x' h=> ?_) (fun l x' h=> ?_) (fun x' h=> ?_)
  ·rw[hr] at h;obtain⟨⟨u,pv,e⟩,_⟩:=h;cases e
  ·rw[hr] at h;obtain⟨⟨u,pv,e⟩,hk⟩:=h;injection e with e
   rw[e];exact hpan hr u pv x' (h2.trans hk h3)
  ·rw[hr] at h;obtain⟨⟨u,pv,e⟩,_⟩:=h;cases e
 |some q=>
  obtain⟨a,F'⟩:=q;refine zW hv (hc S' sv mv h1) he (fun v x' h=> ?_) (fun l x' h=> ?_) (fun x' h=> ?_)
  ·rw[hr] at h;obtain⟨e,S2,sv2,mv2,k1,k2,k3⟩:=h;injection e with e
   rw[e,hval a F' hr];refine hK x' ⟨S2,sv2,mv2, ?_,h2.trans k2 h3,fun j hj=> ?_⟩
   ·rw[hg,hr];exact k1
   ·rcases k3 j hj with e|e
    ·exact h3 j e
    ·exact Or.inr (Nat.le_trans h2.size e)
  ·rw[hr] at h;obtain⟨e,_⟩:=h;cases e
  ·rw[hr] at h;obtain⟨e,_⟩:=h;cases e
section
open Go.Maps Go.ChangeMaps
def zfz:Value->Option (DataW Value×List MemPlace):=fun v=>some (.held v,[])
def MapV (P:Program) (kt:TypeId) (x:World) (b n:Nat) (f:Value->Option Value):Prop:=
 ∃D:DataW Value,x.ownsMap P kt zfz b n D/\∀v l,keyOf P kt v=some l->Maps.has D l=(f v).isSome/\∀z,D.atKey l (.held z)=.held ((f v).getD z)
section
variable {P:Program} {kt et t:TypeId} {x y:World} {b n:Nat} {f g:Value->Option Value}
theorem MapV.made (P:Program) (kt:TypeId) (w:World):MapV P kt (w.alloc (.map #[] 0)) w.heap.size 0 (fun _=>none):=
 ⟨.map [],World.ownsMap_made _ _ _ _,fun _ _ _=>⟨rfl,fun _=>rfl⟩⟩
theorem MapV.lt (h:MapV P kt x b n f):b<x.heap.size:=by
 obtain⟨D,h1,_⟩:=h;exact h1.lt
theorem MapV.block (h:MapV P kt x b n f) (hb:y.heap[b]? =x.heap[b]?):MapV P kt y b n f:=by
 obtain⟨D,⟨es,cl,h1,h2,h3,h4⟩,h5⟩:=h;exact⟨D,⟨es,cl,hb.trans h1,h2,h3,h4⟩,h5⟩
theorem MapV.is (h:MapV P kt x b n f):∃es cl,x.heap[b]? =some (.map es cl):=by
 obtain⟨D,⟨es,cl,h1,h2,h3,h4⟩,h5⟩:=h;exact⟨es,cl,h1⟩
theorem MapV.mono {m:Nat} (h:MapV P kt x b n f) (hn:n<=m):MapV P kt x b m f:=by
 obtain⟨D,h1,h2⟩:=h;exact⟨D,h1.mono hn,h2⟩
theorem MapV.look (h:MapV P kt x b n f) (K:Keyed P kt) (ht:P.underlying t=some (.map kt et)) {z:Value} (hz:∀w,(zeroValue et).run P w=.ok z w) {key:Value} {kl:Lit} (hk:keyOf P kt key=some kl):
  (Instr.lookup t (.map (some b)) key false).run P x=.ok ((f key).getD z) x:=by
 obtain⟨D,h1,h2⟩:=h;obtain⟨v,ps,hr,hv⟩:=h1.lookup K ht (hz x) (zd:=.held z) (zp:=[]) rfl hk;rw[(h2 key kl hk).2 z] at hv;injection hv with hv
 injection hv with hv _
 injection hv with hv
 rw[hr,hv]
theorem MapV.store (h:MapV P kt x b n f) (K:Keyed P kt) (ht:P.underlying t=some (.map kt et)) (hn:n<maxLen) {key:Value} (val:Value) {kl:Lit} (hk:keyOf P kt key=some kl):
  ∃y g,(Instr.mapUpdate t (.map (some b)) key val).run P x=.ok () y/\MapV P kt y b (n+1) g/\g key=some val/\(∀v,v≠key->g v=f v)/\x.mapTurned y b:=by
 classical
 obtain⟨D,h1,h2⟩:=h;obtain⟨y,hr,ho,ht⟩:=h1.store K ht hn hk (show zfz val=some (.held val,[]) from rfl);refine⟨y,fun v=>if v=key then some val else f v,hr,⟨_,ho,fun v l hl=> ?_⟩,if_pos rfl,fun v hv=>if_neg hv,ht⟩;by_cases e:v=key
 ·subst e;obtain rfl:l=kl:=Option.some.inj (hl.symm.trans hk);dsimp only;rw[if_pos rfl];exact⟨has_put_same h1.isMap (K.key hk) _,fun z=>atKey_put_same h1.isMap (K.key hk) _ _⟩
 ·have hne:l≠kl:=fun e2=>e (K.inj hl (by rw[e2];exact hk))
  dsimp only;rw[if_neg e];exact⟨(has_put_other hne _).trans (h2 v l hl).1,fun z=>(atKey_put_other hne _ _).trans ((h2 v l hl).2 z)⟩
theorem MapV.drop (h:MapV P kt x b n f) (K:Keyed P kt) (ht:P.underlying t=some (.map kt et)) {key:Value} {kl:Lit} (hk:keyOf P kt key=some kl) (ty:TypeId):
  ∃y g,(Builtin.delete_ #[t,kt] ty #[.map (some b),key]).run P x=.ok (.tuple #[]) y/\MapV P kt y b n g/\g key=none/\(∀v,v≠key->g v=f v)/\x.mapTurned y b:=by
 classical
 obtain⟨D,h1,h2⟩:=h;obtain⟨y,hr,ho,ht⟩:=h1.drop K ht hk ty;refine⟨y,fun v=>if v=key then none else f v,hr,⟨_,ho,fun v l hl=> ?_⟩,if_pos rfl,fun v hv=>if_neg hv,ht⟩;by_cases e:v=key
 ·subst e;obtain rfl:l=kl:=Option.some.inj (hl.symm.trans hk);dsimp only;rw[if_pos rfl];exact⟨has_del_same,fun z=>atKey_del_same _⟩
 ·have hne:l≠kl:=fun e2=>e (K.inj hl (by rw[e2];exact hk))
  dsimp only;rw[if_neg e];exact⟨(has_del_other hne).trans (h2 v l hl).1,fun z=>(atKey_del_other hne _).trans ((h2 v l hl).2 z)⟩
theorem zpi {D:DataW Value} (h:x.ownsMap P kt zfz b n D):∃es,D=.map es/\∀p∈es,∃v,keyOf P kt v=some p.1:=by
 obtain⟨es,cl,h1,h2,h3,rfl⟩:=h;refine⟨_,rfl, ?_⟩;exact keys_perm (List.Perm.symm (WideShapes.sorted_perm _)) (fit_keys h2)
theorem MapV.len (h:MapV P kt x b n f) (K:Keyed P kt) (ht:P.underlying t=some (.map kt et)) (ty:TypeId):
  ∃s:Nat,(Builtin.len_ #[t] ty #[.map (some b)]).run P x=.ok (.int .i64 (s:Int)) x/\s<=n/\(s=0↔∀v l,keyOf P kt v=some l->f v=none):=by
 obtain⟨D,h1,h2⟩:=h;refine⟨Maps.size D,h1.len ht ty,h1.size_le, ?_⟩;obtain⟨es,rfl,h3⟩:=zpi h1;constructor
 ·intro hs v l hl;have e:es=[]:=List.eq_nil_of_length_eq_zero hs;subst e;have h4:=(h2 v l hl).1;cases hf:f v with
  |none=>rfl
  |some u=>rw[hf] at h4;exact absurd h4 (by simp[Maps.has])
 ·intro hs;cases es with
  |nil=>rfl
  |cons p r=>
   obtain⟨v,hv⟩:=h3 p (by simp);have h4:=(h2 v p.1 hv).1;rw[hs v p.1 hv,Maps.has_eq] at h4;simp[WideAt.sameKey_self (K.key hv)] at h4
theorem zfZ {x y:World} {b:Nat} (h:x.mapTurned y b):y.os=x.os/\y.tape=x.tape/\y.output=x.output/\x.heap.size<=y.heap.size/\∀k,k<x.heap.size->k≠b->y.heap[k]? =x.heap[k]? :=by
 have:=h.grown;exact⟨this.os,this.tape,this.output,this.size,fun k hk hn=>this.block k hk (fun e=>hn (Option.some.inj e))⟩
end
end
section
open Go.Maps
theorem laidB:laidOutB prog=true:=by kernel_rfl
theorem wd_row:(24:TypeId)<prog.types.size:=of_decide_eq_true (by kernel_rfl)
theorem wd_wide:(match prog.underlying 24 with|some (.array _ _)|some (.struct _)=>true|_=>false)=true:=by kernel_rfl
theorem wd_law:WideMaps.KeyLaw prog 24:=deep_law_laid laidB (m:=3) (by omega) wd_row (by kernel_rfl) wd_wide
theorem wd_keyed:Keyed prog 24:=Keyed.of_law wd_law
theorem cl_row:(217:TypeId)<prog.types.size:=of_decide_eq_true (by kernel_rfl)
theorem cl_wide:(match prog.underlying 217 with|some (.array _ _)|some (.struct _)=>true|_=>false)=true:=by kernel_rfl
theorem cl_law:WideMaps.KeyLaw prog 217:=deep_law_laid laidB (m:=4) (by omega) cl_row (by kernel_rfl) cl_wide
theorem ziC:Keyed prog 217:=Keyed.of_law cl_law
theorem zc0:prog.cellsOf 24=4:=by kernel_rfl
theorem wd_kt:prog.keyType 24=true:=by kernel_rfl
theorem zdo:∃m,prog.types.size=m+2:=⟨prog.types.size - 2,by
 have h:decide (2<=prog.types.size)=true:=by kernel_rfl
 have:=of_decide_eq_true h;omega⟩
theorem limb_wf (n i:Nat):(Lit.int .u64 (za n i)).wf=true:=by
 have h1:=zbM n i;have h2:=zeo n i;simp[Lit.wf,IntKind.min,IntKind.max,IntKind.signed,IntKind.bits];omega
def zhw (v:Value):Option (List Lit):=match v with
  |.int .u64 a=>if (Lit.int .u64 a).wf=true then some [.int .u64 a] else none
  |_=>none
theorem zcx {v:Value} {l:List Lit} (h:zhw v=some l):∃a,v=.int .u64 a/\(Lit.int .u64 a).wf=true:=by
 unfold zhw at h;split at h
 ·rename_i a;split at h
  ·rename_i hw;exact⟨a,rfl,hw⟩
  ·cases h
 ·cases h
theorem zlo (n i:Nat):zhw (.int .u64 (za n i))=some [.int .u64 (za n i)]:=if_pos (limb_wf n i)
theorem zfl (d:Nat) (v:Value):prog.keyLits (d+1) 22 [v]=zhw v:=by
 unfold Program.keyLits zhw;rw[underlying22];cases v<;>try rfl
 rename_i k a;cases k<;>simp
theorem zgX (d:Nat) (v0 v1 v2 v3:Value):prog.keyLits (d+2) 24 [v0,v1,v2,v3]=((List.range 4).mapM fun i=>prog.keyLits (d+1) 22 (([v0,v1,v2,v3].drop (i*1)).take 1)).map List.flatten:=by
 conv=>lhs;unfold Program.keyLits
 rw[underlying24];simp only[zc0,zjC,List.length_cons,List.length_nil,Nat.zero_add,Nat.reduceAdd,if_true]
theorem zcj (n:Nat):∃l,keyOf prog 24 (wv n)=some l:=by
 obtain⟨m,hm⟩:=zdo;unfold keyOf;rw[underlying24];simp only[wd_kt,Value.formed,underlying24,zc0,Bool.true_and];rw[hm,if_pos (by rfl)];show∃l,Option.map _ (prog.keyLits (m+1+2) 24 [.int .u64 (za n 0),.int .u64 (za n 1),.int .u64 (za n 2),.int .u64 (za n 3)])=some l;rw[zgX];simp[List.range,List.range.loop,zfl,zlo]
theorem zeK {a b:Nat} (h:wv a=wv b):a%M=b%M:=by
 have h1:eqw a b=true:=by
  rw[<-zdC];injection h with h
  injection h with h
  injection h with h0 h
  injection h with h1 h
  injection h with h2 h
  injection h with h3 h
  injection h0 with _ h0
  injection h1 with _ h1
  injection h2 with _ h2
  injection h3 with _ h3
  rw[h0,h1,h2,h3];simp
 exact of_decide_eq_true h1
theorem zn2 {a0 a1 a2 a3:Int} (h0:(Lit.int .u64 a0).wf=true) (h1:(Lit.int .u64 a1).wf=true) (h2:(Lit.int .u64 a2).wf=true) (h3:(Lit.int .u64 a3).wf=true):
  ∃n,Value.agg #[.int .u64 a0,.int .u64 a1,.int .u64 a2,.int .u64 a3]=wv n:=by
 simp[Lit.wf,IntKind.min,IntKind.max,IntKind.signed,IntKind.bits] at h0 h1 h2 h3;refine⟨a0.toNat+a1.toNat*2^64+a2.toNat*2^128+a3.toNat*2^192, ?_⟩;have e0:a0=za (a0.toNat+a1.toNat*2^64+a2.toNat*2^128+a3.toNat*2^192) 0:=by unfold za;rw[pw0];omega
 have e1:a1=za (a0.toNat+a1.toNat*2^64+a2.toNat*2^128+a3.toNat*2^192) 1:=by unfold za;rw[pw1];omega
 have e2:a2=za (a0.toNat+a1.toNat*2^64+a2.toNat*2^128+a3.toNat*2^192) 2:=by unfold za;rw[pw2];omega
 have e3:a3=za (a0.toNat+a1.toNat*2^64+a2.toNat*2^128+a3.toNat*2^192) 3:=by unfold za;rw[pw3];omega
 unfold wv;rw[<-e0,<-e1,<-e2,<-e3]
theorem zcd {v:Value} {l:Lit} (h:keyOf prog 24 v=some l):∃n,v=wv n:=by
 obtain⟨m,hm⟩:=zdo;unfold keyOf at h;rw[underlying24] at h;simp only[wd_kt,Bool.true_and] at h;split at h
 case isFalse=>cases h
 rename_i hf;cases v with
 |agg cs=>
  simp only[Value.formed,underlying24,zc0,beq_iff_eq] at hf;obtain⟨l0⟩:=cs
  match l0,hf with
  |[v0,v1,v2,v3],_=>
   rw[hm] at h;have h:Option.map _ (prog.keyLits (m+1+2) 24 [v0,v1,v2,v3])=some l:=h;rw[zgX] at h;simp only[List.range,List.range.loop,List.mapM_cons,List.mapM_nil,Nat.zero_mul,Nat.one_mul,List.drop_zero,List.take_succ_cons,List.take_zero,Nat.mul_one,List.drop_succ_cons,zfl] at h;cases h0:zhw v0 with
   |none=>simp[h0] at h
   |some x0=>
   cases h1:zhw v1 with
   |none=>simp[h0,h1] at h
   |some x1=>
   cases h2:zhw v2 with
   |none=>simp[h0,h1,h2] at h
   |some x2=>
   cases h3:zhw v3 with
   |none=>simp[h0,h1,h2,h3] at h
   |some x3=>
   obtain⟨a0,rfl,q0⟩:=zcx h0;obtain⟨a1,rfl,q1⟩:=zcx h1;obtain⟨a2,rfl,q2⟩:=zcx h2;obtain⟨a3,rfl,q3⟩:=zcx h3;exact zn2 q0 q1 q2 q3
 |_=>simp[Value.formed,underlying24] at hf
def AM (w:World) (b n:Nat) (f:Nat->Option Value):Prop:=∃g,MapV prog 24 w b n g/\∀m,g (wv m)=f m
section
variable {x y:World} {b n:Nat} {f g:Nat->Option Value}
theorem AM.made (w:World):AM (w.alloc (.map #[] 0)) w.heap.size 0 (fun _=>none):=⟨_,MapV.made _ _ w,fun _=>rfl⟩
theorem AM.lt (h:AM x b n f):b<x.heap.size:=by
 obtain⟨g,h1,_⟩:=h;exact h1.lt
theorem AM.is (h:AM x b n f):∃es cl,x.heap[b]? =some (.map es cl):=by
 obtain⟨g,h1,_⟩:=h;exact h1.is
theorem AM.block (h:AM x b n f) (hb:y.heap[b]? =x.heap[b]?):AM y b n f:=by
 obtain⟨g,h1,h2⟩:=h;exact⟨g,h1.block hb,h2⟩
theorem AM.mono {m:Nat} (h:AM x b n f) (hn:n<=m):AM x b m f:=by
 obtain⟨g,h1,h2⟩:=h;exact⟨g,h1.mono hn,h2⟩
theorem AM.congr (h:AM x b n f) (e:∀m,g m=f m):AM x b n g:=by
 obtain⟨g',h1,h2⟩:=h;exact⟨g',h1,fun m=>(h2 m).trans (e m).symm⟩
theorem AM.look {t et:TypeId} (h:AM x b n f) (ht:prog.underlying t=some (.map 24 et)) {z:Value} (hz:∀w,(zeroValue et).run prog w=.ok z w) (k:Nat):
  (Instr.lookup t (.map (some b)) (wv k) false).run prog x=.ok ((f k).getD z) x:=by
 obtain⟨g,h1,h2⟩:=h;obtain⟨l,hl⟩:=zcj k;rw[h1.look wd_keyed ht hz hl,h2]
theorem AM.store {t et:TypeId} (h:AM x b n f) (ht:prog.underlying t=some (.map 24 et)) (hn:n<maxLen) (k:Nat) (val:Value):
  ∃y,(Instr.mapUpdate t (.map (some b)) (wv k) val).run prog x=.ok () y/\AM y b (n+1) (fun m=>if m%M=k%M then some val else f m)/\x.mapTurned y b:=by
 obtain⟨g,h1,h2⟩:=h;obtain⟨l,hl⟩:=zcj k;obtain⟨y,g',hr,h3,h4,h5,h6⟩:=h1.store wd_keyed ht hn val hl;refine⟨y,hr,⟨g',h3,fun m=> ?_⟩,h6⟩;by_cases e:m%M=k%M
 ·dsimp only;rw[if_pos e,yl e,h4]
 ·dsimp only;rw[if_neg e,h5 _ (fun e2=>e (zeK e2)),h2]
theorem AM.drop {t et:TypeId} (h:AM x b n f) (ht:prog.underlying t=some (.map 24 et)) (k:Nat) (ty:TypeId):
  ∃y,(Builtin.delete_ #[t,24] ty #[.map (some b),wv k]).run prog x=.ok (.tuple #[]) y/\AM y b n (fun m=>if m%M=k%M then none else f m)/\x.mapTurned y b:=by
 obtain⟨g,h1,h2⟩:=h;obtain⟨l,hl⟩:=zcj k;obtain⟨y,g',hr,h3,h4,h5,h6⟩:=h1.drop wd_keyed ht hl ty;refine⟨y,hr,⟨g',h3,fun m=> ?_⟩,h6⟩;by_cases e:m%M=k%M
 ·dsimp only;rw[if_pos e,yl e,h4]
 ·dsimp only;rw[if_neg e,h5 _ (fun e2=>e (zeK e2)),h2]
theorem AM.len {t et:TypeId} (h:AM x b n f) (ht:prog.underlying t=some (.map 24 et)) (ty:TypeId):
  ∃s:Nat,(Builtin.len_ #[t] ty #[.map (some b)]).run prog x=.ok (.int .i64 (s:Int)) x/\s<=n/\(s=0↔∀m,f m=none):=by
 obtain⟨g,h1,h2⟩:=h;obtain⟨s,hr,hs,he⟩:=h1.len wd_keyed ht ty;refine⟨s,hr,hs,he.trans ⟨fun h m=> ?_,fun h v l hl=> ?_⟩⟩
 ·obtain⟨l,hl⟩:=zcj m;rw[<-h2 m];exact h _ l hl
 ·obtain⟨m,rfl⟩:=zcd hl;rw[h2 m];exact h m
end
end
section
open Go.Maps
theorem Yr:prog.underlying 89=some (.map 24 95):=by kernel_rfl
theorem zaz:prog.underlying 93=some (.map 24 24):=by kernel_rfl
abbrev accC (bal:Nat) (code:ByteArray) (sv:Value):Array Value:=#[.int .u64 (za bal 0),.int .u64 (za bal 1),.int .u64 (za bal 2),.int .u64 (za bal 3),.string code,sv]
abbrev Z1 (bal:Nat) (code:ByteArray) (sv:Value):Value:=.agg (accC bal code sv)
abbrev zlL:Value:=.agg #[.int .u64 0,.int .u64 0,.int .u64 0,.int .u64 0,.string ⟨#[]⟩,.map none]
theorem Yk (w:World):(zeroValue 95).run prog w=.ok zlL w:=by kernel_rfl
theorem zeP (w:World):(zeroValue 24).run prog w=.ok (.agg #[.int .u64 0,.int .u64 0,.int .u64 0,.int .u64 0]) w:=by kernel_rfl
section
variable {ops:Array Oper} {rest:List Oper} {o:Oper} {a:Act} {Q:Exit->Act->World->Prop}
theorem ZV (w:World) (hg:o.guard=none) (m x v:Operand) (t:TypeId) (hop:o.op=Op.mapUpdate t m x v) (et:TypeId) (ht:prog.underlying t=some (.map 24 et)) (b n:Nat) (f:Nat->Option Value)
  (hm:a.eval m=.map (some b)) (hown:AM w b n f) (hn:n<maxLen) (k:Nat) (val:Value) (hx:a.eval x=wv k) (hv:a.eval v=val)
  (hK:∀w',AM w' b (n+1) (fun m=>if m%M=k%M then some val else f m)->w.mapTurned w' b->wpList prog ops Q rest (a.put o.dst undef) w'):
  wpList prog ops Q (o::rest) a w:=by
 refine wpList_plain hg fun K' hK'=> ?_
 obtain⟨w',hrun,r1,r2⟩:=hown.store ht hn k val;unfold Oper.wp;simp[execOp,hop,hm,hx,hv,hrun,Result.andThen];exact hK' _ _ (hK w' r1 r2)
theorem Yw (w:World) (hg:o.guard=none) (m x:Operand) (t:TypeId) (hop:o.op=Op.call {callee:=Callee.builtin Builtin.delete,args:=#[m,x],argTypes:=#[t,24]}) (et:TypeId) (ht:prog.underlying t=some (.map 24 et)) (b n:Nat) (f:Nat->Option Value)
  (hm:a.eval m=.map (some b)) (hown:AM w b n f) (k:Nat) (hx:a.eval x=wv k)
  (hK:∀w',AM w' b n (fun m=>if m%M=k%M then none else f m)->w.mapTurned w' b->wpList prog ops Q rest (a.put o.dst (.tuple #[])) w'):
  wpList prog ops Q (o::rest) a w:=by
 refine wpList_plain hg fun K' hK'=> ?_
 obtain⟨w',hrun,r1,r2⟩:=hown.drop ht k o.type;unfold Oper.wp;simp[execOp,hop,resolve,invoke,builtin,hm,hx,hrun,Result.andThen];exact hK' _ _ (hK w' r1 r2)
end
theorem yF {x y:World} {b:Nat} (h:x.mapTurned y b):Kb [b] x y:=by
 obtain⟨h1,h2,h3,h4,h5⟩:=zfZ h;exact⟨h1,h2,h3,h4,fun k hk hn=>h5 k hk (by simpa using hn)⟩
theorem AM.kb {S:List Nat} {x y:World} {b n:Nat} {f:Nat->Option Value} (h:AM x b n f) (hk:Kb S x y) (hb:b∉S):AM y b n f:=h.block (hk.block b h.lt hb)
def NoSlots (w:World) (sv:Value):Prop:=sv=.map none\/∃b n f,sv=.map (some b)/\AM w b n f/\∀m,f m=none
def SomeSlots (w:World) (sv:Value):Prop:=∃b n f,sv=.map (some b)/\n<9223372036854775807/\AM w b n f/\¬∀m,f m=none
theorem zgd (s:ByteArray):s.toList.isEmpty=decide (s=⟨#[]⟩):=by
 rw[Go.ByteArray.toList_eq,Bool.eq_iff_iff,decide_eq_true_eq,List.isEmpty_iff];constructor
 ·intro h;cases s with
  |mk d=>exact congrArg ByteArray.mk (by simpa using h)
 ·intro h;rw[h]
theorem zmJ {w:World} {sv:Value} (h:NoSlots w sv) (ty:TypeId):(Builtin.len_ #[93] ty #[sv]).run prog w=.ok (.int .i64 0) w:=by
 rcases h with rfl|⟨b,n,f,rfl,h,hf⟩
 ·exact Maps.len_nil zaz ty
 ·obtain⟨s,hr,_,hs⟩:=h.len zaz ty;rw[hr,hs.2 hf];rfl
theorem zjJ {w:World} {sv:Value} (h:SomeSlots w sv) (ty:TypeId):∃s:Nat,(Builtin.len_ #[93] ty #[sv]).run prog w=.ok (.int .i64 (s:Int)) w/\((s:Int)==0)=false:=by
 obtain⟨b,n,f,rfl,hn,h,hf⟩:=h;obtain⟨s,hr,_,hs⟩:=h.len zaz ty;refine⟨s,hr, ?_⟩;have:s≠0:=fun e=>hf (hs.1 e)
 simp[this]
theorem zfn {n:Nat} (h:n%M=0):eqw n 0=true:=by unfold eqw;rw[h];rfl
theorem zh2 {n:Nat} (h:n%M≠0):eqw n 0=false:=by unfold eqw;exact decide_eq_false (by simpa using h)
abbrev putW (w:World) (at' amt:Nat) (code:ByteArray) (sv:Value):World:=(w.alloc (wc at')).alloc (.cells (accC amt code sv) 95)
theorem zbT (w:World) (at' amt:Nat) (code:ByteArray) (sv:Value):Below w.heap.size w (putW w at' amt code sv):=bal (bal (Below.refl _ w) _) _
def Zr (w:World):Prop:=(w.cell? ⟨0,0,none⟩=some (.int .u64 0)/\w.cell? ⟨0,1,none⟩=some (.int .u64 0)/\w.cell? ⟨0,2,none⟩=some (.int .u64 0)/\w.cell? ⟨0,3,none⟩=some (.int .u64 0))/\0<w.heap.size
theorem Zr.kb {S:List Nat} {w w':World} (h:Zr w) (hk:Kb S w w') (h0:0∉S):Zr w':=by
 have e:=hk.block 0 h.2 h0;obtain⟨⟨z0,z1,z2,z3⟩,z4⟩:=h;exact⟨⟨(World.cell?_of_block (w:=w) e).trans z0,(World.cell?_of_block (w:=w) e).trans z1,(World.cell?_of_block (w:=w) e).trans z2,(World.cell?_of_block (w:=w) e).trans z3⟩,Nat.lt_of_lt_of_le z4 hk.size⟩
theorem Zr.below {w w':World} (h:Zr w) (hk:Below w.heap.size w w'):Zr w':=h.kb (Kb.of_below (S:=[]) hk) (by simp)
theorem NoSlots.kb {S:List Nat} {w w':World} {sv:Value} (h:NoSlots w sv) (hk:Kb S w w') (hS:∀k,sv=.map (some k)->k∉S):NoSlots w' sv:=by
 rcases h with rfl|⟨b,n,f,rfl,h,hf⟩
 ·exact Or.inl rfl
 ·exact Or.inr ⟨b,n,f,rfl,h.kb hk (hS b rfl),hf⟩
theorem SomeSlots.kb {S:List Nat} {w w':World} {sv:Value} (h:SomeSlots w sv) (hk:Kb S w w') (hS:∀k,sv=.map (some k)->k∉S):SomeSlots w' sv:=by
 obtain⟨b,n,f,rfl,hn,h,hf⟩:=h;exact⟨b,n,f,rfl,hn,h.kb hk (hS b rfl),hf⟩
theorem emp_t:(⟨#[]⟩:ByteArray).toList.isEmpty=true:=by rw[zgd];simp
theorem emp_f {s:ByteArray} (h:s≠⟨#[]⟩):s.toList.isEmpty=false:=by rw[zgd];simpa using h
theorem znz {b n:Nat} {f:Nat->Option Value} (at' amt:Nat) (sv:Value) (w:World) (h:AM w b n f) (hb:amt%M=0) (hs:NoSlots w sv) (hz:Zr w):
  Calls prog 81 #[.map (some b),wv at',Z1 amt ⟨#[]⟩ sv] w fun e w'=>e=.returned (.tuple #[])/\AM w' b n (fun m=>if m%M=at'%M then none else f m)/\Kb [b] w w':=by
 have hB:=zbT w at' amt ⟨#[]⟩ sv;have HA:Hid (AM (putW w at' amt ⟨#[]⟩ sv) b n f):=h.kb (Kb.of_below (S:=[]) hB) (by simp);obtain⟨⟨z0,z1,z2,z3⟩,_⟩:=hz.below hB;have hl:=zmJ (hs.kb (Kb.of_below (S:=[]) hB) (by simp));have hez:=Z5 amt;rw[zfn hb] at hez;have HB:=zb hB;have he:=emp_t;clear h hb hs hz hB;go_enter func81,ntmps81;go_wp2_with (first|(at_delete;refine Yw _ rfl _ _ 89 rfl _ Yr b n f rfl HA.out at' rfl ?_;intro w1 hA hT)|go_in)
 go_wp2;refine bodyPost_ret (results_none rfl _ _ _) rfl ?_;exact⟨rfl,hA,(Kb.of_below HB.out).trans (yF hT) (by simp)⟩
theorem put_bal {b n:Nat} {f:Nat->Option Value} (at' amt:Nat) (code:ByteArray) (sv:Value) (w:World) (h:AM w b n f) (hn:n<maxLen) (hb:amt%M≠0) (hz:Zr w):
  Calls prog 81 #[.map (some b),wv at',Z1 amt code sv] w fun e w'=>e=.returned (.tuple #[])/\AM w' b (n+1) (fun m=>if m%M=at'%M then some (Z1 amt code sv) else f m)/\Kb [b] w w':=by
 have hB:=zbT w at' amt code sv;have HA:Hid (AM (putW w at' amt code sv) b n f):=h.kb (Kb.of_below (S:=[]) hB) (by simp);obtain⟨⟨z0,z1,z2,z3⟩,_⟩:=hz.below hB;have hez:=Z5 amt;rw[zh2 hb] at hez;have HB:=zb hB;have HN:=zb hn;clear h hb hz hB hn;go_enter func81,ntmps81;go_wp2_with (first|(at_mapUpdate;refine ZV _ rfl _ _ _ 89 rfl _ Yr b n f rfl HA.out HN.out at' (Z1 amt code sv) rfl rfl ?_;intro w1 hA hT)|go_in)
 go_wp2;go_end0;exact⟨rfl,hA,(Kb.of_below HB.out).trans (yF hT) (by simp)⟩
theorem zoD {b n:Nat} {f:Nat->Option Value} (at' amt:Nat) (code:ByteArray) (sv:Value) (w:World) (h:AM w b n f) (hn:n<maxLen) (hb:amt%M=0) (hc:code≠⟨#[]⟩) (hz:Zr w):
  Calls prog 81 #[.map (some b),wv at',Z1 amt code sv] w fun e w'=>e=.returned (.tuple #[])/\AM w' b (n+1) (fun m=>if m%M=at'%M then some (Z1 amt code sv) else f m)/\Kb [b] w w':=by
 have hB:=zbT w at' amt code sv;have HA:Hid (AM (putW w at' amt code sv) b n f):=h.kb (Kb.of_below (S:=[]) hB) (by simp);obtain⟨⟨z0,z1,z2,z3⟩,_⟩:=hz.below hB;have hez:=Z5 amt;rw[zfn hb] at hez;have he:=emp_f hc;have HB:=zb hB;have HN:=zb hn;clear h hb hz hB hn hc;go_enter func81,ntmps81;go_wp2_with (first|(at_mapUpdate;refine ZV _ rfl _ _ _ 89 rfl _ Yr b n f rfl HA.out HN.out at' (Z1 amt code sv) rfl rfl ?_;intro w1 hA hT)|go_in)
 go_wp2;go_end0;exact⟨rfl,hA,(Kb.of_below HB.out).trans (yF hT) (by simp)⟩
theorem zmc {b n:Nat} {f:Nat->Option Value} (at' amt:Nat) (sv:Value) (w:World) (h:AM w b n f) (hn:n<maxLen) (hb:amt%M=0) (hs:SomeSlots w sv) (hz:Zr w):
  Calls prog 81 #[.map (some b),wv at',Z1 amt ⟨#[]⟩ sv] w fun e w'=>e=.returned (.tuple #[])/\AM w' b (n+1) (fun m=>if m%M=at'%M then some (Z1 amt ⟨#[]⟩ sv) else f m)/\Kb [b] w w':=by
 have hB:=zbT w at' amt ⟨#[]⟩ sv;have HA:Hid (AM (putW w at' amt ⟨#[]⟩ sv) b n f):=h.kb (Kb.of_below (S:=[]) hB) (by simp);obtain⟨⟨z0,z1,z2,z3⟩,_⟩:=hz.below hB;obtain⟨s,hl,hs0⟩:=zjJ (hs.kb (Kb.of_below (S:=[]) hB) (by simp)) 3;have hez:=Z5 amt;rw[zfn hb] at hez;have he:=emp_t;have HB:=zb hB;have HN:=zb hn;clear h hb hz hB hn hs;go_enter func81,ntmps81;go_wp2_with (first|(at_mapUpdate;refine ZV _ rfl _ _ _ 89 rfl _ Yr b n f rfl HA.out HN.out at' (Z1 amt ⟨#[]⟩ sv) rfl rfl ?_;intro w1 hA hT)|go_in)
 go_wp2;go_end0;exact⟨rfl,hA,(Kb.of_below HB.out).trans (yF hT) (by simp)⟩
end
section
open Go.Maps
structure Acc where
 bal:Nat
 code:ByteArray
 slots:Nat->Nat
def Acc.no (a:Acc):Prop:=a.bal%M=0/\a.code=⟨#[]⟩/\∀k,a.slots k%M=0
def Zs (s:Nat->Nat) (k:Nat):Option Value:=if s k%M=0 then none else some (wv (s k))
def SlotsOk (w:World) (n ab:Nat) (s:Nat->Nat) (v:Value):Prop:=(v=.map none/\∀k,s k%M=0)\/∃b,v=.map (some b)/\b≠ab/\AM w b n (Zs s)
theorem SlotsOk.kb {S:List Nat} {w w':World} {n m ab:Nat} {s:Nat->Nat} {v:Value} (h:SlotsOk w n ab s v) (hk:Kb S w w') (hS:∀k,v=.map (some k)->k∉S) (hm:n<=m):SlotsOk w' m ab s v:=by
 rcases h with h|⟨b,h1,h2,h3⟩
 ·exact Or.inl h
 ·exact Or.inr ⟨b,h1,h2,(h3.kb hk (hS b h1)).mono hm⟩
theorem SlotsOk.is {w:World} {n ab:Nat} {s:Nat->Nat} {v:Value} (h:SlotsOk w n ab s v):∃o,v=.map o:=by
 rcases h with⟨e,_⟩|⟨b,e,_⟩
 ·exact⟨_,e⟩
 ·exact⟨_,e⟩
structure AccsX (ab n:Nat) (A:Nat->Acc) (sb:Nat->Value) (at':Nat) (w:World):Prop where
 map:∃f,AM w ab n f/\∀m,m%M≠at'%M->((A m).no->f m=none)/\(¬(A m).no->f m=some (Z1 (A m).bal (A m).code (sb m)))
 slot:∀m,m%M≠at'%M->¬(A m).no->SlotsOk w n ab (A m).slots (sb m)
 inj:∀m m' b,m%M≠at'%M->m'%M≠at'%M->¬(A m).no->¬(A m').no->sb m=.map (some b)->sb m'=.map (some b)->m%M=m'%M
 cong:∀m m',m%M=m'%M->A m=A m'/\sb m=sb m'
structure Accs (ab n:Nat) (A:Nat->Acc) (sb:Nat->Value) (w:World):Prop where
 map:∃f,AM w ab n f/\∀m,((A m).no->f m=none)/\(¬(A m).no->f m=some (Z1 (A m).bal (A m).code (sb m)))
 slot:∀m,¬(A m).no->SlotsOk w n ab (A m).slots (sb m)
 inj:∀m m' b,¬(A m).no->¬(A m').no->sb m=.map (some b)->sb m'=.map (some b)->m%M=m'%M
 cong:∀m m',m%M=m'%M->A m=A m'/\sb m=sb m'
theorem Accs.x {ab n:Nat} {A:Nat->Acc} {sb:Nat->Value} {w:World} (h:Accs ab n A sb w) (at':Nat):AccsX ab n A sb at' w:=
 ⟨by obtain⟨f,h1,h2⟩:=h.map;exact⟨f,h1,fun m _=>h2 m⟩,fun m _=>h.slot m,fun m m' b _ _=>h.inj m m' b,h.cong⟩
def Zm (ab:Nat) (A:Nat->Acc) (sb:Nat->Value) (k:Nat):Prop:=k=ab\/∃m,¬(A m).no/\sb m=.map (some k)
theorem Accs.kb {S:List Nat} {ab n:Nat} {A:Nat->Acc} {sb:Nat->Value} {w w':World} (h:Accs ab n A sb w) (hk:Kb S w w') (hS:∀k∈S,¬Zm ab A sb k):Accs ab n A sb w':=by
 refine⟨?_,fun m hm=>(h.slot m hm).kb hk (fun k e hk=>hS k hk (Or.inr ⟨m,hm,e⟩)) (Nat.le_refl _),h.inj,h.cong⟩;obtain⟨f,h1,h2⟩:=h.map;exact⟨f,h1.kb hk (fun hk=>hS _ hk (Or.inl rfl)),h2⟩
theorem AccsX.kb {S:List Nat} {ab n at':Nat} {A:Nat->Acc} {sb:Nat->Value} {w w':World} (h:AccsX ab n A sb at' w) (hk:Kb S w w') (h1:ab∉S) (hS:∀m k,m%M≠at'%M->¬(A m).no->sb m=.map (some k)->k∉S):AccsX ab n A sb at' w':=by
 refine⟨?_,fun m ha hm=>(h.slot m ha hm).kb hk (fun k e=>hS m k ha hm e) (Nat.le_refl _),h.inj,h.cong⟩;obtain⟨f,h3,h2⟩:=h.map;exact⟨f,h3.kb hk h1,h2⟩
theorem Accs.lt {ab n:Nat} {A:Nat->Acc} {sb:Nat->Value} {w:World} (h:Accs ab n A sb w) {k:Nat} (hk:Zm ab A sb k):k<w.heap.size:=by
 rcases hk with rfl|⟨m,h1,h2⟩
 ·obtain⟨f,h1,_⟩:=h.map;exact h1.lt
 ·rcases h.slot m h1 with⟨e,_⟩|⟨b,e,_,h3⟩
  ·rw[e] at h2;cases h2
  ·rw[e] at h2;injection h2 with h2;injection h2 with h2;subst h2;exact h3.lt
def zO {α:Type} (A:Nat->α) (at':Nat) (a:α):Nat->α:=fun m=>if m%M=at'%M then a else A m
theorem Zx {α:Type} {A:Nat->α} {at':Nat} {a:α} {m:Nat} (h:m%M=at'%M):zO A at' a m=a:=if_pos h
theorem Za {α:Type} {A:Nat->α} {at':Nat} {a:α} {m:Nat} (h:m%M≠at'%M):zO A at' a m=A m:=if_neg h
theorem zaK {α:Type} {A:Nat->α} (at':Nat) (a:α) {m m':Nat} (e:m%M=m'%M) (h:A m=A m'):zO A at' a m=zO A at' a m':=by
 unfold zO;rw[e,h]
theorem AccsX.put {ab n at':Nat} {A:Nat->Acc} {sb:Nat->Value} {a:Acc} {sv:Value} {w w':World} {f':Nat->Option Value} (h:AccsX ab n A sb at' w) (hs:SlotsOk w n ab a.slots sv)
  (hd:∀m b,m%M≠at'%M->¬(A m).no->sb m=.map (some b)->sv≠.map (some b)) (hk:Kb [ab] w w') {f:Nat->Option Value} (hf:AM w ab n f) (hf':∀m,m%M≠at'%M->((A m).no->f m=none)/\(¬(A m).no->f m=some (Z1 (A m).bal (A m).code (sb m))))
  (hm:AM w' ab (n+1) f') (hne:∀m,m%M≠at'%M->f' m=f m) (hat:∀m,m%M=at'%M->(a.no->f' m=none)/\(¬a.no->f' m=some (Z1 a.bal a.code sv))):Accs ab (n+1) (zO A at' a) (zO sb at' sv) w':=by
 have nab:∀{s v b},SlotsOk w n ab s v->v=.map (some b)->b∉[ab]:=fun hs e=>by
  rcases hs with⟨e1,_⟩|⟨b,e1,hb,_⟩
  ·rw[e1] at e;cases e
  ·rw[e1] at e;injection e with e;injection e with e;subst e;simpa using hb
 refine⟨⟨f',hm,fun m=> ?_⟩,fun m hno=> ?_,fun m m' b h1 h2 e1 e2=> ?_,fun m m' e=>⟨zaK _ _ e (h.cong m m' e).1,zaK _ _ e (h.cong m m' e).2⟩⟩
 ·by_cases e:m%M=at'%M
  ·rw[Zx e,Zx e];exact hat m e
  ·rw[Za e,Za e,hne m e];exact hf' m e
 ·by_cases e:m%M=at'%M
  ·rw[Zx e,Zx e];exact hs.kb hk (fun k e2=>nab hs e2) (Nat.le_succ _)
  ·rw[Za e] at hno;rw[Za e,Za e];exact(h.slot m e hno).kb hk (fun k e2=>nab (h.slot m e hno) e2) (Nat.le_succ _)
 ·by_cases a1:m%M=at'%M
  ·by_cases a2:m'%M=at'%M
   ·rw[a1,a2]
   ·rw[Zx a1] at e1;rw[Za a2] at e2 h2;exact absurd e1 (hd m' b a2 h2 e2)
  ·by_cases a2:m'%M=at'%M
   ·rw[Zx a2] at e2;rw[Za a1] at e1 h1;exact absurd e2 (hd m b a1 h1 e1)
   ·rw[Za a1] at e1 h1;rw[Za a2] at e2 h2;exact h.inj m m' b a1 a2 h1 h2 e1 e2
theorem zhe {ab n at':Nat} {A:Nat->Acc} {sb:Nat->Value} (a:Acc) (sv:Value) (w:World) (h:AccsX ab n A sb at' w) (hs:SlotsOk w n ab a.slots sv)
  (hd:∀m b,m%M≠at'%M->¬(A m).no->sb m=.map (some b)->sv≠.map (some b)) (hn:n<1000000000000) (hz:Zr w):
  Calls prog 81 #[.map (some ab),wv at',Z1 a.bal a.code sv] w fun e w'=>e=.returned (.tuple #[])/\Accs ab (n+1) (zO A at' a) (zO sb at' sv) w'/\Kb [ab] w w':=by
 have hml:n<maxLen:=by unfold maxLen;omega
 obtain⟨f,hf,hf'⟩:=h.map
 have some':∀{e w'},¬a.no->(e=.returned (.tuple #[])/\AM w' ab (n+1) (fun m=>if m%M=at'%M then some (Z1 a.bal a.code sv) else f m)/\Kb [ab] w w')->(e=Ending.returned (.tuple #[])/\Accs ab (n+1) (zO A at' a) (zO sb at' sv) w'/\Kb [ab] w w'):=by
  rintro e w' hno ⟨h1,h2,h3⟩;refine⟨h1,h.put hs hd h3 hf hf' h2 (fun m hm=>if_neg hm) (fun m hm=>⟨fun hc=>absurd hc hno,fun _=>if_pos hm⟩),h3⟩
 by_cases hb:a.bal%M=0
 ·by_cases hc:a.code=⟨#[]⟩
  ·by_cases hk:∀k,a.slots k%M=0
   ·have hns:NoSlots w sv:=by
     rcases hs with⟨e,_⟩|⟨b,e,_,h3⟩
     ·exact Or.inl e
     ·exact Or.inr ⟨b,n,_,e,h3,fun m=>if_pos (hk m)⟩
    rw[hc];refine(znz at' a.bal sv w hf hb hns hz).mono ?_;rintro e w' ⟨h1,h2,h3⟩;exact⟨h1,h.put hs hd h3 hf hf' (h2.mono (Nat.le_succ _)) (fun m hm=>if_neg hm) (fun m hm=>⟨fun _=>if_pos hm,fun hc'=>absurd ⟨hb,hc,hk⟩ hc'⟩),h3⟩
   ·have hss:SomeSlots w sv:=by
     rcases hs with⟨e,h0⟩|⟨b,e,_,h3⟩
     ·exact absurd h0 hk
     ·refine⟨b,n,_,e,by omega,h3,fun h4=>hk fun k=> ?_⟩;have h5:=h4 k;unfold Zs at h5;split at h5
      ·assumption
      ·cases h5
    have hno:¬a.no:=fun h=>hk h.2.2
    have some'':=@some';rw[hc] at some''⊢;exact(zmc at' a.bal sv w hf hml hb hss hz).mono fun e w' h=>some'' hno h
  ·exact(zoD at' a.bal a.code sv w hf hml hb hc hz).mono fun e w' h=>some' (fun h=>hc h.2.1) h
 ·exact(put_bal at' a.bal a.code sv w hf hml hb hz).mono fun e w' h=>some' (fun h=>hb h.1) h
theorem zjF {a b:Nat} (h:a%M=b%M) {c:ByteArray} {s:Value}:Z1 a c s=Z1 b c s:=by
 have e:=yl h;injection e with e
 injection e with e
 injection e with h0 e
 injection e with h1 e
 injection e with h2 e
 injection e with h3 e
 unfold Z1 accC;rw[h0,h1,h2,h3]
theorem AccsX.mono {ab n m at':Nat} {A:Nat->Acc} {sb:Nat->Value} {w:World} (h:AccsX ab n A sb at' w) (hn:n<=m):AccsX ab m A sb at' w:=
 ⟨by obtain⟨f,h1,h2⟩:=h.map;exact⟨f,h1.mono hn,h2⟩,fun k h1 h2=>(h.slot k h1 h2).kb (Kb.refl [] w) (by simp) hn,h.inj,h.cong⟩
theorem Accs.mono {ab n m:Nat} {A:Nat->Acc} {sb:Nat->Value} {w:World} (h:Accs ab n A sb w) (hn:n<=m):Accs ab m A sb w:=
 ⟨by obtain⟨f,h1,h2⟩:=h.map;exact⟨f,h1.mono hn,h2⟩,fun k h2=>(h.slot k h2).kb (Kb.refl [] w) (by simp) hn,h.inj,h.cong⟩
theorem Accs.read {ab n:Nat} {A:Nat->Acc} {sb:Nat->Value} {w:World} (h:Accs ab n A sb w) (at':Nat) {f:Nat->Option Value} (hf:∀m,((A m).no->f m=none)/\(¬(A m).no->f m=some (Z1 (A m).bal (A m).code (sb m)))):
  ∃sv,(f at').getD zlL=Z1 (A at').bal (A at').code sv/\SlotsOk w n ab (A at').slots sv/\(∀m b,m%M≠at'%M->¬(A m).no->sb m=.map (some b)->sv≠.map (some b))/\(∀b,sv=.map (some b)->Zm ab A sb b):=by
 by_cases hno:(A at').no
 ·refine⟨.map none, ?_,Or.inl ⟨rfl,hno.2.2⟩,fun m b _ _ _ e=>(by cases e),fun b e=>(by cases e)⟩;rw[(hf at').1 hno,hno.2.1,zjF (show(A at').bal%M=0%M from hno.1)];simp[Z1,accC,zs]
 ·refine⟨sb at', ?_,h.slot at' hno,fun m b hm hm2 e e2=>hm (h.inj m at' b hm2 hno e e2),fun b e=>Or.inr ⟨at',hno,e⟩⟩;rw[(hf at').2 hno];rfl
abbrev b2 (w:World) (a c:Nat):World:=(w.alloc (wc a)).alloc (wc c)
theorem ze4 {ab n:Nat} {A:Nat->Acc} {sb:Nat->Value} (at' v:Nat) (w:World) (h:Accs ab n A sb w) (hn:n<1000000000000) (hz:Zr w):
  Calls prog 206 #[.map (some ab),wv at',wv v] w fun e w'=>e=.returned (.tuple #[])/\(∃sv,(∀b,sv=.map (some b)->Zm ab A sb b)/\Accs ab (n+1) (zO A at' {A at' with bal:=v}) (zO sb at' sv) w')/\Kb [ab] w w':=by
 have hB:Below w.heap.size w (b2 w at' v):=bal (bal (Below.refl _ w) _) _;obtain⟨f,hf,hf'⟩:=h.map;obtain⟨sv,e1,e3,e4,e5⟩:=h.read at' hf';have hlk:=(hf.kb (Kb.of_below (S:=[]) hB) (by simp)).look Yr Yk at';rw[e1] at hlk
 have HP:Hid (∀x,Kb [] w x->Calls prog 81 #[.map (some ab),wv at',Z1 v (A at').code sv] x fun e w'=>e=.returned (.tuple #[])/\Accs ab (n+1) (zO A at' {A at' with bal:=v}) (zO sb at' sv) w'/\Kb [ab] x w'):=fun x hx=>
  zhe {A at' with bal:=v} sv x ((h.x at').kb hx (by simp) (by simp)) (e3.kb hx (by simp) (Nat.le_refl _)) e4 hn (hz.kb hx (by simp))
 have HE:=zb e5;obtain⟨o,rfl⟩:=e3.is;clear h hn hz hB hf hf' e1 e3 e4 e5;generalize(A at').bal=bl at*;generalize(A at').code=cd at*;go_enter func206,ntmps206;go_wp2_with fail
 have hk0:Kb [] w ((b2 w at' v).alloc (Obj.cells #[.int .u64 (za v 0),.int .u64 (za v 1),.int .u64 (za v 2),.int .u64 (za v 3),.string cd,.map o] 95)):=(((Kb.refl [] w).alloc _).alloc _).alloc _;refine(HP.out _ hk0).mono ?_;rintro e w1 ⟨rfl,hA,hK⟩;have HO:Hid ((∃sv,(∀b,sv=.map (some b)->Zm ab A sb b)/\Accs ab (n+1) (zO A at' {A at' with bal:=v}) (zO sb at' sv) w1)/\Kb [ab] w w1):=⟨⟨_,HE.out,hA⟩,(hk0.mono (by simp)).trans hK (by simp)⟩;clear hA hK hk0 HP HE hlk;go_wp2;go_end0;exact⟨rfl,HO.out⟩
end
section
open Go.Maps
def yi (s:Nat->Nat) (k v:Nat):Nat->Nat:=fun m=>if m%M=k%M then v else s m
theorem zf3 (s:Nat->Nat) (k v:Nat) (hv:v%M≠0) (m:Nat):Zs (yi s k v) m=if m%M=k%M then some (wv v) else Zs s m:=by
 unfold Zs yi;by_cases e:m%M=k%M
 ·rw[if_pos e,if_pos e,if_neg hv]
 ·rw[if_neg e,if_neg e]
theorem zgj (s:Nat->Nat) (k v:Nat) (hv:v%M=0) (m:Nat):Zs (yi s k v) m=if m%M=k%M then none else Zs s m:=by
 unfold Zs yi;by_cases e:m%M=k%M
 ·rw[if_pos e,if_pos e,if_pos hv]
 ·rw[if_neg e,if_neg e]
abbrev b3 (w:World) (a c d:Nat):World:=((w.alloc (wc a)).alloc (wc c)).alloc (wc d)
abbrev b4 (w:World) (a c d bl:Nat) (cd:ByteArray) (o:Option Nat):World:=(b3 w a c d).alloc (.cells #[.int .u64 (za bl 0),.int .u64 (za bl 1),.int .u64 (za bl 2),.int .u64 (za bl 3),.string cd,.map o] 95)
theorem zfx (w:World) (a c d:Nat):Below w.heap.size w (b3 w a c d):=bal (bal (bal (Below.refl _ w) _) _) _
theorem zdI {ab n:Nat} {A:Nat->Acc} {sb:Nat->Value} {at':Nat} {s':Nat->Nat} {w:World} (h:Accs ab n A sb w) (hn:n<900000000000) (hz:Zr w) {x:World} {S:List Nat} {b:Nat} (hk:Kb S w x) (ha:AM x b (n+1) (Zs s')) (hS:∀k∈S,k=b) (hab:b≠ab) (h0:0≠b) (hot:∀m,m%M≠at'%M->¬(A m).no->sb m≠.map (some b)):
  Calls prog 81 #[.map (some ab),wv at',Z1 (A at').bal (A at').code (.map (some b))] x fun e w'=>e=.returned (.tuple #[])/\Accs ab (n+2) (zO A at' {A at' with slots:=s'}) (zO sb at' (.map (some b))) w'/\Kb [ab] x w':=by
 have hx:=((h.x at').kb hk (fun hm=>hab (hS _ hm).symm) (fun m k hm hno e hk=>hot m hm hno (by rw[e,hS k hk]))).mono (Nat.le_succ n);exact zhe {A at' with slots:=s'} (.map (some b)) x hx (Or.inr ⟨b,rfl,hab,ha⟩) (fun m k hm hno e e2=>hot m hm hno (e.trans e2.symm)) (by omega) (hz.kb hk (fun hm=>h0 (hS _ hm)))
theorem zom (w:World):(binOp .eql 93 (.map none) (.map none)).run prog w=.ok (.bool true) w:=by kernel_rfl
theorem znO (b:Nat) (w:World):(binOp .eql 93 (.map (some b)) (.map none)).run prog w=.ok (.bool false) w:=by kernel_rfl
theorem zcN {S:List Nat} {w x:World} {a c d bl:Nat} {cd:ByteArray} {o:Option Nat} (hk:Kb S (b4 w a c d bl cd o) x) (h1:w.heap.size∉S) (h2:w.heap.size+1+1+1∉S):
  (x.cell? ⟨w.heap.size,0,none⟩=some (.int .u64 (za a 0))/\x.cell? ⟨w.heap.size,1,none⟩=some (.int .u64 (za a 1))/\x.cell? ⟨w.heap.size,2,none⟩=some (.int .u64 (za a 2))/\x.cell? ⟨w.heap.size,3,none⟩=some (.int .u64 (za a 3)))/\
  (x.cell? ⟨w.heap.size+1+1+1,0,none⟩=some (.int .u64 (za bl 0))/\x.cell? ⟨w.heap.size+1+1+1,1,none⟩=some (.int .u64 (za bl 1))/\x.cell? ⟨w.heap.size+1+1+1,2,none⟩=some (.int .u64 (za bl 2))/\x.cell? ⟨w.heap.size+1+1+1,3,none⟩=some (.int .u64 (za bl 3))/\x.cell? ⟨w.heap.size+1+1+1,4,none⟩=some (.string cd)/\x.cell? ⟨w.heap.size+1+1+1,5,none⟩=some (.map o)):=by
 have q1:∀i,x.cell? ⟨w.heap.size,i,none⟩=(b4 w a c d bl cd o).cell? ⟨w.heap.size,i,none⟩:=fun i=>World.cell?_of_block (hk.block _ (by simp;omega) h1)
 have q2:∀i,x.cell? ⟨w.heap.size+1+1+1,i,none⟩=(b4 w a c d bl cd o).cell? ⟨w.heap.size+1+1+1,i,none⟩:=fun i=>World.cell?_of_block (hk.block _ (by simp) h2)
 simp only[q1,q2];simp[go_sem]
abbrev nwb (w:World):Nat:=w.heap.size+1+1+1+1
abbrev b5 (w:World) (a c d bl:Nat) (cd:ByteArray):World:=(b4 w a c d bl cd (some (nwb w))).alloc (.map #[] 0)
theorem b5_made (w:World) (a c d bl:Nat) (cd:ByteArray):AM (b5 w a c d bl cd) (nwb w) 0 (fun _=>none):=by
 have h:=AM.made (b4 w a c d bl cd (some (nwb w)));rw[show(b4 w a c d bl cd (some (nwb w))).heap.size=nwb w by simp[nwb]] at h;exact h
theorem b5_kb (S:List Nat) (w:World) (a c d bl:Nat) (cd:ByteArray):Kb S w (b5 w a c d bl cd):=(((((Kb.refl S w).alloc _).alloc _).alloc _).alloc _).alloc _
theorem zoH {s:Nat->Nat} (h:∀k,s k%M=0) (m:Nat):Zs s m=none:=if_pos (h m)
theorem Accs.old {ab n:Nat} {A:Nat->Acc} {sb:Nat->Value} {w:World} (h:Accs ab n A sb w) {m b:Nat} (hno:¬(A m).no) (e:sb m=.map (some b)):b<w.heap.size:=h.lt (Or.inr ⟨m,hno,e⟩)
theorem ziB {ab n:Nat} {A:Nat->Acc} {sb:Nat->Value} (at' key v:Nat) (w:World) (h:Accs ab n A sb w) (hn:n<900000000000) (hz:Zr w) {f:Nat->Option Value} (hf:AM w ab n f) (e1:(f at').getD zlL=Z1 (A at').bal (A at').code (.map none)) (h0:∀k,(A at').slots k%M=0):
  Calls prog 207 #[.map (some ab),wv at',wv key,wv v] w fun e w'=>e=.returned (.tuple #[])/\Accs ab (n+2) (zO A at' {A at' with slots:=yi (A at').slots key v}) (zO sb at' (.map (some (nwb w)))) w'/\Kb [ab] w w':=by
 have hlk:=(hf.kb (Kb.of_below (S:=[]) (zfx w at' key v)) (by simp)).look Yr Yk at';rw[e1] at hlk
 have HF:Hid (∀x,Kb [nwb w] (b5 w at' key v (A at').bal (A at').code) x->AM x (nwb w) (n+1) (Zs (yi (A at').slots key v))->Calls prog 81 #[.map (some ab),wv at',Z1 (A at').bal (A at').code (.map (some (nwb w)))] x fun e w'=>e=.returned (.tuple #[])/\Accs ab (n+2) (zO A at' {A at' with slots:=yi (A at').slots key v}) (zO sb at' (.map (some (nwb w)))) w'/\Kb [ab] x w'):=by
  intro x hk ha;have hab:ab<w.heap.size:=h.lt (Or.inl rfl);exact zdI h hn hz (S:=[]) ((b5_kb [] w at' key v _ _).trans hk (fun i hi=>Or.inr (by simp at hi;unfold nwb at hi;omega))) ha (by simp) (by unfold nwb;omega) (by unfold nwb;omega) (fun m hm hno e=>by have:=h.old hno e;unfold nwb at this;omega)
 have HG:Hid (∀m,Zs (A at').slots m=none):=fun m=>zoH h0 m
 generalize hU:zO A at' {A at' with slots:=yi (A at').slots key v}=U at*;clear hU h0 e1;generalize(A at').bal=bl at*;generalize(A at').code=cd at*;generalize(A at').slots=sl at*;obtain⟨⟨z0,z1,z2,z3⟩,_⟩:=hz.below (bal (Below.refl _ w) (wc at'));have hmm:=@run_makeMap prog;have hne:=zom;have hez:=Z5 v;have HA:=zb (b5_made w at' key v bl cd);have HKB:=zb (b5_kb [ab] w at' key v bl cd);have HL:Hid (0<maxLen):=by unfold maxLen;show 0<_;omega
 have HNB:Hid (nwb w∈[ab]\/w.heap.size<=nwb w):=Or.inr (by unfold nwb;omega);clear h hn hz hf;by_cases hv:v%M=0
 ·rw[zfn hv] at hez;have HV:=zb hv;clear hv;go_enter func207,ntmps207;go_wp2_with (first|(at_delete;refine Yw _ rfl _ _ 93 rfl _ zaz (nwb w) 0 (fun _=>none) rfl HA.out key rfl ?_;intro w1 hA hT;have HA1:Hid (AM w1 (nwb w) (n+1) (Zs (yi sl key v))/\Kb [nwb w] (b5 w at' key v bl cd) w1):=⟨(hA.mono (by omega)).congr (fun m=>(zgj sl key v HV.out m).trans (by rw[HG.out m])),yF hT⟩;obtain⟨⟨c0,c1,c2,c3⟩,d0,d1,d2,d3,d4,d5⟩:=zcN (((Kb.refl [] (b4 w at' key v bl cd (some (nwb w)))).alloc (.map #[] 0)).mono (T:=[nwb w]) (by simp) |>.trans HA1.out.2 (fun i hi=>Or.inl hi)) (by simp[nwb];omega) (by simp[nwb]);clear hA hT)|fail)
  refine(HF.out _ HA1.out.2 HA1.out.1).mono ?_;rintro e w2 ⟨rfl,hR,hK⟩;have HO:Hid (Accs ab (n+2) U (zO sb at' (.map (some (nwb w)))) w2/\Kb [ab] w w2):=⟨hR,(HKB.out.trans HA1.out.2 (fun i hi=>by simp at hi;subst hi;exact HNB.out)).trans hK (by simp)⟩;clear hR hK HF HA1;go_wp2;go_end0;exact⟨rfl,HO.out⟩
 ·rw[zh2 hv] at hez;have HV:=zb hv;clear hv;go_enter func207,ntmps207;go_wp2_with (first|(at_mapUpdate;refine ZV _ rfl _ _ _ 93 rfl _ zaz (nwb w) 0 (fun _=>none) rfl HA.out HL.out key (wv v) rfl rfl ?_;intro w1 hA hT;have HA1:Hid (AM w1 (nwb w) (n+1) (Zs (yi sl key v))/\Kb [nwb w] (b5 w at' key v bl cd) w1):=⟨(hA.mono (by omega)).congr (fun m=>(zf3 sl key v HV.out m).trans (by rw[HG.out m])),yF hT⟩;obtain⟨⟨c0,c1,c2,c3⟩,d0,d1,d2,d3,d4,d5⟩:=zcN (((Kb.refl [] (b4 w at' key v bl cd (some (nwb w)))).alloc (.map #[] 0)).mono (T:=[nwb w]) (by simp) |>.trans HA1.out.2 (fun i hi=>Or.inl hi)) (by simp[nwb];omega) (by simp[nwb]);clear hA hT)|fail)
  refine(HF.out _ HA1.out.2 HA1.out.1).mono ?_;rintro e w2 ⟨rfl,hR,hK⟩;have HO:Hid (Accs ab (n+2) U (zO sb at' (.map (some (nwb w)))) w2/\Kb [ab] w w2):=⟨hR,(HKB.out.trans HA1.out.2 (fun i hi=>by simp at hi;subst hi;exact HNB.out)).trans hK (by simp)⟩;clear hR hK HF HA1;go_wp2;go_end0;exact⟨rfl,HO.out⟩
theorem b4_kb (S:List Nat) (w:World) (a c d bl:Nat) (cd:ByteArray) (o:Option Nat):Kb S w (b4 w a c d bl cd o):=((((Kb.refl S w).alloc _).alloc _).alloc _).alloc _
theorem zjm {ab n:Nat} {A:Nat->Acc} {sb:Nat->Value} (at' key v:Nat) (w:World) (h:Accs ab n A sb w) (hn:n<900000000000) (hz:Zr w) {f:Nat->Option Value} (hf:AM w ab n f) {b:Nat} (e1:(f at').getD zlL=Z1 (A at').bal (A at').code (.map (some b))) (hb:AM w b n (Zs (A at').slots)) (hab:b≠ab) (hot:∀m,m%M≠at'%M->¬(A m).no->sb m≠.map (some b)) (hb0:0≠b):
  Calls prog 207 #[.map (some ab),wv at',wv key,wv v] w fun e w'=>e=.returned (.tuple #[])/\Accs ab (n+2) (zO A at' {A at' with slots:=yi (A at').slots key v}) (zO sb at' (.map (some b))) w'/\Kb [ab,b] w w':=by
 have hlk:=(hf.kb (Kb.of_below (S:=[]) (zfx w at' key v)) (by simp)).look Yr Yk at';rw[e1] at hlk
 have HF:Hid (∀x,Kb [b] (b4 w at' key v (A at').bal (A at').code (some b)) x->AM x b (n+1) (Zs (yi (A at').slots key v))->Calls prog 81 #[.map (some ab),wv at',Z1 (A at').bal (A at').code (.map (some b))] x fun e w'=>e=.returned (.tuple #[])/\Accs ab (n+2) (zO A at' {A at' with slots:=yi (A at').slots key v}) (zO sb at' (.map (some b))) w'/\Kb [ab] x w'):=by
  intro x hk ha;exact zdI h hn hz (S:=[b]) ((b4_kb [b] w at' key v _ _ _).trans hk (fun i hi=>Or.inl hi)) ha (by simp) hab hb0 hot
 have HA:=zb (hb.kb (b4_kb [] w at' key v (A at').bal (A at').code (some b)) (by simp));generalize hU:zO A at' {A at' with slots:=yi (A at').slots key v}=U at*;have hlt:=hb.lt;clear hU e1 hb hot;generalize(A at').bal=bl at*;generalize(A at').code=cd at*;generalize(A at').slots=sl at*;obtain⟨⟨z0,z1,z2,z3⟩,_⟩:=hz.below (bal (Below.refl _ w) (wc at'));have hne:=znO b;have hez:=Z5 v;have HKB:=zb (b4_kb [ab,b] w at' key v bl cd (some b));have HL:Hid (n<maxLen):=by unfold maxLen;show n<_;omega
 have HLT:Hid (w.heap.size∉[b]/\w.heap.size+1+1+1∉[b]):=⟨by simp;omega,by simp;omega⟩;clear h hn hz hf hlt hab hb0;by_cases hv:v%M=0
 ·rw[zfn hv] at hez;have HV:=zb hv;clear hv;go_enter func207,ntmps207;go_wp2_with (first|(at_delete;refine Yw _ rfl _ _ 93 rfl _ zaz b n (Zs sl) rfl HA.out key rfl ?_;intro w1 hA hT;have HA1:Hid (AM w1 b (n+1) (Zs (yi sl key v))/\Kb [b] (b4 w at' key v bl cd (some b)) w1):=⟨(hA.mono (by omega)).congr (fun m=>zgj sl key v HV.out m),yF hT⟩;obtain⟨⟨c0,c1,c2,c3⟩,d0,d1,d2,d3,d4,d5⟩:=zcN HA1.out.2 HLT.out.1 HLT.out.2;clear hA hT)|fail)
  refine(HF.out _ HA1.out.2 HA1.out.1).mono ?_;rintro e w2 ⟨rfl,hR,hK⟩;have HO:Hid (Accs ab (n+2) U (zO sb at' (.map (some b))) w2/\Kb [ab,b] w w2):=⟨hR,(HKB.out.trans HA1.out.2 (fun i hi=>Or.inl (by simp at hi;simp[hi]))).trans hK (fun i hi=>Or.inl (by simp at hi;simp[hi]))⟩;clear hR hK HF HA1;go_wp2;go_end0;exact⟨rfl,HO.out⟩
 ·rw[zh2 hv] at hez;have HV:=zb hv;clear hv;go_enter func207,ntmps207;go_wp2_with (first|(at_mapUpdate;refine ZV _ rfl _ _ _ 93 rfl _ zaz b n (Zs sl) rfl HA.out HL.out key (wv v) rfl rfl ?_;intro w1 hA hT;have HA1:Hid (AM w1 b (n+1) (Zs (yi sl key v))/\Kb [b] (b4 w at' key v bl cd (some b)) w1):=⟨hA.congr (fun m=>zf3 sl key v HV.out m),yF hT⟩;obtain⟨⟨c0,c1,c2,c3⟩,d0,d1,d2,d3,d4,d5⟩:=zcN HA1.out.2 HLT.out.1 HLT.out.2;clear hA hT)|fail)
  refine(HF.out _ HA1.out.2 HA1.out.1).mono ?_;rintro e w2 ⟨rfl,hR,hK⟩;have HO:Hid (Accs ab (n+2) U (zO sb at' (.map (some b))) w2/\Kb [ab,b] w w2):=⟨hR,(HKB.out.trans HA1.out.2 (fun i hi=>Or.inl (by simp at hi;simp[hi]))).trans hK (fun i hi=>Or.inl (by simp at hi;simp[hi]))⟩;clear hR hK HF HA1;go_wp2;go_end0;exact⟨rfl,HO.out⟩
theorem zr_no {w:World} (hz:Zr w) {b n:Nat} {f:Nat->Option Value} (h:AM w b n f):0≠b:=fun e=>by
 subst e;obtain⟨es,cl,h1⟩:=h.is;obtain⟨⟨z0,_⟩,_⟩:=hz;simp[World.cell?,h1] at z0
theorem zin {ab n:Nat} {A:Nat->Acc} {sb:Nat->Value} (at' key v:Nat) (w:World) (h:Accs ab n A sb w) (hn:n<900000000000) (hz:Zr w):
  Calls prog 207 #[.map (some ab),wv at',wv key,wv v] w fun e w'=>e=.returned (.tuple #[])/\(∃sv,(∀b,sv=.map (some b)->Zm ab A sb b\/w.heap.size<=b)/\Accs ab (n+2) (zO A at' {A at' with slots:=yi (A at').slots key v}) (zO sb at' sv) w')/\∃S,Kb S w w'/\∀k∈S,Zm ab A sb k:=by
 obtain⟨f,hf,hf'⟩:=h.map;obtain⟨sv,e1,e3,e4,e5⟩:=h.read at' hf';rcases e3 with⟨rfl,h0⟩|⟨b,rfl,hab,hb⟩
 ·refine(ziB at' key v w h hn hz hf e1 h0).mono ?_;rintro e w' ⟨h1,h2,h3⟩;exact⟨h1,⟨_,fun b e=>Or.inr (by injection e with e;injection e with e;unfold nwb at e;omega),h2⟩,[ab],h3,fun k hk=>Or.inl (by simpa using hk)⟩
 ·refine(zjm at' key v w h hn hz hf e1 hb hab (fun m hm hno e=>e4 m b hm hno e rfl) (zr_no hz hb)).mono ?_;rintro e w' ⟨h1,h2,h3⟩;refine⟨h1,⟨_,fun b' e=>Or.inl (e5 b' e),h2⟩,[ab,b],h3,fun k hk=> ?_⟩;simp at hk;rcases hk with rfl|rfl
  ·exact Or.inl rfl
  ·exact e5 k rfl
end
section
open Go.Maps
structure Chg where
 kind:Nat
 at':Nat
 key:Nat
 old:Nat
structure LogE where
 at':Nat
 topics:List Nat
 data:ByteArray
structure TS where
 acc:Nat->Acc
 pas:Nat->Nat->Nat
 ch:List Chg
 logs:List LogE
structure TV where
 ab:Nat
 pb:Nat
 n:Nat
 sb:Nat->Value
 cv:Value
 lv:Value
 tv:List Value
abbrev zdU (kind a key:Nat):Array Value:=#[.int .i64 (kind:Int),.int .u64 (za a 0),.int .u64 (za a 1),.int .u64 (za a 2),.int .u64 (za a 3),.int .u64 (za key 0),.int .u64 (za key 1),.int .u64 (za key 2),.int .u64 (za key 3)]
abbrev ZU (kind a key:Nat):Value:=.agg (zdU kind a key)
def chC (c:Chg):List Value:=[.int .i64 (c.kind:Int),.int .u64 (za c.at' 0),.int .u64 (za c.at' 1),.int .u64 (za c.at' 2),.int .u64 (za c.at' 3),.int .u64 (za c.key 0),.int .u64 (za c.key 1),.int .u64 (za c.key 2),.int .u64 (za c.key 3),.int .u64 (za c.old 0),.int .u64 (za c.old 1),.int .u64 (za c.old 2),.int .u64 (za c.old 3)]
def chL (l:List Chg):List Value:=l.flatMap chC
def loC (l:LogE) (t:Value):List Value:=[.int .u64 (za l.at' 0),.int .u64 (za l.at' 1),.int .u64 (za l.at' 2),.int .u64 (za l.at' 3),t,.string l.data]
def loL:List LogE->List Value->List Value
 |l::r,t::s=>loC l t++loL r s
 |_,_=>[]
def Lo (w:World) (base:Nat) (lv:Value) (tv:List Value) (L:List LogE):Prop:=
 tv.length=L.length/\w.ownsRow base 112 6 lv L.length (loL L tv)/\∀(i:Nat) l t,L[i]? =some l->tv[i]? =some t->Wds w base t l.topics
theorem Lo.kb {S:List Nat} {w w':World} {base:Nat} {lv:Value} {tv:List Value} {L:List LogE} (h:Lo w base lv tv L) (hk:Kb S w w') (h1:∀k,lv.ownBlock=some k->k∉S) (h2:∀t∈tv,∀k,t.ownBlock=some k->k∉S):Lo w' base lv tv L:=
 ⟨h.1,hk.own h.2.1 h1,fun i l t hl ht=>hk.own (h.2.2 i l t hl ht) (h2 t (List.mem_of_getElem? ht))⟩
def trC (V:TV) (i:Nat):Value:=if i=0 then .map (some V.ab) else if i=1 then .map (some V.pb) else if i=2 then V.cv else V.lv
def PM (w:World) (pb n:Nat) (p:Nat->Nat->Nat):Prop:=∃g,MapV prog 217 w pb n g/\∀a k,(g (ZU 2 a k)).getD (wv 0)=wv (p a k)
theorem PM.kb {S:List Nat} {w w':World} {pb n:Nat} {p:Nat->Nat->Nat} (h:PM w pb n p) (hk:Kb S w w') (hS:pb∉S):PM w' pb n p:=by
 obtain⟨g,h1,h2⟩:=h;exact⟨g,h1.block (hk.block pb h1.lt hS),h2⟩
theorem PM.lt {w:World} {pb n:Nat} {p:Nat->Nat->Nat} (h:PM w pb n p):pb<w.heap.size:=by
 obtain⟨g,h1,h2⟩:=h;exact h1.lt
theorem PM.is {w:World} {pb n:Nat} {p:Nat->Nat->Nat} (h:PM w pb n p):∃es cl,w.heap[pb]? =some (.map es cl):=by
 obtain⟨g,h1,h2⟩:=h;exact h1.is
theorem PM.mono {w:World} {pb n m:Nat} {p:Nat->Nat->Nat} (h:PM w pb n p) (hn:n<=m):PM w pb m p:=by
 obtain⟨g,h1,h2⟩:=h;exact⟨g,h1.mono hn,h2⟩
structure Tr (base tb:Nat) (T:TS) (V:TV) (w:World):Prop where
 row:w.rowIs tb 131 4 (trC V)
 acc:Accs V.ab V.n T.acc V.sb w
 pas:PM w V.pb V.n T.pas
 ch:w.ownsRow base 220 13 V.cv T.ch.length (chL T.ch)
 lo:Lo w base V.lv V.tv T.logs
 zr:Zr w
 hb:base<=w.heap.size
 hb1:0<base
 pn:¬Zm V.ab T.acc V.sb V.pb
def zG (tb:Nat) (T:TS) (V:TV) (k:Nat):Prop:=k=tb\/Zm V.ab T.acc V.sb k\/k=V.pb\/V.cv.ownBlock=some k\/V.lv.ownBlock=some k\/∃t∈V.tv,t.ownBlock=some k
theorem Tr.kb {S:List Nat} {base tb:Nat} {T:TS} {V:TV} {w w':World} (h:Tr base tb T V w) (hk:Kb S w w') (hS:∀k∈S,¬zG tb T V k) (h0:0∉S):Tr base tb T V w':=
 ⟨hk.row h.row (fun hm=>hS _ hm (Or.inl rfl)),h.acc.kb hk (fun k hm hf=>hS k hm (Or.inr (Or.inl hf))),h.pas.kb hk (fun hm=>hS _ hm (Or.inr (Or.inr (Or.inl rfl)))),
  hk.own h.ch (fun k e hm=>hS k hm (Or.inr (Or.inr (Or.inr (Or.inl e))))),h.lo.kb hk (fun k e hm=>hS k hm (Or.inr (Or.inr (Or.inr (Or.inr (Or.inl e)))))) (fun t ht k e hm=>hS k hm (Or.inr (Or.inr (Or.inr (Or.inr (Or.inr ⟨t,ht,e⟩)))))),
  h.zr.kb hk h0,Nat.le_trans h.hb hk.size,h.hb1,h.pn⟩
theorem Tr.below {base tb:Nat} {T:TS} {V:TV} {w w':World} (h:Tr base tb T V w) (hk:Below w.heap.size w w'):Tr base tb T V w':=h.kb (Kb.of_below (S:=[]) hk) (by simp) (by simp)
def zeA (T:TS) (kind a key:Nat):Nat:=if kind=0 then(T.acc a).bal else if kind=1 then(T.acc a).slots key else T.pas a key
theorem zmL (s:Nat->Nat) (k:Nat):(Zs s k).getD (.agg #[.int .u64 0,.int .u64 0,.int .u64 0,.int .u64 0])=wv (s k):=by
 unfold Zs;by_cases h:s k%M=0
 ·rw[if_pos h,yl (show s k%M=0%M from h)];unfold wv;rw[zs,zs,zs,zs];rfl
 ·rw[if_neg h];rfl
theorem zfV {w:World} {n ab:Nat} {s:Nat->Nat} {v:Value} (h:SlotsOk w n ab s v) (k:Nat):(Instr.lookup 93 v (wv k) false).run prog w=.ok (wv (s k)) w:=by
 rcases h with⟨rfl,h0⟩|⟨b,rfl,_,hb⟩
 ·obtain⟨l,hl⟩:=zcj k;have:=Maps.look_nil (w:=w) false wd_keyed zaz (zeP w) hl;rw[yl (show s k%M=0%M from h0 k)];unfold wv;rw[zs,zs,zs,zs];simpa using this
 ·rw[hb.look zaz zeP k,zmL]
theorem zoo (b:Nat) (c:ByteArray) (o:Option Nat) (w:World):(Instr.field 95 (Z1 b c (.map o)) 0).run prog w=.ok (wv b) w:=by kernel_rfl
theorem acc_f1 (b:Nat) (c:ByteArray) (o:Option Nat) (w:World):(Instr.field 95 (Z1 b c (.map o)) 1).run prog w=.ok (.string c) w:=by kernel_rfl
theorem acc_f2 (b:Nat) (c:ByteArray) (o:Option Nat) (w:World):(Instr.field 95 (Z1 b c (.map o)) 2).run prog w=.ok (.map o) w:=by kernel_rfl
abbrev g2 (w:World) (kind a key:Nat):World:=((w.alloc (.cells (zdU kind a key) 217)).alloc (.cells #[.int .u64 0,.int .u64 0,.int .u64 0,.int .u64 0] 24)).drew
theorem zer (w:World) (kind a key:Nat):Below w.heap.size w (g2 w kind a key):=(bal (bal (Below.refl _ w) _) _).drew
theorem zgf {base tb:Nat} {T:TS} {V:TV} (a key:Nat) (w:World) (h:Tr base tb T V w):
  Calls prog 202 #[.pointer (some ⟨tb,0,none⟩),ZU 0 a key] w fun e w'=>e=.returned (wv (T.acc a).bal)/\Below w.heap.size w w':=by
 have h2:=h.below (zer w 0 a key);obtain⟨f,hf,hf'⟩:=h2.acc.map;obtain⟨sv,e1,e3,e4,e5⟩:=h2.acc.read a hf';have hlk:=hf.look Yr Yk a;rw[e1] at hlk;have c0:=h2.row.cell (i:=0) (by decide);rw[show trC V 0=.map (some V.ab) from rfl] at c0;obtain⟨o,rfl⟩:=e3.is;generalize(T.acc a).bal=bl at*;generalize(T.acc a).code=cd at*;clear h h2 hf hf' e1 e3 e4 e5;have hfd:=zoo bl cd o;go_enter func202,ntmps202;go_wp2
 go_region
 go_wp2;refine bodyPost_ret (v:=wv bl) (by simp[results,results202,go_sem]) rfl ⟨rfl,(bal (bal (Below.refl _ w) _) _).drew⟩
theorem zdX {base tb:Nat} {T:TS} {V:TV} (a key:Nat) (w:World) (h:Tr base tb T V w):
  Calls prog 202 #[.pointer (some ⟨tb,0,none⟩),ZU 1 a key] w fun e w'=>e=.returned (wv ((T.acc a).slots key))/\Below w.heap.size w w':=by
 have h2:=h.below (zer w 1 a key);obtain⟨f,hf,hf'⟩:=h2.acc.map;obtain⟨sv,e1,e3,e4,e5⟩:=h2.acc.read a hf';have hlk:=hf.look Yr Yk a;rw[e1] at hlk;have c0:=h2.row.cell (i:=0) (by decide);rw[show trC V 0=.map (some V.ab) from rfl] at c0;obtain⟨o,rfl⟩:=e3.is;have hsl:=zfV e3 key;generalize(T.acc a).slots key=r at*;generalize(T.acc a).bal=bl at*;generalize(T.acc a).code=cd at*;clear h h2 hf hf' e1 e3 e4 e5;have hfd:=acc_f2 bl cd o;go_enter func202,ntmps202;go_wp2
 go_region
 go_wp2;refine bodyPost_ret (v:=wv r) (by simp[results,results202,go_sem]) rfl ⟨rfl,(bal (bal (Below.refl _ w) _) _).drew⟩
end
section
open Go.Maps
def yN (T:TS) (kind a key v:Nat):TS:=
 if kind=0 then{T with acc:=zO T.acc a {T.acc a with bal:=v}} else if kind=1 then{T with acc:=zO T.acc a {T.acc a with slots:=yi (T.acc a).slots key v}} else{T with pas:=fun b k=>if b%M=a%M/\k%M=key%M then v else T.pas b k}
theorem Accs.isMap {ab n k:Nat} {A:Nat->Acc} {sb:Nat->Value} {w:World} (h:Accs ab n A sb w) (hk:Zm ab A sb k):∃es cl,w.heap[k]? =some (.map es cl):=by
 rcases hk with rfl|⟨m,h1,h2⟩
 ·obtain⟨f,h1,_⟩:=h.map;exact h1.is
 ·rcases h.slot m h1 with⟨e,_⟩|⟨b,e,_,h3⟩
  ·rw[e] at h2;cases h2
  ·rw[e] at h2;injection h2 with h2;injection h2 with h2;subst h2;exact h3.is
theorem yj {w:World} {base e size n k:Nat} {v:Value} {xs:List Value} (ho:w.ownsRow base e size v n xs) (hk:∃es cl,w.heap[k]? =some (.map es cl)):v.ownBlock≠some k:=fun h=>by
 obtain⟨es,cl,h1⟩:=hk;rcases ho.2 with⟨h2,_⟩|⟨g,cap,cur,h2,_,h3,_⟩
 ·rw[h2] at h;cases h
 ·rw[h2] at h;obtain rfl:g=k:=by simpa[Value.ownBlock] using h
  rw[h1] at h3;cases h3
theorem ZN {w:World} {b T N k:Nat} {f:Nat->Value} (hr:w.rowIs b T N f) (hk:∃es cl,w.heap[k]? =some (.map es cl)):b≠k:=fun e=>by
 subst e;obtain⟨es,cl,h1⟩:=hk;obtain⟨c,h2,_⟩:=hr;rw[h1] at h2;cases h2
theorem zbQ {w:World} {k:Nat} (hz:Zr w) (hk:∃es cl,w.heap[k]? =some (.map es cl)):0≠k:=fun e=>by
 subst e;obtain⟨es,cl,h1⟩:=hk;obtain⟨⟨z0,_⟩,_⟩:=hz;simp[World.cell?,h1] at z0
theorem Lo.tv {w:World} {base:Nat} {lv:Value} {tv:List Value} {L:List LogE} (h:Lo w base lv tv L) {t:Value} (ht:t∈tv):∃l,Wds w base t l:=by
 obtain⟨i,hi,e⟩:=List.getElem_of_mem ht;have h1:i<L.length:=by rw[<-h.1];exact hi
 exact⟨_,h.2.2 i L[i] t (List.getElem?_eq_getElem h1) (by rw[List.getElem?_eq_getElem hi,e])⟩
def TTo (base tb:Nat) (T:TS) (V:TV) (T':TS) (m:Nat) (w w':World):Prop:=∃V' S,Tr base tb T' V' w'/\V'.n<=V.n+m/\Kb S w w'/\(∀k∈S,zG tb T V k)/\(∀k,zG tb T' V' k->zG tb T V k\/w.heap.size<=k)/\V'.ab=V.ab
theorem Tr.to {base tb:Nat} {T:TS} {V:TV} {w w':World} (h:Tr base tb T V w) (hk:Below w.heap.size w w'):TTo base tb T V T 0 w w':=⟨V,[],h.below hk,Nat.le_refl _,Kb.of_below hk,by simp,fun k hk=>Or.inl hk,rfl⟩
theorem TTo.pre {base tb m:Nat} {T T1:TS} {V:TV} {w x w1:World} (hb:Below w.heap.size w x) (h:TTo base tb T V T1 m x w1):TTo base tb T V T1 m w w1:=by
 obtain⟨V1,S,h1,h2,h3,h4,h5,h6⟩:=h;refine⟨V1,S,h1,h2,(Kb.of_below hb).trans h3 (fun i hi=>Or.inl hi),h4,fun k hk=>(h5 k hk).imp id (fun h=>Nat.le_trans hb.size h),h6⟩
theorem TTo.below {base tb m:Nat} {T T1:TS} {V:TV} {w x w1:World} (h:TTo base tb T V T1 m w x) (hb:Below x.heap.size x w1):TTo base tb T V T1 m w w1:=by
 obtain⟨V1,S,h1,h2,h3,h4,h5,h6⟩:=h;exact⟨V1,S,h1.below hb,h2,h3.below hb,h4,h5,h6⟩
theorem Tr.acc_to {base tb n' a:Nat} {T:TS} {V:TV} {w w':World} {A':Acc} {sv:Value} {S:List Nat} (h:Tr base tb T V w) (hk:Kb S w w') (hS:∀k∈S,Zm V.ab T.acc V.sb k) (hn:V.n<=n') (hsv:∀b,sv=.map (some b)->Zm V.ab T.acc V.sb b\/w.heap.size<=b) (hA:Accs V.ab n' (zO T.acc a A') (zO V.sb a sv) w'):
  Tr base tb {T with acc:=zO T.acc a A'} {V with n:=n',sb:=zO V.sb a sv} w'/\∀k,zG tb {T with acc:=zO T.acc a A'} {V with n:=n',sb:=zO V.sb a sv} k->zG tb T V k\/w.heap.size<=k:=by
 have ha:∀k,Zm V.ab (zO T.acc a A') (zO V.sb a sv) k->Zm V.ab T.acc V.sb k\/w.heap.size<=k:=by
  intro k hk;rcases hk with rfl|⟨m,h1,h2⟩
  ·exact Or.inl (Or.inl rfl)
  ·by_cases e:m%M=a%M
   ·rw[Zx e] at h2;exact hsv k h2
   ·rw[Za e] at h1 h2;exact Or.inl (Or.inr ⟨m,h1,h2⟩)
 have hm:∀k∈S,∃es cl,w.heap[k]? =some (.map es cl):=fun k hk=>h.acc.isMap (hS k hk)
 refine⟨⟨hk.row h.row (fun e=>ZN h.row (hm _ e) rfl),hA,(h.pas.kb hk (fun e=>h.pn (hS _ e))).mono hn,hk.own h.ch (fun k e hS=>yj h.ch (hm k hS) e),h.lo.kb hk (fun k e hS=>yj h.lo.2.1 (hm k hS) e) (fun t ht k e hS=>by obtain⟨l,hl⟩:=h.lo.tv ht;exact yj hl (hm k hS) e),h.zr.kb hk (fun e=>zbQ h.zr (hm _ e) rfl),Nat.le_trans h.hb hk.size,h.hb1,fun e=> ?_⟩,fun k hk=> ?_⟩
 ·rcases ha _ e with e|e
  ·exact h.pn e
  ·have:=h.pas.lt;exact absurd e (by show¬w.heap.size<=V.pb;omega)
 ·rcases hk with e|e|e
  ·exact Or.inl (Or.inl e)
  ·rcases ha _ e with e|e
   ·exact Or.inl (Or.inr (Or.inl e))
   ·exact Or.inr e
  ·exact Or.inl (Or.inr (Or.inr e))
theorem zhF {base tb:Nat} {T:TS} {V:TV} (a v:Nat) (w:World) (h:Tr base tb T V w) (hn:V.n<900000000000):
  Calls prog 206 #[.map (some V.ab),wv a,wv v] w fun e w'=>e=.returned (.tuple #[])/\TTo base tb T V (yN T 0 a 0 v) 2 w w':=by
 refine(ze4 a v w h.acc (by omega) h.zr).mono ?_;rintro e w' ⟨h1,⟨sv,h2,h3⟩,h4⟩;obtain⟨h5,h6⟩:=h.acc_to h4 (fun k hk=>Or.inl (by simpa using hk)) (Nat.le_succ _) (fun b e=>Or.inl (h2 b e)) h3;exact⟨h1,_,[V.ab],h5,by show V.n+1<=_;omega,h4,fun k hk=>Or.inr (Or.inl (Or.inl (by simpa using hk))),h6,rfl⟩
theorem zmO {base tb:Nat} {T:TS} {V:TV} (a key v:Nat) (w:World) (h:Tr base tb T V w) (hn:V.n<900000000000):
  Calls prog 207 #[.map (some V.ab),wv a,wv key,wv v] w fun e w'=>e=.returned (.tuple #[])/\TTo base tb T V (yN T 1 a key v) 2 w w':=by
 refine(zin a key v w h.acc hn h.zr).mono ?_;rintro e w' ⟨h1,⟨sv,h2,h3⟩,S,h4,h7⟩;obtain⟨h5,h6⟩:=h.acc_to h4 h7 (Nat.le_add_right _ 2) h2 h3;exact⟨h1,_,S,h5,by show V.n+2<=_;omega,h4,fun k hk=>Or.inr (Or.inl (h7 k hk)),h6,rfl⟩
abbrev p2 (w:World) (kind a key v:Nat):World:=((w.alloc (.cells (zdU kind a key) 217)).alloc (wc v)).drew
theorem zaN (w:World) (kind a key v:Nat):Below w.heap.size w (p2 w kind a key v):=(bal (bal (Below.refl _ w) _) _).drew
theorem zeL {base tb:Nat} {T:TS} {V:TV} (a key v:Nat) (w:World) (h:Tr base tb T V w) (hn:V.n<900000000000):
  Calls prog 159 #[.pointer (some ⟨tb,0,none⟩),ZU 0 a key,wv v] w fun e w'=>e=.returned (.tuple #[])/\TTo base tb T V (yN T 0 a key v) 2 w w':=by
 have h2:=h.below (zaN w 0 a key v);have HS:=zb (zhF a v _ h2 hn);have HB:=zb (zaN w 0 a key v);have c0:=h2.row.cell (i:=0) (by decide);rw[show trC V 0=.map (some V.ab) from rfl] at c0;have HT:Hid (yN T 0 a key v=yN T 0 a 0 v):=rfl;clear h h2;go_enter func159,ntmps159;go_wp2
 go_region_with (refine HS.out.mono ?_;rintro e w1 ⟨rfl,hto⟩)
 all_goals (
  have HO:Hid (TTo base tb T V (yN T 0 a key v) 2 w w1):=by rw[HT.out];exact hto.pre HB.out
  clear hto;go_wp2;go_end0;exact⟨rfl,HO.out⟩)
theorem zcP {base tb:Nat} {T:TS} {V:TV} (a key v:Nat) (w:World) (h:Tr base tb T V w) (hn:V.n<900000000000):
  Calls prog 159 #[.pointer (some ⟨tb,0,none⟩),ZU 1 a key,wv v] w fun e w'=>e=.returned (.tuple #[])/\TTo base tb T V (yN T 1 a key v) 2 w w':=by
 have h2:=h.below (zaN w 1 a key v);have HS:=zb (zmO a key v _ h2 hn);have HB:=zb (zaN w 1 a key v);have c0:=h2.row.cell (i:=0) (by decide);rw[show trC V 0=.map (some V.ab) from rfl] at c0;clear h h2;go_enter func159,ntmps159;go_wp2
 go_region_with (refine HS.out.mono ?_;rintro e w1 ⟨rfl,hto⟩)
 all_goals (
  have HO:Hid (TTo base tb T V (yN T 1 a key v) 2 w w1):=hto.pre HB.out;clear hto;go_wp2;go_end0;exact⟨rfl,HO.out⟩)
end
section
open Go.Maps
theorem zll:Own 202:=fun _ _=>by kernel_rfl
theorem info_ch:(prog.info? 220).map (fun i=>(i.zero,i.size,i.bytes))=some (some (.agg #[.int .i64 0,.int .u64 0,.int .u64 0,.int .u64 0,.int .u64 0,.int .u64 0,.int .u64 0,.int .u64 0,.int .u64 0,.int .u64 0,.int .u64 0,.int .u64 0,.int .u64 0]),13,104):=by kernel_rfl
theorem ty_ch:prog.underlying 129=some (.slice 220):=by kernel_rfl
def yY (T:TS) (kind a key v:Nat):TS:=yN {T with ch:=T.ch++[⟨kind,a,key,zeA T kind a key⟩]} kind a key v
theorem znJ (l:List Chg) (c:Chg):chL (l++[c])=chL l++chC c:=by simp[chL]
theorem trC_cv (V:TV) (v':Value):(fun i=>if i=2 then v' else trC V i)=trC {V with cv:=v'}:=by
 funext i;by_cases h:i=2
 ·subst h;rfl
 ·simp only[trC,if_neg h]
theorem zka:(220:Nat)≠112:=by decide
theorem tCh_Wd:(220:Nat)≠24:=by decide
theorem zes:(131:Nat)≠220:=by decide
theorem zfk:(131:Nat)≠112:=by decide
theorem zhs:(131:Nat)≠24:=by decide
theorem Tr.ch_to {base tb:Nat} {T:TS} {V:TV} {w w':World} {v':Value} {c':List Chg} (h:Tr base tb T V w) (hu:Up V.cv.ownBlock.toList tb 2 v' w w') (ho:w'.ownsRow base 220 13 v' c'.length (chL c')) (hf:Fresh w V.cv v') (hcb:∀k,V.cv.ownBlock=some k->base<=k):
  Tr base tb {T with ch:=c'} {V with cv:=v'} w'/\TTo base tb T V {T with ch:=c'} 0 w w':=by
 have hS:∀k∈tb::V.cv.ownBlock.toList,k=tb\/V.cv.ownBlock=some k:=fun k hk=>by simpa using hk
 have hnm:∀k,(∃es cl,w.heap[k]? =some (.map es cl))->k∉tb::V.cv.ownBlock.toList:=fun k hm hk=>by
  rcases hS k hk with e|e
  ·exact ZN h.row hm e.symm
  ·exact yj h.ch hm e
 have hdis:∀{e size n v xs b},w.ownsRow b e size v n xs->131≠e->220≠e->∀k,v.ownBlock=some k->k∉tb::V.cv.ownBlock.toList:=fun ho h1 h2 k hk hm=>by
  rcases hS k hm with e|e
  ·exact zI h.row ho h1 k hk e
  ·rcases zfE h.ch ho h2 with e2|e2
   ·rw[e] at e2;cases e2
   ·exact e2 (e.trans hk.symm)
 have h0:0∉tb::V.cv.ownBlock.toList:=fun hm=>by
  rcases hS 0 hm with e|e
  ·have h1:=h.row.cell (i:=0) (by decide);rw[<-e] at h1;rw[h.zr.1.1] at h1;cases h1
  ·have:=hcb 0 e;have:=h.hb1;omega
 have hT:Tr base tb {T with ch:=c'} {V with cv:=v'} w':=by
  refine⟨?_,h.acc.kb hu.kb (fun k hk hm=>hnm k (h.acc.isMap hm) hk),h.pas.kb hu.kb (hnm _ h.pas.is),ho,h.lo.kb hu.kb (hdis h.lo.2.1 zfk zka) (fun t ht=>by obtain⟨l,hl⟩:=h.lo.tv ht;exact hdis hl zhs tCh_Wd),h.zr.kb hu.kb h0,Nat.le_trans h.hb hu.kb.size,h.hb1,h.pn⟩;rw[<-trC_cv];exact hu.row h.row
 refine⟨hT,_,_,hT,Nat.le_refl _,hu.kb,fun k hk=> ?_,fun k hk=> ?_,rfl⟩
 ·rcases hS k hk with e|e
  ·exact Or.inl e
  ·exact Or.inr (Or.inr (Or.inr (Or.inl e)))
 ·rcases hk with e|e|e|e|e
  ·exact Or.inl (Or.inl e)
  ·exact Or.inl (Or.inr (Or.inl e))
  ·exact Or.inl (Or.inr (Or.inr (Or.inl e)))
  ·rcases hf with e2|e2
   ·exact Or.inl (Or.inr (Or.inr (Or.inr (Or.inl (e2▸e)))))
   ·exact Or.inr (e2 k e)
  ·exact Or.inl (Or.inr (Or.inr (Or.inr (Or.inr e))))
theorem znM {S:List Nat} {w x:World} {a key v kind:Nat} (hk:Kb S (p2 w kind a key v) x) (h1:w.heap.size∉S) (h2:w.heap.size+1∉S):
  (x.cell? ⟨w.heap.size,0,none⟩=some (.int .i64 (kind:Int))/\x.cell? ⟨w.heap.size,1,none⟩=some (.int .u64 (za a 0))/\x.cell? ⟨w.heap.size,2,none⟩=some (.int .u64 (za a 1))/\x.cell? ⟨w.heap.size,3,none⟩=some (.int .u64 (za a 2))/\x.cell? ⟨w.heap.size,4,none⟩=some (.int .u64 (za a 3))/\
   x.cell? ⟨w.heap.size,5,none⟩=some (.int .u64 (za key 0))/\x.cell? ⟨w.heap.size,6,none⟩=some (.int .u64 (za key 1))/\x.cell? ⟨w.heap.size,7,none⟩=some (.int .u64 (za key 2))/\x.cell? ⟨w.heap.size,8,none⟩=some (.int .u64 (za key 3)))/\
  (x.cell? ⟨w.heap.size+1,0,none⟩=some (.int .u64 (za v 0))/\x.cell? ⟨w.heap.size+1,1,none⟩=some (.int .u64 (za v 1))/\x.cell? ⟨w.heap.size+1,2,none⟩=some (.int .u64 (za v 2))/\x.cell? ⟨w.heap.size+1,3,none⟩=some (.int .u64 (za v 3))):=by
 have q1:∀i,x.cell? ⟨w.heap.size,i,none⟩=(p2 w kind a key v).cell? ⟨w.heap.size,i,none⟩:=fun i=>World.cell?_of_block (hk.block _ (by simp;omega) h1)
 have q2:∀i,x.cell? ⟨w.heap.size+1,i,none⟩=(p2 w kind a key v).cell? ⟨w.heap.size+1,i,none⟩:=fun i=>World.cell?_of_block (hk.block _ (by simp) h2)
 simp only[q1,q2];simp[go_sem]
end
end cin
end Go.Proofs.YtohoajjdoihekaaGreatDoor
