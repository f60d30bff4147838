import Derived.Test.YtohoajjdoihekaaGreatDoorUm
import Derived.Laws.StructEq
import Derived.Maps.Views
import Derived.ProofKit
import Derived.OpenShut
import Derived.ChangeOld
import Derived.Below
import Derived.Laws.IdiomArrays
set_option linter.unusedVariables false
set_option linter.unusedSimpArgs false
namespace Go.Proofs.YtohoajjdoihekaaGreatDoor
namespace cin
open Go.RowKit Go.Proofs.Tryz Tryz
set_option maxRecDepth 100000
set_option maxHeartbeats 8000000
theorem K9{p:Prop}(h:p:=by omega):p:=h
section
open Go.Maps
theorem zb5 (n:Nat) (hn:n<9223372036854775808) (w:World):Calls prog 12 #[.int .i64 (n:Int)] w fun e w'=>e=.returned (wv n)/\Below w.heap.size w w':=by
 refine(zcA n hn w).mono ?_;rintro e w' ⟨r,hr,he,hb⟩;rw[hr.out] at he;exact⟨he,hb⟩
theorem clip_b (s:ByteArray) (w:World):Calls prog 26 #[.string s] w fun e w'=>e=.returned (.string (zap s))/\Below w.heap.size w w':=by
 refine(zjP s w).mono ?_;rintro e w' ⟨he,rfl⟩;exact⟨he,Below.refl _ _⟩
section
variable {s:Act} {x:World} {pos:String} {af:Array Edge} {gd:Option (Nat×Bool)} {K:Act->World->Prop} {Q:Exit->Act->World->Prop}
end
def s03:Nat->Nat:=fun m=>if m%M=0 then 3 else 0
def StrIn (x:World) (v:Value) (cs:List ByteArray):Prop:=∃ad c,v=.slice ad cs.length c/\(cs=[]\/∃g o,ad=some ⟨g,o,none⟩/\g<x.heap.size/\∀i,i<cs.length->x.cell? ⟨g,o+i,none⟩=some (.string (cs.getD i ByteArray.empty)))
def wAt (cs:List ByteArray) (i:Nat):AcE:=⟨2+i,10*i,zap (cs.getD i ByteArray.empty),[(0,3)]⟩
def wls (own:ByteArray) (cs:List ByteArray) (n:Nat):List AcE:=⟨1,100,own,[]⟩::(List.range n).map (wAt cs)
def Z9 (own:ByteArray) (cs:List ByteArray):List AcE:=wls own cs (min cs.length 6)
def acW:List AcE->List Value->List Value
 |a::r,sl::t=>acC a.at' a.bal a.code sl++acW r t
 |_,_=>[]
theorem zmG:∀(l:List AcE) (sls:List Value),sls.length=l.length->∀(i:Nat) a sl,l[i]? =some a->sls[i]? =some sl->∀j,j<10->(acW l sls)[i*10+j]? =some ((acC a.at' a.bal a.code sl)[j]!)
 |[],_,_,i,a,sl,h,_,_,_=>by simp at h
 |_::_,[],h,_,_,_,_,_,_,_=>by cases h
 |b::r,s::t,h,0,a,sl,h1,h2,j,hj=>by
  obtain rfl:=Option.some.inj h1;obtain rfl:=Option.some.inj h2;show(acC b.at' b.bal b.code s++acW r t)[0*10+j]? =_;rw[Nat.zero_mul,Nat.zero_add,List.getElem?_append_left (by exact hj),getElem!_pos _ j (by exact hj),List.getElem?_eq_getElem (by exact hj)]
 |b::r,s::t,h,i+1,a,sl,h1,h2,j,hj=>by
  show(acC b.at' b.bal b.code s++acW r t)[(i+1)*10+j]? =_;rw[List.getElem?_append_right (by show 10<=_;omega),show(i+1)*10+j - (acC b.at' b.bal b.code s).length=i*10+j by show _ - 10=_;omega];exact zmG r t (by simpa using h) i a sl h1 h2 j hj
def zh9 (l:List (Nat×Nat)):List Value:=l.flatMap fun p=>ZF p.1++ZF p.2
theorem zi7:∀(l:List (Nat×Nat)) (i:Nat) p,l[i]? =some p->∀j,j<8->(zh9 l)[i*8+j]? =some ((ZF p.1++ZF p.2)[j]!)
 |[],i,p,h,_,_=>by simp at h
 |b::r,0,p,h1,j,hj=>by
  obtain rfl:=Option.some.inj h1;show(ZF b.1++ZF b.2++zh9 r)[0*8+j]? =_;rw[Nat.zero_mul,Nat.zero_add,List.getElem?_append_left (by exact hj),getElem!_pos _ j (by exact hj),List.getElem?_eq_getElem (by exact hj)]
 |b::r,i+1,p,h1,j,hj=>by
  show(ZF b.1++ZF b.2++zh9 r)[(i+1)*8+j]? =_;rw[List.getElem?_append_right (by show 8<=_;omega),show(i+1)*8+j - (ZF b.1++ZF b.2).length=i*8+j by show _ - 8=_;omega];exact zi7 r i p h1 j hj
theorem slIn_of {x:World} {base:Nat} {v:Value} {l:List (Nat×Nat)} (h2:x.ownsRow base 54 8 v l.length (zh9 l)):SlIn x v l:=by
 rcases h2.2 with⟨e,e2⟩|⟨g,cap,cur,e,hb,hh,_⟩
 ·exact⟨none,0,by rw[e,e2],Or.inl (List.length_eq_zero_iff.1 e2)⟩
 ·refine⟨some ⟨g,0,none⟩,cap,e,Or.inr ⟨g,0,rfl,(Array.getElem?_eq_some_iff.1 hh).1,fun i a ha j hj=> ?_⟩⟩;have hi:i<l.length:=(List.getElem?_eq_some_iff.1 ha).1;subst e;rw[Nat.zero_add,World.ownsRow.cellAt h2 (i*8+j) K9];exact zi7 l i a ha j hj
structure AcOwn (base:Nat) (v:Value) (l:List AcE) (x:World):Prop where
 ex:∃sls:List Value,sls.length=l.length/\x.ownsRow base 34 10 v l.length (acW l sls)/\∀(i:Nat) a sl,l[i]? =some a->sls[i]? =some sl->x.ownsRow base 54 8 sl a.slots.length (zh9 a.slots)
theorem AcOwn.is {base:Nat} {v:Value} {l:List AcE} {x:World} (h:AcOwn base v l x):AcIn x v l:=by
 obtain⟨sls,h1,h2,h3⟩:=h.ex;rcases h2.2 with⟨e,e2⟩|⟨g,cap,cur,e,hb,hh,_⟩
 ·exact⟨none,0,by rw[e,e2],Or.inl (List.length_eq_zero_iff.1 e2)⟩
 ·refine⟨some ⟨g,0,none⟩,cap,e,Or.inr ⟨g,0,rfl,(Array.getElem?_eq_some_iff.1 hh).1,fun i a ha=> ?_⟩⟩;have hi:i<l.length:=(List.getElem?_eq_some_iff.1 ha).1;have hs:sls[i]? =some sls[i]:=List.getElem?_eq_getElem K9;refine⟨sls[i],fun j hj=> ?_,slIn_of (h3 i a _ ha hs)⟩;subst e;rw[Nat.zero_add,World.ownsRow.cellAt h2 (i*10+j) K9];exact zmG l sls h1 i a _ ha hs j hj
end
section
open Go.Maps
structure IsList (A:Nat->Acc) (l:List AcE):Prop where
 ex:∃ts,zbS A ts/\l.length=ts.length/\∀(i:Nat) k a,ts[i]? =some k->l[i]? =some a->a.at'=k/\a.bal=(A k).bal%M/\a.code=(A k).code/\∃us,SortedKeys (Zs (A k).slots) us/\a.slots=us.map fun m=>(m,(A k).slots m%M)
structure EqA (A B:Nat->Acc):Prop where
 bal:∀a,(B a).bal%M=(A a).bal%M
 code:∀a,(B a).code=(A a).code
 slot:∀a k,(B a).slots k%M=(A a).slots k%M
theorem zby (n i:Nat) (h:i<4):za (n%M) i=za n i:=by
 have e:=yo (m:=n%M) (n:=n) (Nat.mod_mod n M);unfold wv at e;injection e with e
 have e:=congrArg Array.toList e;simp only[List.cons.injEq] at e;rcases(show i=0\/i=1\/i=2\/i=3 by omega) with rfl|rfl|rfl|rfl<;>simp_all
theorem encW_m (n:Nat):ZF (n%M)=ZF n:=by
 unfold ZF;rw[zby n 0 K9,zby n 1 K9,zby n 2 K9,zby n 3 K9]
theorem zlB (s:Nat->Nat):∀us:List Nat,zh9 (us.map fun m=>(m,s m%M))=slC s us
 |[]=>rfl
 |m::r=>by
  show ZF m++ZF (s m%M)++zh9 (r.map fun m=>(m,s m%M))=ZF m++ZF (s m)++slC s r;rw[encW_m,zlB s r]
theorem Told.list {base:Nat} {A:Nat->Acc} {ts:List Nat} {v:Value} {sls:List Value} {w:World} (h:Told base A ts v sls w) (hk:zbS A ts):∃l,IsList A l/\AcOwn base v l w:=by
 have hch:∀i,∃us:List Nat,∀(hi:i<ts.length),SortedKeys (Zs (A ts[i]).slots) us/\w.ownsRow base 54 8 (sls[i]'(by rw[h.len];exact hi)) us.length (slC (A ts[i]).slots us):=fun i=>by
  by_cases hi:i<ts.length
  ·obtain⟨us,_,h2,h3⟩:=h.sl i ts[i] (sls[i]'(by rw[h.len];exact hi)) (List.getElem?_eq_getElem hi) (List.getElem?_eq_getElem (by rw[h.len];exact hi));exact⟨us,fun _=>⟨h2,h3⟩⟩
  ·exact⟨[],fun h=>absurd h hi⟩
 obtain⟨f,hf⟩:=Classical.axiomOfChoice hch
 let mk:Nat->AcE:=fun i=>⟨ts.getD i 0,(A (ts.getD i 0)).bal%M,(A (ts.getD i 0)).code,(f i).map fun m=>(m,(A (ts.getD i 0)).slots m%M)⟩
 have hl:((List.range ts.length).map mk).length=ts.length:=by simp
 have hg:∀(i:Nat) a,((List.range ts.length).map mk)[i]? =some a->i<ts.length/\a=mk i:=fun i a ha=>by
  have hi:i<ts.length:=by rw[<-hl];exact(List.getElem?_eq_some_iff.1 ha).1
  refine⟨hi, ?_⟩;rw[List.getElem?_map,List.getElem?_range hi] at ha;exact(Option.some.inj ha).symm
 refine⟨(List.range ts.length).map mk,⟨ts,hk,hl,fun i k a hkk ha=> ?_⟩,⟨sls,by rw[hl];exact h.len, ?_,fun i a sl ha hs=> ?_⟩⟩
 ·obtain⟨hi,rfl⟩:=hg i a ha;have e:ts.getD i 0=k:=by rw[List.getD_eq_getElem?_getD,hkk];rfl
  have e2:ts[i]=k:=by rw[List.getElem?_eq_getElem hi] at hkk;exact Option.some.inj hkk
  have h9:=(hf i hi).1;rw[e2] at h9;refine⟨e, ?_, ?_,f i,h9, ?_⟩<;>(show _=_;dsimp only[mk];rw[e])
 ·rw[hl]
  have e:acW ((List.range ts.length).map mk) sls=acL A ts sls:=by
   have key:∀(us:List Nat) (bs:List AcE) (ss:List Value),bs.length=us.length->(∀(i:Nat) k a,us[i]? =some k->bs[i]? =some a->a.at'=k/\a.bal=(A k).bal%M/\a.code=(A k).code)->acW bs ss=acL A us ss:=by
    intro us
    induction us with
    |nil=>intro bs ss h1 _;obtain rfl:=List.length_eq_zero_iff.1 h1;cases ss<;>rfl
    |cons k r ih=>
     intro bs ss h1 h2;cases bs with
     |nil=>cases h1
     |cons a bs=>
      cases ss with
      |nil=>rfl
      |cons s ss=>
       obtain⟨q1,q2,q3⟩:=h2 0 k a rfl rfl;show acC a.at' a.bal a.code s++acW bs ss=acC k (A k).bal (A k).code s++acL A r ss;rw[ih bs ss (by simpa using h1) (fun i k a h3 h4=>h2 (i+1) k a h3 h4),q1,q2,q3];unfold acC;rw[zby _ 0 K9,zby _ 1 K9,zby _ 2 K9,zby _ 3 K9]
   refine key ts _ sls hl fun i k a hkk ha=> ?_
   obtain⟨hi,rfl⟩:=hg i a ha;have e:ts.getD i 0=k:=by rw[List.getD_eq_getElem?_getD,hkk];rfl
   refine⟨e, ?_, ?_⟩<;>(show _=_;dsimp only[mk];rw[e])
  rw[e];exact h.own
 ·obtain⟨hi,rfl⟩:=hg i a ha;have h9:=(hf i hi).2;have e:ts.getD i 0=ts[i]:=by rw[List.getD_eq_getElem?_getD,List.getElem?_eq_getElem hi];rfl
  have e2:sls[i]'(by rw[h.len];exact hi)=sl:=by
   have:=hs;rw[List.getElem?_eq_getElem (by rw[h.len];exact hi)] at this;exact Option.some.inj this
  rw[e2] at h9;show w.ownsRow base 54 8 sl ((f i).map fun m=>(m,(A (ts.getD i 0)).slots m%M)).length (zh9 ((f i).map fun m=>(m,(A (ts.getD i 0)).slots m%M)));rw[zlB,List.length_map,e];exact h9
end
section
open Go.Maps
theorem eqInt9 (x y:Int) (w:World):(Op.equalIn 9998 22 (.int .u64 x) (.int .u64 y)).run prog w=.ok (x==y) w:=run_equalIn_int w 9997 22 .u64 .u64 x y underlying22
theorem eq4_9 (x0 x1 x2 x3 y0 y1 y2 y3:Int) (w:World):(Op.equalIn 9999 24 (.agg #[.int .u64 x0,.int .u64 x1,.int .u64 x2,.int .u64 x3]) (.agg #[.int .u64 y0,.int .u64 y1,.int .u64 y2,.int .u64 y3])).run prog w=.ok (x0==y0&&(x1==y1&&(x2==y2&&x3==y3))) w:=by
 obtain⟨i,hi, -⟩:=Option.map_eq_some_iff.1 (show(prog.info? 22).map (fun i=>i.size)=some 1 by kernel_rfl);rw[run_equalIn_array w 9998 _ _ underlying24 hi,show List.range 4=[0,1,2,3] from rfl,zko];simp only[Op.eqItems,Sem.run_bind,Nat.mul_one,part0,part1,part2,part3,Result.andThen_ok,eqInt9,Sem.run_ite,Sem.run_pure];cases h0:(x0==y0)<;>cases h1:(x1==y1)<;>cases h2:(x2==y2)<;>cases h3:(x3==y3)<;>rfl
theorem zo6 (xs:Array Value) (o:Nat) (w:World):(part 24 xs o).run prog w=.ok (.agg (xs.extract o (o+4))) w:=by
 obtain⟨i,hi,hs⟩:=Option.map_eq_some_iff.1 (show(prog.info? 24).map (fun i=>i.size)=some 4 by kernel_rfl);simp[part,isAgg,run_underlying underlying24,hi,hs,sizeOf,typeInfo,go_sem]
theorem zka:(prog.fieldsOf 54).toList.map (fun f=>(f.name,f.type,f.offset))=[("Key",24,0),("Value",24,4)]:=by kernel_rfl
theorem zk8:prog.underlying 54=some (.struct (prog.fieldsOf 54)):=by kernel_rfl
theorem znp:prog.stoodInHeld 54=false:=by kernel_rfl
abbrev zmb (k v:Nat):Value:=.agg #[.int .u64 (za k 0),.int .u64 (za k 1),.int .u64 (za k 2),.int .u64 (za k 3),.int .u64 (za v 0),.int .u64 (za v 1),.int .u64 (za v 2),.int .u64 (za v 3)]
theorem eqw9 (a b:Nat) (w:World):(Op.equalIn 9999 24 (wv a) (wv b)).run prog w=.ok (eqw a b) w:=by
 rw[eq4_9,zdW]
theorem zpf (k v k' v':Nat) (w:World):(Op.equalIn 10000 54 (zmb k v) (zmb k' v')).run prog w=.ok (eqw k k'&&eqw v v') w:=by
 rw[run_equalIn_struct w 9999 _ _ _ zk8 znp];have hf:=zka;generalize(prog.fieldsOf 54).toList=fs at hf
 match fs,hf with
 |[],hf=>cases hf
 |[_],hf=>simp at hf
 |_::_::_::_,hf=>simp at hf
 |[f1,f2],hf=>
  simp only[List.map_cons,List.map_nil,List.cons.injEq,Prod.mk.injEq,and_true] at hf;obtain⟨⟨n1,t1,o1⟩,n2,t2,o2⟩:=hf;have p1:∀k v w,(part 24 #[.int .u64 (za k 0),.int .u64 (za k 1),.int .u64 (za k 2),.int .u64 (za k 3),.int .u64 (za v 0),.int .u64 (za v 1),.int .u64 (za v 2),.int .u64 (za v 3)] 0).run prog w=.ok (wv k) w:=fun k v w=>(zo6 _ 0 w).trans rfl
  have p2:∀k v w,(part 24 #[.int .u64 (za k 0),.int .u64 (za k 1),.int .u64 (za k 2),.int .u64 (za k 3),.int .u64 (za v 0),.int .u64 (za v 1),.int .u64 (za v 2),.int .u64 (za v 3)] 4).run prog w=.ok (wv v) w:=fun k v w=>(zo6 _ 4 w).trans rfl
  have q1:f1.name≠ "_":=by rw[n1];decide
  have q2:f2.name≠ "_":=by rw[n2];decide
  unfold Op.eqFields;rw[if_pos q1,t1,o1];simp only[Sem.run_bind,p1,Result.andThen_ok,eqw9,Sem.run_ite];unfold Op.eqFields;rw[if_pos q2,t2,o2];simp only[Sem.run_bind,p2,Result.andThen_ok,eqw9,Sem.run_ite];unfold Op.eqFields;simp only[Sem.run_pure];cases eqw k k'<;>cases eqw v v'<;>rfl
end
section
open Go.Maps
end
section
open Go.Maps
structure EqW (T T':TS):Prop where
 bal:∀a,(T'.acc a).bal%M=(T.acc a).bal%M
 code:∀a,(T'.acc a).code=(T.acc a).code
 slot:∀a k,(T'.acc a).slots k%M=(T.acc a).slots k%M
structure RoT (T T':TS):Prop where
 eq:EqW T T'
 ch:∃l,T'.ch=T.ch++l/\∀c∈l,c.kind=0/\c.old%M=(T.acc c.at').bal%M
 lo:T'.logs=T.logs
theorem call_to {wk:Wk} {op:Nat} {F F':Fz} {T T':TS} (h:Yh wk op F T=some (T',F')):T'=T\/∃asked tt v data G,Fx F G/\G.gas<=F.gas/\data.size<=65536/\YR G T v=true/\(F.ro=true->v%M=0)/\T'=(wk (zK op asked tt v data G T) T v G.self tt).2:=by
 unfold Yh at h;obtain⟨r1,h⟩:=Zh h;obtain⟨r2,h⟩:=Zh h;obtain⟨r3,h⟩:=Zh h;obtain⟨r4,h⟩:=Zh h;obtain⟨r5,h⟩:=Zh h;obtain⟨r6,h⟩:=Zh h;obtain⟨r7,h⟩:=Zh h;have hp:P5 F (zE (zE (F3w op F))):=((Zf F).next r1).trans (((Zf _).next r2).trans (((zlX op _).next r3).trans (((Zf _).next r4).trans (((Zf _).next r5).trans (((Zf _).next r6).trans ((Zf _).next r7))))));generalize zE (zE (F3w op F))=F7 at*;unfold zdA at h;cases hv:zdi (zC (Zp op (zE F))) F7 with
 |none=>rw[hv] at h;cases h
 |some y=>
  obtain⟨u,F8⟩:=y;rw[hv] at h
  have hz:F.ro=true->zC (Zp op (zE F))%M=0:=fun hro=>by
   unfold zdi at hv;split at hv
   ·assumption
   ·rw[if_pos (hp.fx.ro.trans hro)] at hv;cases hv
  have hp8:P5 F F8:=by
   refine hp.trans ?_;unfold zdi at hv;split at hv
   ·exact PF5.self F7 () _ _ hv
   ·split at hv
    ·cases hv
    ·exact zij _ F7 _ _ hv
  dsimp only at h;unfold zas at h;split at h
  ·cases h
  ·rename_i a b F9 h9;split at h
   ·cases h
   ·rename_i c d F10 h10;have hpG:P5 F F10:=hp8.trans ((ym _ _ _ _ _ h9).trans (ym _ _ _ _ _ h10));have hds:(ZH (zL F9.mem a b)).size<=65536:=Nat.le_trans (zdj _ _ _) (zd9 h9);have hfx:=hpG.fx;unfold za0 at h;split at h
    ·rename_i hmay;refine Or.inr ⟨zY F,Ze F,zC (Zp op (zE F)),ZH (zL F9.mem a b),{F10 with ret:=⟨#[]⟩},⟨hfx.code,hfx.data,hfx.depth,hfx.self,hfx.caller,hfx.value,hfx.ro⟩,hpG.more.1,hds,hmay,hz, ?_⟩
     match yO {({F10 with ret:=⟨#[]⟩}:Fz) with gas:=F10.gas - Zg {F10 with ret:=⟨#[]⟩} (zY F)} (wk (zK op (zY F) (Ze F) (zC (Zp op (zE F))) (ZH (zL F9.mem a b)) {F10 with ret:=⟨#[]⟩} T) T (zC (Zp op (zE F))) F10.self (Ze F)).1.st (wk (zK op (zY F) (Ze F) (zC (Zp op (zE F))) (ZH (zL F9.mem a b)) {F10 with ret:=⟨#[]⟩} T) T (zC (Zp op (zE F))) F10.self (Ze F)).1.gas (wk (zK op (zY F) (Ze F) (zC (Zp op (zE F))) (ZH (zL F9.mem a b)) {F10 with ret:=⟨#[]⟩} T) T (zC (Zp op (zE F))) F10.self (Ze F)).1.out c d,h with
     |none,h=>cases h
     |some y,h=>exact((Prod.mk.inj (Option.some.inj h)).1).symm
    ·refine Or.inl ?_
     match zm 0 {F10 with ret:=⟨#[]⟩},h with
     |none,h=>cases h
     |some y,h=>exact((Prod.mk.inj (Option.some.inj h)).1).symm
theorem step_to {wk:Wk} {F F':Fz} {T T':TS} (h:Z1 wk F T=some (F',T')):T'=T\/(F.ro=false/\((∃kd c,(kd=1\/kd=2)/\(kd=1->opF F=85)/\T'=Yo T kd F.self (zY (zQ F c)) (Ze (zQ F c)))\/∃L,T'={T with logs:=T.logs++[L]}/\L.at'=F.self))\/∃asked tt v data G,Fx F G/\G.gas+100<=F.gas/\data.size<=65536/\YR G T v=true/\(F.ro=true->v%M=0)/\T'=(wk (zK (opF F) asked tt v data G T) T v G.self tt).2:=by
 unfold Z1 at h;cases hc:ZC (opF F) with
 |none=>rw[hc] at h;cases h
 |some c=>
  rw[hc] at h;dsimp only at h;split at h
  ·cases h
  rename_i hg;have hg:c<=F.gas:=by omega
  unfold doM at h
  have hst:∀kd,(kd=1\/kd=2)->(kd=1->opF F=85)->yL kd (zQ F c) T=some (F',T')->(F.ro=false/\((∃kd c,(kd=1\/kd=2)/\(kd=1->opF F=85)/\T'=Yo T kd F.self (zY (zQ F c)) (Ze (zQ F c)))\/∃L,T'={T with logs:=T.logs++[L]}/\L.at'=F.self)):=by
   intro kd hkd h85 h;unfold yL at h;split at h
   ·cases h
   ·rename_i hro;have hro:¬F.ro=true:=hro;have hro:F.ro=false:=by simpa using hro
    refine⟨hro,Or.inl ⟨kd,c,hkd,h85, ?_⟩⟩
    match zM (zi (zQ F c)) (zM (zi (zh (zi (zQ F c)))) (some ((),zE (zQ F c)))),h with
    |none,h=>cases h
    |some y,h=>exact((Prod.mk.inj (Option.some.inj h)).2).symm
  split at h
  ·exact Or.inl (ZD h).2
  split at h
  ·exact Or.inl (ZD h).2
  split at h
  ·exact Or.inl (ZD h).2
  split at h
  ·unfold zfH at h;split at h
   ·rename_i e85;exact Or.inr (Or.inl (hst 1 (Or.inl rfl) (fun _=>e85) h))
   split at h
   ·exact Or.inr (Or.inl (hst 2 (Or.inr rfl) (fun e=>by cases e) h))
   ·exact Or.inl (ZD h).2
  split at h
  ·exact Or.inl (ZD h).2
  split at h
  ·exact Or.inl (ZD h).2
  split at h
  ·exact Or.inl (ZD h).2
  split at h
  ·have h:=zcM h;unfold zdT at h;split at h
   ·cases h
   ·rename_i hro;have hro:¬F.ro=true:=hro;have hro:F.ro=false:=by simpa using hro
    refine Or.inr (Or.inl ⟨hro,Or.inr ?_⟩);obtain⟨r1,h⟩:=Zh h;obtain⟨r2,h⟩:=Zh h;have hp:P5 (zQ F c) (zE (zQ F c)):=((Zf _).next r1).trans ((Zf _).next r2);unfold zgr at h;split at h
    ·cases h
    ·rename_i ts F1 h1;unfold zhX at h;split at h
     ·cases h
     ·rename_i a b F2 h2;split at h
      ·cases h
      ·obtain⟨rfl,rfl⟩:=Prod.mk.inj (Option.some.inj h);have hp2:=hp.trans (zeP _ _ _ _ h1);exact⟨_,rfl,hp2.fx.self⟩
  split at h
  ·rename_i hop
   have hcc:c=100:=by
    rcases hop with e|e|e<;>(rw[e] at hc;exact(Option.some.inj hc).symm)
   rcases call_to (zcM h) with e|⟨asked,tt,v,data,G,h1,h2,h3,h4,h5,h6⟩
   ·exact Or.inl e
   ·have h2:G.gas<=F.gas - c:=h2;exact Or.inr (Or.inr ⟨asked,tt,v,data,G,⟨h1.code,h1.data,h1.depth,h1.self,h1.caller,h1.value,h1.ro⟩,by omega,h3,h4,h5,h6⟩)
  ·exact Or.inl (ZD h).2
def RoAll (wk:Wk) (dep:Nat):Prop:=∀G T v fr tt,RunF G->dep<G.depth->G.gas<=100000->GoodT T->T.ch.length+T.logs.length+2+G.gas<=1000000->G.ro=true->v%M=0->RoT T (wk G T v fr tt).2
end
section
open Go.Maps
def Wfr (c:ByteArray) (fr val:Nat) (data:ByteArray) (g:Nat) (st:List Nat) (nx pc:Nat) (mem:List UInt8):Fz:={zd3 c fr 1 val data g with st:=st,nx:=nx,pc:=pc,mem:=mem}
theorem Z3 {wk:Wk} {n:Nat} {F F':Fz} {T T':TS} (he:F.ended=false) (h:Z1 wk F T=some (F',T')):Zl wk (n+1) F T=Zl wk n F' T':=by
 rw[Zl,if_neg (by rw[he];exact Bool.false_ne_true),h]
theorem st_n {wk:Wk} {F:Fz} {T:TS} {op c:Nat} {r:Option (Fz×TS)} (hop:opF F=op) (hc:ZC op=some c) (hg:c<=F.gas) (hd:doM wk op (zQ F c) T=r):Z1 wk F T=r:=by
 unfold Z1;rw[hop,hc];show(if F.gas<c then none else doM wk op (zQ F c) T)=r;rw[if_neg K9];exact hd
section
variable {wk:Wk} {c:ByteArray} {fr val:Nat} {data:ByteArray} {g:Nat} {st:List Nat} {nx pc:Nat} {mem:List UInt8} {T:TS}
theorem ziz (hn:nx<c.size):opF (Wfr c fr val data g st nx pc mem)=byt c nx:=if_pos hn
theorem zcN (hb:byt c nx=95) (hn:nx<c.size) (hg:3<=g) (hs:st.length<1000):Z1 wk (Wfr c fr val data g st nx pc mem) T=some (Wfr c fr val data (g - 3) (0::st) (nx+1) nx mem,T):=by
 refine st_n (op:=95) (c:=3) ((ziz hn).trans hb) rfl hg ?_;show Yr (Zy 0 (zQ (Wfr c fr val data g st nx pc mem) 3)) T=_;unfold Zy zm;rw[if_neg (by show st.length≠1024;omega)];have e:∀p,zN c p 0=[]:=fun p=>by unfold zN;simp
 show some ((({Wfr c fr val data g st nx pc mem with gas:=g - 3,pc:=nx,nx:=nx+1+0,st:=ofL (zN c ((nx+1)%M) 0)::st}:Fz)),T)=_;rw[e];rfl
theorem zmF {x:Nat} (hb:byt c nx=96) (hn:nx<c.size) (hv:ofL (zN c ((nx+1)%M) 1)=x) (hg:3<=g) (hs:st.length<1000):Z1 wk (Wfr c fr val data g st nx pc mem) T=some (Wfr c fr val data (g - 3) (x::st) (nx+2) nx mem,T):=by
 refine st_n (op:=96) (c:=3) ((ziz hn).trans hb) rfl hg ?_;show Yr (Zy 1 (zQ (Wfr c fr val data g st nx pc mem) 3)) T=_;unfold Zy zm;rw[if_neg (by show st.length≠1024;omega)];show some ((({Wfr c fr val data g st nx pc mem with gas:=g - 3,pc:=nx,nx:=nx+1+1,st:=ofL (zN c ((nx+1)%M) 1)::st}:Fz)),T)=_;rw[hv];rfl
theorem zp1 (hb:byt c nx=54) (hn:nx<c.size) (hg:2<=g) (hs:st.length<1000):Z1 wk (Wfr c fr val data g st nx pc mem) T=some (Wfr c fr val data (g - 2) (data.size::st) (nx+1) nx mem,T):=by
 refine st_n (op:=54) (c:=2) ((ziz hn).trans hb) rfl hg ?_;show Yr (zm data.size (zQ (Wfr c fr val data g st nx pc mem) 2)) T=_;unfold zm;rw[if_neg (by show st.length≠1024;omega)];rfl
theorem s_gas (hb:byt c nx=90) (hn:nx<c.size) (hg:2<=g) (hs:st.length<1000):Z1 wk (Wfr c fr val data g st nx pc mem) T=some (Wfr c fr val data (g - 2) ((g - 2)::st) (nx+1) nx mem,T):=by
 refine st_n (op:=90) (c:=2) ((ziz hn).trans hb) rfl hg ?_;show Yr (zm (g - 2) (zQ (Wfr c fr val data g st nx pc mem) 2)) T=_;unfold zm;rw[if_neg (by show st.length≠1024;omega)];rfl
theorem zku {α:Type} (L:List α) (o:Nat) (l:List α) (h:o+l.length<=L.length):(splice L o l).length=L.length:=by
 unfold splice;simp only[List.length_append,List.length_take,List.length_drop];omega
theorem zkf:1000000<M:=by unfold M;omega
theorem zkd {F:Fz} {n:Nat} (hm:F.mem=[]) (hn:n<=500) (hg:48<=F.gas):∃g' mem',zl 0 n F=some ((0,n),{F with gas:=g',mem:=mem'})/\F.gas<=g'+48/\g'<=F.gas/\mem'.length=32*zA n:=by
 have hM:=zkf;have en:n%M=n:=Nat.mod_eq_of_lt K9;unfold zl;simp only[en];by_cases h0:n=0
 ·rw[if_pos h0];exact⟨F.gas,F.mem,by rw[h0],by omega,Nat.le_refl _,by rw[hm,h0];rfl⟩
 ·rw[if_neg h0,if_pos (show yz 0 n 65536 by unfold yz;rw[en,Nat.zero_mod];omega)];have e2:0%M+n=n:=by rw[Nat.zero_mod];omega
  rw[e2];unfold yc;have e3:zA F.mem.length=0:=by rw[hm];rfl
  have e4:1<=zA n/\zA n<=16:=by unfold zA;omega
  rw[e3,if_neg K9];unfold yt;rw[if_neg K9,Nat.zero_mod];refine⟨F.gas - 3*(zA n - 0),F.mem++List.replicate (32*(zA n - 0)) 0,rfl,by omega,by omega, ?_⟩;rw[hm,List.nil_append,List.length_replicate];omega
theorem zjQ {F:Fz} {n:Nat} (hn:n<=500) (hm:F.mem.length=32*zA n):zl 0 n F=some ((0,n),F):=by
 have hM:=zkf;have en:n%M=n:=Nat.mod_eq_of_lt K9;unfold zl;simp only[en];by_cases h0:n=0
 ·rw[if_pos h0,h0]
 ·rw[if_neg h0,if_pos (show yz 0 n 65536 by unfold yz;rw[en,Nat.zero_mod];omega)];have e2:0%M+n=n:=by rw[Nat.zero_mod];omega
  rw[e2];unfold yc;have e3:zA n<=zA F.mem.length:=by rw[hm];unfold zA;omega
  rw[if_pos e3,Nat.zero_mod]
theorem zle (p:Nat) (F:Fz):zl p 0 F=some ((0,0),F):=by
 unfold zl;exact if_pos (Nat.zero_mod M)
theorem s_copy (hb:byt c nx=55) (hn:nx<c.size) (hd:data.size<=500) (hg:110<=g):∃g' mem',Z1 wk (Wfr c fr val data g (0::0::data.size::st) nx pc []) T=some (Wfr c fr val data g' st (nx+1) nx mem',T)/\g<=g'+99/\g'<=g/\mem'.length=32*zA data.size:=by
 obtain⟨g',mem',h1,h2,h2b,h3⟩:=zkd (F:=Wfr c fr val data (g - 3) st (nx+1) nx []) (n:=data.size) rfl hd (by show 48<=g - 3;omega);have h2:g - 3<=g'+48:=h2;have h2b:g'<=g - 3:=h2b;have hs:3*zA data.size<=48:=by unfold zA;omega
 refine⟨g' - 3*zA data.size,splice mem' 0 (zN data (0%M) data.size), ?_,by omega,by omega, ?_⟩
 ·refine st_n (op:=55) (c:=3) ((ziz hn).trans hb) rfl (by show 3<=g;omega) ?_;show Yr (Zb data 0 0 data.size (Wfr c fr val data (g - 3) st (nx+1) nx [])) T=_;unfold Zb;rw[h1];show Yr (if g'<3*zA data.size then none else _) T=_;rw[if_neg K9];rfl
 ·rw[zku _ _ _ (by rw[YB,h3];unfold zA;omega),h3]
theorem own_pre (hb:∀i,i<8->byt c i=([95,95,54,95,95,55,54,95]:List Nat).getD i 0) (hc:8<c.size) (hd:data.size<=500) (hg:200<=g):∃g' mem',(∀n,Zl wk (n+8) (zd3 c fr 1 val data g) T=Zl wk n (Wfr c fr val data g' [0,data.size,0,0] 8 7 mem') T)/\g<=g'+199/\g'<=g/\mem'.length=32*zA data.size:=by
 obtain⟨g',mem',h1,h2,h2b,h3⟩:=s_copy (wk:=wk) (c:=c) (fr:=fr) (val:=val) (data:=data) (g:=g - 14) (st:=[0,0]) (nx:=5) (pc:=4) (T:=T) (hb 5 K9) K9 hd K9;refine⟨g' - 5,mem',fun n=> ?_,by omega,by omega,h3⟩;rw[Z3 (n:=n+7) (F:=zd3 c fr 1 val data g) rfl (zcN (c:=c) (g:=g) (st:=[]) (nx:=0) (pc:=0) (mem:=[]) (hb 0 K9) K9 K9 (by simp))];rw[Z3 (n:=n+6) rfl (zcN (hb 1 K9) K9 K9 (by simp))];rw[Z3 (n:=n+5) rfl (zp1 (hb 2 K9) K9 K9 (by simp))];rw[Z3 (n:=n+4) rfl (zcN (hb 3 K9) K9 K9 (by simp))];rw[Z3 (n:=n+3) rfl (zcN (hb 4 K9) K9 K9 (by simp))];rw[show g - 3 - 3 - 2 - 3 - 3=g - 14 by omega,Z3 (n:=n+2) rfl h1];rw[Z3 (n:=n+1) rfl (zp1 (hb 6 K9) K9 K9 (by simp))];rw[Z3 (n:=n) rfl (zcN (hb 7 K9) K9 K9 (by simp))];rw[show g' - 2 - 3=g' - 5 by omega]
end
def zba:ByteArray:=⟨#[95,95,54,95,95,55,54,95,96,2,90,250,0]⟩
section
variable {data:ByteArray} {T:TS} {g fr:Nat}
def RfF (fr:Nat) (data:ByteArray) (g:Nat) (mem:List UInt8):Fz:={Wfr zba fr 0 data g [] 12 11 mem with ret:=⟨#[]⟩}
end
end

section
def decF:Nat->Nat->ByteArray
 |0,k=>⟨#[UInt8.ofNat (48+k)]⟩
 |f+1,k=>if k<10 then⟨#[UInt8.ofNat (48+k)]⟩ else decF f (k/10)++⟨#[UInt8.ofNat (48+k%10)]⟩
section
variable {s:Act} {x:World} {pos:String} {af:Array Edge} {g:Option (Nat×Bool)} {K:Act->World->Prop} {Q:Exit->Act->World->Prop}
end
end
def hexd (d:Nat):UInt8:=if d<10 then UInt8.ofNat (48+d) else UInt8.ofNat (87+d)
def hexF (n:Nat):Nat->ByteArray
 |0=>⟨#[48,120]⟩
 |k+1=>hexF n k++⟨#[hexd (n/16^(63 - k)%16)]⟩
def numS (n:Nat):ByteArray:=if n%M<1000000 then decF 6 (n%M) else hexF n 64

section
open Go.RowKit Go.Lib Go.Maps Go.WideMaps
theorem und_s:prog.underlying 9=some .string:=by kernel_rfl
theorem zmc:prog.underlying 3=some (.int .i64):=by kernel_rfl
theorem und_m:prog.underlying 118=some (.map 9 3):=by kernel_rfl
theorem lawS:Keyed prog 9:=string_keyed und_s
theorem zeroI (w:World):(zeroValue 3).run prog w=.ok (.int .i64 0) w:=by kernel_rfl
def kS (t:ByteArray):Lit:=.string t.data.toList
theorem kS_inj {a b:ByteArray} (h:kS a=kS b):a=b:=zqk (by unfold kS at h;injection h)
theorem keyS (t:ByteArray) (h:t.size<=2000):keyOf prog 9 (.string t)=some (kS t):=keyOf_string_mk und_s (by unfold maxLen;omega)
def MapL (x:World) (b n:Nat) (f:ByteArray->Option Nat):Prop:=∃D:DataW Unit,x.ownsMap prog 9 (plainElem prog 3) b n D/\
 ∀t:ByteArray,Maps.has D (kS t)=(f t).isSome/\D.atKey (kS t) (.lit (.int .i64 0))=.lit (.int .i64 (((f t).getD 0:Nat):Int))
theorem MapL.made (w:World):MapL (w.alloc (.map #[] 0)) w.heap.size 0 (fun _=>none):=⟨.map [],World.ownsMap_made _ _ _ _,fun t=>⟨rfl,rfl⟩⟩
theorem MapL.below {x y:World} {b n:Nat} {f:ByteArray->Option Nat} (h:MapL x b n f) (hb:Below x.heap.size x y):MapL y b n f:=by
 obtain⟨D,h1,h2⟩:=h;have hlt:=h1.lt;obtain⟨es,clock,hbk,F,hs,hD⟩:=h1;exact⟨D,⟨es,clock,(hb.block b hlt).trans hbk,F,hs,hD⟩,h2⟩
theorem MapL.congr {x:World} {b n:Nat} {f g:ByteArray->Option Nat} (h:MapL x b n f) (e:∀t,f t=g t):MapL x b n g:=by
 obtain⟨D,h1,h2⟩:=h;exact⟨D,h1,fun t=>by rw[<-e];exact h2 t⟩
theorem MapL.mono {x:World} {b n m:Nat} {f:ByteArray->Option Nat} (h:MapL x b n f) (hn:n<=m):MapL x b m f:=by
 obtain⟨D,h1,h2⟩:=h;exact⟨D,h1.mono hn,h2⟩
theorem MapL.look2 {x:World} {b n:Nat} {f:ByteArray->Option Nat} (h:MapL x b n f) (t:ByteArray) (ht:t.size<=2000):
  (Instr.lookup 118 (.map (some b)) (.string t) true).run prog x=.ok (.tuple #[.int .i64 (((f t).getD 0:Nat):Int),.bool (f t).isSome]) x:=by
 obtain⟨D,h1,h2⟩:=h;obtain⟨v,ps,hrun,hv⟩:=h1.look_ok (t:=118) (e:=3) lawS und_m (zeroI _) (plainElem_int (q:=.i64) zmc (by decide)) (keyS t ht);obtain⟨c,rfl,hc,_⟩:=plainElem_int_inv (q:=.i64) zmc hv;rw[(h2 t).2] at hc;have h5:=(Lit.int.inj (DataW.lit.inj (Prod.mk.inj hc).1)).2;rw[<-h5,(h2 t).1] at hrun;exact hrun
theorem MapL.look1 {x:World} {b n:Nat} {f:ByteArray->Option Nat} (h:MapL x b n f) (t:ByteArray) (ht:t.size<=2000):
  (Instr.lookup 118 (.map (some b)) (.string t) false).run prog x=.ok (.int .i64 (((f t).getD 0:Nat):Int)) x:=by
 obtain⟨D,h1,h2⟩:=h;obtain⟨c,hrun,hc,_⟩:=h1.lookup_int (t:=118) (e:=3) (q:=.i64) lawS und_m zmc (zeroI _) (keyS t ht);rw[(h2 t).2] at hc;have h5:=(Lit.int.inj (DataW.lit.inj hc)).2;rw[<-h5] at hrun;exact hrun
theorem MapL.put {x:World} {b n:Nat} {f:ByteArray->Option Nat} {D:DataW Unit} (h1:IsMap D) (h2:∀t:ByteArray,Maps.has D (kS t)=(f t).isSome/\D.atKey (kS t) (.lit (.int .i64 0))=.lit (.int .i64 (((f t).getD 0:Nat):Int)))
  (t:ByteArray) (p:Nat) (ho:x.ownsMap prog 9 (plainElem prog 3) b (n+1) (D.put (kS t) (.lit (.int .i64 (p:Int))))):MapL x b (n+1) (fun u=>if u=t then some p else f u):=by
 refine⟨_,ho,fun u=> ?_⟩;show has _ (kS u)=(if u=t then some p else f u).isSome/\DataW.atKey _ (kS u) _=.lit (.int .i64 (((if u=t then some p else f u).getD 0:Nat):Int));by_cases e:u=t
 ·subst e;rw[if_pos rfl];exact⟨has_put_same h1 (k:=kS u) (show WideAt.IsKeyLit (kS u) from trivial) _,atKey_put_same h1 (k:=kS u) (show WideAt.IsKeyLit (kS u) from trivial) _ _⟩
 ·have hne:kS u≠kS t:=fun h=>e (kS_inj h)
  rw[if_neg e,has_put_other hne,atKey_put_other hne];exact h2 u
theorem zqB (t:ByteArray) (l:List Ri) (y:Ri):lkp t (l++[y])=if (lkp t l).isSome then lkp t l else if y.i.k=1/\y.i.nm=t then some y.p else none:=by
 induction l with
 |nil=>rfl
 |cons x r ih=>
  show(if x.i.k=1/\x.i.nm=t then some x.p else lkp t (r++[y]))=_;rw[lkp];by_cases h:x.i.k=1/\x.i.nm=t
  ·rw[if_pos h,if_pos h];rfl
  ·rw[if_neg h,if_neg h,ih]
end
section
open Go.RowKit Go.Lib Go.Maps
def Okl (l:List (Ri×Value)):Prop:=l.length<=2001/\∀y∈l,y.1.i.nm.size<=2000/\y.1.p<=100000/\y.1.i.k<=2/\y.1.i.fl<=4/\y.1.i.cd.length<=33/\(y.1.i.k=2->y.1.i.cd=[97,0,0])
def lkT (l:List (Ri×Value)) (j:Nat) (t:ByteArray):Option Nat:=lkp t ((l.take j).map Prod.fst)
theorem zgd {l:List (Ri×Value)} {j:Nat} {y:Ri×Value} (hj:j<l.length) (hy:y=l[j]) (t:ByteArray):lkT l (j+1) t=if (lkT l j t).isSome then lkT l j t else if y.1.i.k=1/\y.1.i.nm=t then some y.1.p else none:=by
 unfold lkT;rw[List.take_succ_eq_append_getElem hj,List.map_append,<-hy];exact zqB t _ y.1
theorem lkT_no {l:List (Ri×Value)} {j:Nat} {y:Ri×Value} (hj:j<l.length) (hy:y=l[j]) (h:y.1.i.k≠1) (t:ByteArray):lkT l j t=lkT l (j+1) t:=by
 rw[zgd hj hy];rw[if_neg (fun e=>h e.1:¬(y.1.i.k=1/\y.1.i.nm=t))];cases lkT l j t<;>rfl
theorem znl {l:List (Ri×Value)} {j:Nat} {y:Ri×Value} (hj:j<l.length) (hy:y=l[j]) (h:(lkT l j y.1.i.nm).isSome=true) (t:ByteArray):lkT l j t=lkT l (j+1) t:=by
 rw[zgd hj hy];by_cases e:y.1.i.nm=t
 ·rw[<-e,h];rfl
 ·rw[if_neg (fun c=>e c.2:¬(y.1.i.k=1/\y.1.i.nm=t))];cases lkT l j t<;>rfl
theorem lkT_new {l:List (Ri×Value)} {j:Nat} {y:Ri×Value} (hj:j<l.length) (hy:y=l[j]) (hk:y.1.i.k=1) (h:(lkT l j y.1.i.nm).isSome=false) (t:ByteArray):(if t=y.1.i.nm then some y.1.p else lkT l j t)=lkT l (j+1) t:=by
 rw[zgd hj hy];by_cases e:t=y.1.i.nm
 ·rw[if_pos e,e,h,if_neg (by decide),if_pos ⟨hk,rfl⟩]
 ·rw[if_neg e,if_neg (fun c=>e c.2.symm:¬(y.1.i.k=1/\y.1.i.nm=t))];cases lkT l j t<;>rfl
theorem ze2 {base g cap:Nat} {l:List (Ri×Value)} {x:World} (h:IR base l (.slice (some ⟨g,0,none⟩) l.length cap) x) {j:Nat} (hj:j<l.length) {y:Ri×Value} (hy:y=l[j]):
  x.cell? ⟨g,j*6,none⟩=some (.int .i64 (y.1.i.k:Int))/\x.cell? ⟨g,j*6+1,none⟩=some (.string y.1.i.nm)/\x.cell? ⟨g,j*6+2,none⟩=some y.2/\x.cell? ⟨g,j*6+3,none⟩=some (.int .i64 (y.1.i.fl:Int))/\x.cell? ⟨g,j*6+4,none⟩=some (.int .i64 (y.1.a:Int))/\x.cell? ⟨g,j*6+5,none⟩=some (.int .i64 (y.1.p:Int)):=by
 have hc:=znK l j hj;rw[<-hy] at hc;exact⟨(h.ow.cellAt (j*6) K9).trans hc.1,(h.ow.cellAt (j*6+1) K9).trans hc.2.1,(h.ow.cellAt (j*6+2) K9).trans hc.2.2.1,(h.ow.cellAt (j*6+3) K9).trans hc.2.2.2.1,(h.ow.cellAt (j*6+4) K9).trans hc.2.2.2.2.1,(h.ow.cellAt (j*6+5) K9).trans hc.2.2.2.2.2⟩
theorem zev (l:List (Ri×Value)) (base:Nat) (v:Value) (hl:Hid (Okl l)) (w:World) (ho:IR base l v w):Calls prog 52 #[v] w fun e w'=>e=.returned (.map (some w.heap.size))/\MapL w' w.heap.size l.length (fun t=>lkp t (l.map Prod.fst))/\Below w.heap.size w w':=by
 have hmm:=@run_makeMap prog;have hll:=hl.out.1;have HE:Hid (∀t,lkT l l.length t=lkp t (l.map Prod.fst)):=fun t=>by unfold lkT;rw[List.take_length]
 rcases ho.ow.2 with⟨rfl,hn⟩|⟨g,cap,cur,rfl,_⟩
 ·have HN:Hid (MapL (w.alloc (.map #[] 0)) w.heap.size l.length (fun t=>lkp t (l.map Prod.fst))):=((MapL.made w).mono K9).congr fun t=>by rw[List.length_eq_zero_iff.1 hn];rfl
  have HBE:=zb (bal (Below.refl _ w) (.map #[] 0));go_enter func52,ntmps52;go_wp2
  go_loopw [11] (fun t11 wr=>t11=.int .i64 0/\Hid (wr=w.alloc (.map #[] 0))) (fun _ _=>0)
  case atStart=>exact⟨rfl,rfl⟩
  case round=>
   obtain⟨rfl,HW⟩:=hrel;go_wp2;go_ret;exact⟨rfl,by rw[HW.out];exact HN.out,by rw[HW.out];exact HBE.out⟩
 ·have HO:=zb ho;clear ho;go_enter func52,ntmps52;go_wp2
  go_loopw [11] (fun t11 wr=>∃j:Nat,t11=.int .i64 (j:Int)/\j<=l.length/\MapL wr w.heap.size j (lkT l j)/\Below w.heap.size w wr) (fun t11 _=>l.length - (RowKit.intOf t11).toNat)
  case atStart=>exact⟨0,rfl,by omega,MapL.made w,bal (Below.refl _ _) _⟩
  case round=>
   obtain⟨j,rfl,hj,hml,hbe⟩:=hrel;by_cases hlt:j<l.length
   ·obtain⟨y,HY⟩:∃y:Ri×Value,Hid (y=l[j]):=⟨l[j],zb rfl⟩;have hmem:y∈l:=by rw[HY.out];exact List.getElem_mem hlt
    have hir:=HO.out.call hbe;obtain⟨c0,c1,c2,c3,c4,c5⟩:=ze2 hir hlt HY.out;obtain⟨ad,cp,hsh⟩:=zS (hir.cd y hmem);obtain⟨o1,o2,o3,o4,o5,o6⟩:=hl.out.2 y hmem;rw[hsh] at c2;have HML:=zb hml;have HBE:=zb hbe;have HWF:Hid ((Lit.int .i64 (y.1.p:Int)).wf=true):=WalkArith.wf_i64 K9;generalize y.1.i.cd.length=cl at*;by_cases hk:y.1.i.k=1
    ·have hd:((y.1.i.k:Int) !=1)=false:=by rw[hk];rfl
     have hlk:=(hml.below (bal (Below.refl _ wr) (.cells #[.int .i64 (y.1.i.k:Int),.string y.1.i.nm,.slice ad cl cp,.int .i64 (y.1.i.fl:Int),.int .i64 (y.1.a:Int),.int .i64 (y.1.p:Int)] 122))).look2 y.1.i.nm o1;cases hq:(lkT l j y.1.i.nm).isSome
     ·obtain⟨D,hD1,hD2⟩:=hml.below (bal (Below.refl _ wr) (.cells #[.int .i64 (y.1.i.k:Int),.string y.1.i.nm,.slice ad cl cp,.int .i64 (y.1.i.fl:Int),.int .i64 (y.1.a:Int),.int .i64 (y.1.p:Int)] 122));have HD:=zb (And.intro hD1 hD2);have HNEW:=zb (lkT_new hlt HY.out hk hq);rw[hq] at hlk;clear hD1 hD2 hml hbe hir hsh hq hk;have hlt2:=HML.out;go_wp2_with (first|(at_mapUpdate;refine wpList_mapUpdate_own _ rfl _ _ _ 118 rfl 9 3 lawS und_m _ w.heap.size j _ rfl HD.out.1 (by unfold maxLen;omega) _ _ _ rfl rfl (keyS y.1.i.nm o1) _ [] (plainElem_int zmc HWF.out) ?_;intro w4 ho4 hgr;have HO4:=zb ho4;have HGR:=zb hgr;clear ho4 hgr))
      go_roundw
      case rel=>exact⟨j+1,by go_num,by omega,(MapL.put HD.out.1.isMap HD.out.2 y.1.i.nm y.1.p HO4.out).congr HNEW.out,(bal HBE.out _).grown HGR.out (by have:=HBE.out.size;simp;omega) (fun k hk=>by cases hk;exact Nat.le_refl _)⟩
      case measure=>simp[RowKit.intOf];omega
     ·have HTH:=zb (znl hlt HY.out hq);rw[hq] at hlk;clear hml hbe hir hsh hq hk;go_wp2
      go_roundw
      case rel=>exact⟨j+1,by go_num,by omega,((HML.out.below (bal (Below.refl _ _) _)).mono K9).congr HTH.out,bal HBE.out _⟩
      case measure=>simp[RowKit.intOf];omega
    ·have hd:((y.1.i.k:Int) !=1)=true:=by simp;omega
     have HNO:=zb (lkT_no hlt HY.out hk);clear hml hbe hir hsh hk;go_wp2
     go_roundw
     case rel=>exact⟨j+1,by go_num,by omega,((HML.out.below (bal (Below.refl _ _) _)).mono K9).congr HNO.out,bal HBE.out _⟩
     case measure=>simp[RowKit.intOf];omega
   ·have hje:j=l.length:=by omega
    subst hje;go_wp2;go_ret;exact⟨rfl,hml.congr HE.out,hbe⟩
end
section
open Go.RowKit Go.Lib Go.Maps
def Oky (y:Ri):Prop:=y.i.nm.size<=2000/\y.p<=100000/\y.i.k<=2/\y.i.fl<=4/\y.i.cd.length<=33/\(y.i.k=2->y.i.cd=[97,0,0])
def itY (y:Ri) (v:Value):Value:=.agg #[.int .i64 (y.i.k:Int),.string y.i.nm,v,.int .i64 (y.i.fl:Int),.int .i64 (y.a:Int),.int .i64 (y.p:Int)]
theorem zfy (y:Ri) (ad:Option Addr) (cl cp:Nat) (f:ByteArray->Option Nat) (b n:Nat) (hy:Hid (Oky y)) (hs:Hid (y.i.k=1->(f y.i.nm).isSome=true)) (w:World) (hm:MapL w b n f):
  Calls prog 53 #[itY y (.slice ad cl cp),.map (some b)] w fun e w'=>e=.returned (.int .i64 (flt f y:Int))/\Below w.heap.size w w':=by
 obtain⟨o1,o2,o3,o4,o5,o6⟩:=hy.out;have hlk:=(hm.below (bal (Below.refl _ w) (.cells #[.int .i64 (y.i.k:Int),.string y.i.nm,.slice ad cl cp,.int .i64 (y.i.fl:Int),.int .i64 (y.a:Int),.int .i64 (y.p:Int)] 122))).look2 y.i.nm o1;have HBE:=zb (bal (Below.refl _ w) (.cells #[.int .i64 (y.i.k:Int),.string y.i.nm,.slice ad cl cp,.int .i64 (y.i.fl:Int),.int .i64 (y.a:Int),.int .i64 (y.p:Int)] 122));unfold itY;clear hm o6 o5;by_cases h1:y.i.fl=0
 ·have d1:((y.i.fl:Int) !=0)=false:=by rw[h1];rfl
  by_cases h2:y.i.k=1
  ·obtain⟨q,hq⟩:∃q,f y.i.nm=some q:=Option.isSome_iff_exists.1 (hs.out h2);rw[hq] at hlk;by_cases h3:q=y.p
   ·have HR:Hid (flt f y=0):=by show _=_;unfold flt;rw[if_neg K9,if_neg (by rw[hq,h3];exact fun h=>h.2 rfl),if_neg K9]
    have d2:((y.i.k:Int)==1)=true:=by rw[h2];rfl
    have d3:((q:Int) !=(y.p:Int))=false:=by simp;omega
    have d4:((y.i.k:Int)==2)=false:=by simp;omega
    clear h1 h2 h3 hs hq;go_enter func53,ntmps53;go_wp2;go_ret;exact⟨by rw[HR.out];rfl,HBE.out⟩
   ·have HR:Hid (flt f y=3):=by show _=_;unfold flt;rw[if_neg K9,if_pos ⟨h2,by rw[hq];exact fun e=>h3 (Option.some.inj e)⟩]
    have d2:((y.i.k:Int)==1)=true:=by rw[h2];rfl
    have d3:((q:Int) !=(y.p:Int))=true:=by simp;omega
    clear h1 h2 h3 hs hq;go_enter func53,ntmps53;go_wp2;go_ret;exact⟨by rw[HR.out];rfl,HBE.out⟩
  ·have d2:((y.i.k:Int)==1)=false:=by simp;omega
   by_cases h4:y.i.k=2
   ·have d4:((y.i.k:Int)==2)=true:=by rw[h4];rfl
    cases hq:f y.i.nm with
    |none=>
     have HR:Hid (flt f y=3):=by show _=_;unfold flt;rw[if_neg K9,if_neg K9,if_pos ⟨h4,hq⟩]
     rw[hq] at hlk;clear h1 h2 h4 hs hq;go_enter func53,ntmps53;go_wp2;go_ret;exact⟨by rw[HR.out];rfl,HBE.out⟩
    |some q=>
     have HR:Hid (flt f y=0):=by show _=_;unfold flt;rw[if_neg K9,if_neg K9,if_neg (by rw[hq];exact fun h=>by cases h.2)]
     rw[hq] at hlk;clear h1 h2 h4 hs hq;go_enter func53,ntmps53;go_wp2;go_ret;exact⟨by rw[HR.out];rfl,HBE.out⟩
   ·have d4:((y.i.k:Int)==2)=false:=by simp;omega
    have HR:Hid (flt f y=0):=by show _=_;unfold flt;rw[if_neg K9,if_neg K9,if_neg K9]
    clear h1 h2 h4 hs;go_enter func53,ntmps53;go_wp2;go_ret;exact⟨by rw[HR.out];rfl,HBE.out⟩
 ·have d1:((y.i.fl:Int) !=0)=true:=by simp;omega
  have HR:Hid (flt f y=y.i.fl):=by show _=_;unfold flt;rw[if_pos h1]
  clear h1 hs;go_enter func53,ntmps53;go_wp2;go_ret;exact⟨by rw[HR.out];rfl,HBE.out⟩
theorem zqD {n:Nat} {z:Int} (h:z=((n%256:Nat):Int)):u8v (UInt8.ofNat n)=.int .u8 z:=by
 subst h;unfold u8v;rw[UInt8.toNat_ofNat']
theorem zhx (y:Ri) (ad:Option Addr) (cl cp:Nat) (f:ByteArray->Option Nat) (b n base:Nat) (hy:Hid (Oky y)) (hf:Hid (∀q,f y.i.nm=some q->q<=100000)) (w:World) (hm:MapL w b n f) (hb:Bys w base (.slice ad cl cp) y.i.cd) (hba:base<=w.heap.size):
  Calls prog 54 #[itY y (.slice ad cl cp),.map (some b)] w fun e w'=>∃v,e=.returned v/\Bys w' base v (cwt f y)/\Below w.heap.size w w':=by
 obtain⟨o1,o2,o3,o4,o5,o6⟩:=hy.out;have hlk:=(hm.below (bal (Below.refl _ w) (.cells #[.int .i64 (y.i.k:Int),.string y.i.nm,.slice ad cl cp,.int .i64 (y.i.fl:Int),.int .i64 (y.a:Int),.int .i64 (y.p:Int)] 122))).look1 y.i.nm o1;have HBE:=zb (bal (Below.refl _ w) (.cells #[.int .i64 (y.i.k:Int),.string y.i.nm,.slice ad cl cp,.int .i64 (y.i.fl:Int),.int .i64 (y.a:Int),.int .i64 (y.p:Int)] 122));have HBY:=zb (hb.alloc (.cells #[.int .i64 (y.i.k:Int),.string y.i.nm,.slice ad cl cp,.int .i64 (y.i.fl:Int),.int .i64 (y.a:Int),.int .i64 (y.p:Int)] 122));unfold itY;by_cases h2:y.i.k=2
 ·have hcd:=o6 h2;have d:((y.i.k:Int) !=2)=false:=by rw[h2];rfl
  obtain⟨q,HQ⟩:∃q,Hid (q=(f y.i.nm).getD 0):=⟨_,rfl⟩
  have hq:q<=100000:=by
   rw[HQ.out];cases h:f y.i.nm with
   |none=>show 0<=_;omega
   |some r=>exact hf.out r h
  have HR:Hid (cwt f y=[97,UInt8.ofNat (q/256),UInt8.ofNat (q%256)]):=by show _=_;unfold cwt;rw[if_pos h2,<-HQ.out]
  rw[<-HQ.out] at hlk;rw[hcd] at HBY;obtain⟨g,cap,e1,e2,e3,e4⟩:=zI HBY.out (by decide);injection e1 with e5 e6 e7
  subst e5 e7;obtain rfl:cl=3:=e6;have hc:=World.ownsRow.cellAt HBY.out 0 (by decide);have hc1:_=some (Value.int .u8 97):=hc;clear hc h2 hcd hm hb o6 HQ hf HBY;go_enter func54,ntmps54;go_wp2;go_ret;refine⟨_,rfl, ?_,bal HBE.out _⟩;rw[HR.out];have h:=zeR (w.alloc (.cells #[.int .i64 (y.i.k:Int),.string y.i.nm,.slice (some ⟨g,0,none⟩) 3 cp,.int .i64 (y.i.fl:Int),.int .i64 (y.a:Int),.int .i64 (y.p:Int)] 122)) base (by simp;omega) [97,UInt8.ofNat (q/256),UInt8.ofNat (q%256)] (by show 3<=40;omega);have x1:u8v (UInt8.ofNat (q/256))=.int .u8 ((q:Int)/256%256):=zqD K9;have x2:u8v (UInt8.ofNat (q%256))=.int .u8 ((q:Int)%256):=zqD K9;simp only[List.map_cons,List.map_nil] at h;rw[x1,x2,show u8v 97=.int .u8 97 from rfl] at h;simpa using h
 ·have d:((y.i.k:Int) !=2)=true:=by simp;omega
  have HR:Hid (cwt f y=y.i.cd):=by show _=_;unfold cwt;rw[if_neg h2]
  clear h2 hm hb o6;go_enter func54,ntmps54;go_wp2;go_ret;exact⟨_,rfl,by rw[HR.out];exact HBY.out,HBE.out⟩
end
theorem cutS_le (s p:ByteArray):(zcq s p).size<=s.size:=by
 unfold zcq;split
 ·rw[ByteArray.size_extract];omega
 ·exact Nat.le_refl _
theorem cutP_le (s p:ByteArray):(Yp s p).size<=s.size:=by
 unfold Yp;split
 ·rw[ByteArray.size_extract];omega
 ·exact Nat.le_refl _
theorem itN_ok (t:ByteArray):(itN t).nm.size=0/\(itN t).k=0/\(itN t).fl<=4/\((itN t).fl=0->(itN t).cd≠[]):=by
 unfold itN;split
 ·exact⟨rfl,rfl,by show 0<=4;omega,fun _ h=>by cases h⟩
 ·split
  ·exact⟨rfl,rfl,by show 2<=4;omega,fun h=>by cases h⟩
  ·split
   ·exact⟨rfl,rfl,by show 4<=4;omega,fun h=>by cases h⟩
   ·exact⟨rfl,rfl,by show 0<=4;omega,fun _ h=>by unfold zck pcs at h;cases h⟩
theorem itm_ok (t:ByteArray) (ht:t.size<=2000):(itm t).nm.size<=2000/\(itm t).k<=2/\(itm t).fl<=4/\((itm t).k=2->(itm t).cd=[97,0,0])/\((itm t).fl=0->(itm t).cd≠[]):=by
 have h1:=cutS_le t col;have h2:=cutP_le t att;unfold itm;split
 ·exact⟨by show(zcq t col).size<=_;omega,by show 1<=2;omega,by show 0<=4;omega,fun h=>(by cases h),fun _ h=>(by cases h)⟩
 ·split
  ·exact⟨by show(Yp t att).size<=_;omega,by show 2<=2;omega,by show 0<=4;omega,fun h=>rfl,fun _ h=>(by cases h)⟩
  ·obtain⟨a,b,c,d⟩:=itN_ok t;exact⟨by omega,by omega,c,fun h=>by omega,d⟩
theorem zl9 {y:Ri}:∀(L:List (ByteArray×Nat)) (p:Nat),y∈rit L p->∃x∈L,y.i=itm x.1/\y.a=x.2/\y.p<=p+33*L.length
 |[],p,h=>by cases h
 |x::r,p,h=>by
  have hl:=zis x.1;rcases List.mem_cons.1 h with rfl|h
  ·exact⟨x,List.mem_cons_self,rfl,rfl,by show p<=_;omega⟩
  ·obtain⟨z,hz,h1,h2,h3⟩:=zl9 r _ h;exact⟨z,List.mem_cons_of_mem _ hz,h1,h2,by rw[List.length_cons];omega⟩
theorem zjB {t:ByteArray} {q:Nat}:∀{l:List Ri},lkp t l=some q->∃y∈l,y.p=q
 |[],h=>by cases h
 |y::r,h=>by
  rw[lkp] at h;split at h
  ·exact⟨y,List.mem_cons_self,Option.some.inj h⟩
  ·obtain⟨z,hz,h2⟩:=zjB h;exact⟨z,List.mem_cons_of_mem _ hz,h2⟩
theorem zgT {y:Ri}:∀{l:List Ri},y∈l->y.i.k=1->(lkp y.i.nm l).isSome=true
 |[],h,_=>by cases h
 |z::r,h,hk=>by
  rw[lkp];split
  ·rfl
  ·rename_i hn;rcases List.mem_cons.1 h with rfl|h
   ·exact absurd ⟨hk,rfl⟩ hn
   ·exact zgT h hk
theorem rl_ok {s:ByteArray} (hs:s.size<=2000) (hv:Whole s) {y:Ri} (hy:y∈YN s):Oky y/\(y.i.fl=0->y.i.cd≠[])/\y.a<=2000:=by
 obtain⟨x,hx,h1,h2,h3⟩:=zl9 (spl s) 0 hy;obtain⟨f1,f2,f3,f4⟩:=zlK hv x hx;have hl:=zil s;obtain⟨a,b,c,d,e⟩:=itm_ok x.1 (Nat.le_trans f3 hs);have g:=zis x.1;rw[<-h1] at a b c d e g;exact⟨⟨a,by omega,b,c,g,d⟩,e,by omega⟩
theorem okl_of {s:ByteArray} (hs:s.size<=2000) (hv:Whole s) {l:List (Ri×Value)} (h:l.map Prod.fst=YN s):Okl l:=by
 refine⟨?_,fun y hy=> ?_⟩
 ·have h2:=congrArg List.length h;rw[List.length_map] at h2;have h3:=rit_len (spl s) 0;have h4:=zil s;unfold YN at h2;omega
 ·have h2:y.1∈YN s:=by rw[<-h];exact List.mem_map_of_mem hy
  exact(rl_ok hs hv h2).1
theorem labs_le {s:ByteArray} (hs:s.size<=2000) (hv:Whole s) (t:ByteArray) (q:Nat) (h:zav s t=some q):q<=100000:=by
 obtain⟨y,hy,rfl⟩:=zjB h;exact(rl_ok hs hv hy).1.2.1
theorem zmB {f:ByteArray->Option Nat} {y:Ri} (h:Oky y):(cwt f y).length=y.i.cd.length:=by
 unfold cwt;split
 ·rename_i hk;rw[h.2.2.2.2.2 hk];rfl
 ·rfl
theorem zqH {f:ByteArray->Option Nat} {l:List Ri} {j:Nat} {c:List UInt8} {R:List UInt8 ⊕ (Nat×Nat)} {y:Ri} (hj:j<l.length) (hy:y=l[j]) (hf:flt f y=0) (h:rn2 f (l.drop j) c=R):rn2 f (l.drop (j+1)) (c++cwt f y)=R:=by
 rw[List.drop_eq_getElem_cons hj,<-hy,rn2,if_pos hf] at h;exact h
theorem rn2_bad {f:ByteArray->Option Nat} {l:List Ri} {j:Nat} {c:List UInt8} {R:List UInt8 ⊕ (Nat×Nat)} {y:Ri} (hj:j<l.length) (hy:y=l[j]) (hf:flt f y≠0) (h:rn2 f (l.drop j) c=R):R=.inr (flt f y,y.a):=by
 rw[List.drop_eq_getElem_cons hj,<-hy,rn2,if_neg hf] at h;exact h.symm
theorem zql {s:ByteArray} (h:2000<s.size):asm s=(⟨#[]⟩,2,0):=by unfold asm;rw[if_pos h]
theorem zoU {s:ByteArray} (h:s.size<=2000) (hc:(cnt s).2=false):asm s=(⟨#[]⟩,2,(cnt s).1):=by unfold asm;rw[if_neg K9,if_pos hc]
theorem zod {s:ByteArray} (h:s.size<=2000) (hc:(cnt s).2=true) {e a:Nat} (hr:rn2 (zav s) (YN s) []=.inr (e,a)):asm s=(⟨#[]⟩,e,a):=by unfold asm;rw[if_neg K9,if_neg (by rw[hc];decide),hr]
theorem asm_big {s:ByteArray} (h:s.size<=2000) (hc:(cnt s).2=true) {c:List UInt8} (hr:rn2 (zav s) (YN s) []=.inl c) (hb:1000<c.length):asm s=(⟨#[]⟩,4,(cnt s).1):=by unfold asm;rw[if_neg K9,if_neg (by rw[hc];decide),hr];exact if_pos hb
theorem zpG {s:ByteArray} (h:s.size<=2000) (hc:(cnt s).2=true) {c:List UInt8} (hr:rn2 (zav s) (YN s) []=.inl c) (hb:¬1000<c.length):asm s=(⟨c.toArray⟩,0,0):=by unfold asm;rw[if_neg K9,if_neg (by rw[hc];decide),hr];exact if_neg hb
theorem zme (s:ByteArray):∀(f p k:Nat),p<=s.size->k<=p->(YW s f p k).1<=k+f
 |0,p,k,_,_=>by rw[YW];exact Nat.le_refl _
 |f+1,p,k,hp,hk=>by
  rw[YW];split
  ·split
   ·show k<=_;omega
   ·rename_i h1 h2;have:=zme s f (p+nx s p) (k+1) (zfo s p h1 h2) (by have:=Nat.pos_of_ne_zero h2;omega);omega
  ·show k<=_;omega
theorem cnt_le (s:ByteArray):(cnt s).1<=s.size:=by have:=zme s s.size 0 0 K9 K9;unfold cnt;omega
section
open Go.RowKit Go.Lib Go.Maps
theorem str_of (c:List UInt8):strOfNums (c.map fun b=>((b.toNat:Nat):Int))=⟨c.toArray⟩:=by
 unfold strOfNums;rw[List.map_map];congr 2
 conv=>rhs;rw[<-List.map_id c]
 refine List.map_congr_left fun b _=> ?_
 show UInt8.ofNat ((b.toNat:Int).toNat)=b;rw[Int.toNat_natCast];exact UInt8.ofNat_toNat
theorem cvt_bys {x:World} {base g cap:Nat} {c:List UInt8} (h:Bys x base (.slice (some ⟨g,0,none⟩) c.length cap) c):(convert 26 9 (.slice (some ⟨g,0,none⟩) c.length cap)).run prog x=.ok (.string ⟨c.toArray⟩) x:=by
 have h2:=run_convert_bytes_arg (P:=prog) x 26 5 (by kernel_rfl) (by kernel_rfl) g 0 c.length cap (c.map fun b=>((b.toNat:Nat):Int)) (by rw[List.length_map]) (fun i hi=>by
  have h3:=World.ownsRow.cellAt h i K9;rw[List.getElem?_map,List.getElem?_eq_getElem hi] at h3;rw[Nat.zero_add,h3,List.getD_eq_getElem?_getD,List.getElem?_map,List.getElem?_eq_getElem hi];rfl) 9 (by kernel_rfl)
 rw[str_of] at h2;exact h2
theorem zhQ (x:World):(convert 26 9 (.slice none 0 0)).run prog x=.ok (.string ⟨#[]⟩) x:=run_convert_bytes_nil (P:=prog) x 26 5 (by kernel_rfl) (by kernel_rfl) 0 0 9 (by kernel_rfl)
theorem cwt_ne {f:ByteArray->Option Nat} {y:Ri} (h:Oky y) (hne:y.i.fl=0->y.i.cd≠[]) (hf:flt f y=0):0<(cwt f y).length:=by
 rw[zmB h]
 have h0:y.i.fl=0:=by
  unfold flt at hf;by_cases e:y.i.fl=0
  ·exact e
  ·rw[if_pos e] at hf;exact hf
 exact Nat.pos_of_ne_zero fun h=>hne h0 (List.length_eq_zero_iff.1 h)
theorem flt_le {f:ByteArray->Option Nat} {y:Ri} (h:Oky y):flt f y<=4:=by
 have h2:=h.2.2.2.1;unfold flt;split
 ·exact h2
 ·split
  ·omega
  ·split<;>omega
theorem zgw (s:ByteArray) (w:World):Calls prog 28 #[.string s] w fun e w'=>e=.returned (zca s)/\Below w.heap.size w w':=by
 obtain⟨i0,hi0,hz0,hz1,hz2⟩:=info_parts zeX;have HI:=zb (And.intro hi0 (And.intro hz0 (And.intro hz1 hz2)));clear hi0 hz0 hz1 hz2;by_cases hs:2000<s.size
 ·have HR:=zb (zql hs);have hd:decide ((2000:Int)<(s.size:Int))=true:=decide_eq_true K9;go_enter func28,ntmps28;go_wp2;refine bodyPost_ret (v:=zca s) ?_ rfl ⟨rfl,Below.refl _ _⟩;unfold zca;rw[HR.out];simp[results,results28,go_sem]
 ·have hsz:s.size<=2000:=by omega
  have HCR:=zb (zfQ s hsz);have hd:decide ((2000:Int)<(s.size:Int))=false:=decide_eq_false K9;cases hc:(cnt s).2
  ·have HR:=zb (zoU hsz hc);rw[hc] at HCR;go_enter func28,ntmps28;go_wp2_with fail
   refine(HCR.out _).mono ?_;rintro e w1 ⟨rfl,hb1⟩;go_wp2;refine bodyPost_ret (v:=zca s) ?_ rfl ⟨rfl,hb1⟩;unfold zca;rw[HR.out];simp[results,results28,go_sem]
  ·have hwh:Hid (Whole s):=znP hc;have HFAULT:=zb (fun(e a:Nat) hr=>zod hsz hc (e:=e) (a:=a) hr);have HBIG:=zb (fun(c:List UInt8) hr hb=>asm_big hsz hc (c:=c) hr hb);have HCODE:=zb (fun(c:List UInt8) hr hb=>zpG hsz hc (c:=c) hr hb);have HOK:=zb (fun y=>@rl_ok s hsz hwh.out y);have HLB:=zb (labs_le hsz hwh.out);have HRD:=zb (zgm s hsz hwh);have HLP:=zb (fun l h=>@okl_of s hsz hwh.out l h);rw[hc] at HCR;clear hc;go_enter func28,ntmps28;go_wp2_with fail
   refine(HCR.out _).mono ?_;rintro e w1 ⟨rfl,hb1⟩;obtain⟨rc,HRC⟩:∃rc,Hid (rc=(cnt s).1):=⟨_,rfl⟩;rw[<-HRC.out] at HBIG⊢;have hrc:rc<=2000:=by rw[HRC.out];exact Nat.le_trans (cnt_le s) hsz
   go_wp2_with fail
   refine(HRD.out _).mono ?_;rintro e w2 ⟨v,l,rfl,hir,hmp,hb2⟩;have hokl:=zb (HLP.out l hmp);have HIR:=zb hir;have HMP:=zb hmp;have HB2:=zb (zX hb1 hb2);have HSZ:Hid (w1.heap.size<=w2.heap.size):=hb2.size;obtain⟨adl,cpl,hshl⟩:=zS hir.ow;subst hshl;clear HRD HCR HLP hir hmp hb2 hb1;go_wp2_with fail
   refine(zev l _ _ hokl _ HIR.out).mono ?_;rintro e w3 ⟨rfl,hml,hb3⟩;have HML:Hid (MapL w3 w2.heap.size l.length (zav s)):=hml.congr fun t=>by unfold zav;rw[HMP.out]
   have HB3:=zb hb3;have hll:=hokl.out.1;clear hml hb3;rcases HIR.out.ow.2 with⟨hv,hn⟩|⟨g,cap,cur,hv,_⟩
   ·have HE:Hid (asm s=(⟨#[]⟩,0,0)):=HCODE.out [] (by rw[<-HMP.out,List.length_eq_zero_iff.1 hn];rfl) (by decide);have hcv:=zhQ w3;injection hv with h1 h2 h3
    subst h1 h3;rw[hn];clear HMP HIR hokl HML HOK HLB HFAULT HBIG HCODE hn h2 hll;go_wp2
    go_loopw [9,30] (fun t9 t30 wr=>t9=.slice none 0 0/\t30=.int .i64 0/\Hid (wr=w3)) (fun _ _ _=>0)
    case atStart=>exact⟨rfl,rfl,rfl⟩
    case round=>
     obtain⟨rfl,rfl,HW⟩:=hrel;have hcv2:=zhQ wr;go_wp2;refine bodyPost_ret (v:=zca s) ?_ rfl ⟨rfl,by rw[HW.out];exact zX HB2.out HB3.out⟩;unfold zca;rw[HE.out];simp[results,results28,go_sem]
   ·injection hv with h1 h2 h3
    subst h1 h3;clear h2;go_wp2
    go_loopw [9,30] (fun t9 t30 wr=>∃(j:Nat) (c:List UInt8),t30=.int .i64 (j:Int)/\Bys wr w3.heap.size t9 c/\Below w3.heap.size w3 wr/\c.length<=33*j/\j<=l.length/\Hid (rn2 (zav s) ((l.map Prod.fst).drop j) c=rn2 (zav s) (YN s) [])) (fun _ t30 _=>l.length - (RowKit.intOf t30).toNat)
    case atStart=>exact⟨0,[],rfl,World.ownsRow_nil _ _ _ _,Below.refl _ _,by show 0<=_;omega,by omega,by show _=_;rw[HMP.out];rfl⟩
    case round=>
     obtain⟨j,c,rfl,hby,hbe,hcl,hj,HR⟩:=hrel;by_cases hlt:j<l.length
     ·obtain⟨y,HY⟩:∃y:Ri×Value,Hid (y=l[j]):=⟨l[j],zb rfl⟩;have hmem:y∈l:=by rw[HY.out];exact List.getElem_mem hlt
      have hmr:y.1∈YN s:=by rw[<-HMP.out];exact List.mem_map_of_mem hmem
      have HY2:Hid (y.1=(l.map Prod.fst)[j]'(by rw[List.length_map];exact hlt)):=by show _=_;rw[List.getElem_map,<-HY.out]
      obtain⟨hoky,hne,hale⟩:=HOK.out y.1 hmr;have HOY:=zb hoky;have hir2:=(HIR.out.call HB3.out).call hbe;have hml2:=HML.out.below hbe;obtain⟨c0,c1,c2,c3,c4,c5⟩:=ze2 hir2 hlt HY.out;have hcd2:=hir2.cd y hmem;obtain⟨ad,cp,hsh⟩:=zS hcd2;rw[hsh] at c2 hcd2;have hal:=bal (Below.refl _ wr) (.cells #[.int .i64 (y.1.i.k:Int),.string y.1.i.nm,.slice ad y.1.i.cd.length cp,.int .i64 (y.1.i.fl:Int),.int .i64 (y.1.a:Int),.int .i64 (y.1.p:Int)] 122);have HFA:=zb (zfy y.1 ad y.1.i.cd.length cp (zav s) _ _ HOY (fun hk=>zgT hmr hk) _ (hml2.below hal));unfold itY at HFA;have HROW:Hid ((wr.alloc (.cells #[.int .i64 (y.1.i.k:Int),.string y.1.i.nm,.slice ad y.1.i.cd.length cp,.int .i64 (y.1.i.fl:Int),.int .i64 (y.1.a:Int),.int .i64 (y.1.p:Int)] 122)).rowIs wr.heap.size 122 6 (six (.int .i64 (y.1.i.k:Int)) (.string y.1.i.nm) (.slice ad y.1.i.cd.length cp) (.int .i64 (y.1.i.fl:Int)) (.int .i64 (y.1.a:Int)) (.int .i64 (y.1.p:Int)))):=zf5 _ _ _ _ _ _ rfl;have HBE:=zb hbe;have HML2:=zb (hml2.below hal);have HCD2:=zb (zj hcd2 hal);have HBY:=zb (zj hby hal);have HBE2:=zb (zX hbe hal);have hcl33:=hoky.2.2.2.2.1;clear hir2 hml2 hcd2 hsh hby hbe hal hmem hmr hoky HOK;go_wp2_with fail
      refine(HFA.out).mono ?_;rintro e w4 ⟨rfl,hb4⟩;have hrow4:=zg HROW.out hb4;obtain⟨d0,d1,d2,d3,d4,d5⟩:=ZG hrow4;have HBE4:=zb (zX HBE2.out hb4);have HROW4:=zb hrow4;by_cases hf:flt (zav s) y.1=0
      ·have HCW:=zb (zhx y.1 ad y.1.i.cd.length cp (zav s) _ _ _ HOY (fun q hq=>HLB.out _ q hq) _ (HML2.out.below hb4) (zj HCD2.out hb4) (by have:=HBE4.out.size;have:=HB3.out.size;have:=HSZ.out;omega));have HST:=zb (zqH (f:=zav s) (by rw[List.length_map];exact hlt) HY2.out hf HR.out);have HBY4:=zb (zj HBY.out hb4);unfold itY at HCW;rw[hf];have hcw0:=cwt_ne HOY.out hne hf;have hcwl:(cwt (zav s) y.1).length<=33:=by rw[zmB (f:=zav s) HOY.out];exact hcl33
       obtain⟨cw,HCE⟩:∃cw,Hid (cw=cwt (zav s) y.1):=⟨_,rfl⟩;rw[<-HCE.out] at hcw0 hcwl HCW HST;clear hf hb4 hrow4 HFA HROW4 HROW HCE;go_wp2_with fail
       refine(HCW.out).mono ?_;rintro e w5 ⟨v5,rfl,hby5,hb5⟩;have HBY5:=zb (zj HBY4.out hb5);have HBE5:=zb (zX HBE4.out hb5);obtain⟨g5,cap5,e5,_,_,_⟩:=zI hby5 K9;subst e5;have HSRC:=zb (World.ownsRow.cells hby5 (g:=g5) rfl);clear hby5 hb5 HCW HBY4 HBY HBE2 HBE4 HBE HCD2 HML2;go_wp2_with (at_builtin;obtain⟨hi0,hz0,hz1,hz2⟩:=HI.out;refine wpList_append_own _ rfl _ _ 26 rfl w3.heap.size 5 i0 (.int .u8 0) 1 1 (by kernel_rfl) hi0 hz0 hz1 hz2 rfl (by decide) _ _ _ rfl HBY5.out ⟨g5,0,none⟩ cw.length cap5 (cw.map u8v) rfl (by rw[List.length_map,Nat.mul_one]) HSRC.out (by intro u hu;obtain⟨b,_,rfl⟩:=List.mem_map.1 hu;rfl) (by unfold maxLen;omega) K9 HBE5.out.size ?_;intro v6 w6 ho6 hgr _;obtain⟨g',cap',rfl,hg1',hg2',hg3'⟩:=zI ho6 K9;have HGR:=zb hgr;have HO6:=zb ho6;clear hgr ho6 hi0 hz0 hz1 hz2 hg1' hg2' hg3')
       go_roundw
       case rel=>exact⟨j+1,c++cw,by go_num,by show World.ownsRow _ _ _ _ _ _ _;rw[List.length_append,List.map_append];exact HO6.out,HBE5.out.grown HGR.out HBE5.out.size (zjz HBY5.out),by rw[List.length_append];omega,by omega,HST⟩
       case measure=>simp[RowKit.intOf];omega
      ·have HE:Hid (asm s=(⟨#[]⟩,flt (zav s) y.1,y.1.a)):=HFAULT.out _ _ (rn2_bad (f:=zav s) (by rw[List.length_map];exact hlt) HY2.out hf HR.out);have HBX:Hid (Below w.heap.size w w4):=zX (zX HB2.out HB3.out) HBE4.out;have hfd:((flt (zav s) y.1:Int) !=0)=true:=by simp;omega
       have hfl:flt (zav s) y.1<=4:=flt_le HOY.out;generalize flt (zav s) y.1=fe at*;clear hf hb4 hrow4 HFA HROW4 HROW HBE4;go_wp2
       go_region
       all_goals (try go_wp2)
       all_goals refine bodyPost_ret (v:=zca s) ?_ rfl ⟨rfl,HBX.out.drew⟩
       all_goals unfold zca
       all_goals rw[HE.out]
       all_goals simp[results,results28,go_sem]
     ·have HE:Hid (rn2 (zav s) (YN s) []=.inl c):=by show _=_;rw[<-HR.out,List.drop_of_length_le (by rw[List.length_map];omega)];rfl
      have HBX:Hid (Below w.heap.size w wr):=zX (zX HB2.out HB3.out) hbe;by_cases hbig:1000<c.length
      ·have HA:=zb (HBIG.out c HE.out hbig);obtain⟨g9,cap9,e9,_,_,_⟩:=zI hby K9;subst e9;have hdb:decide ((1000:Int)<(c.length:Int))=true:=decide_eq_true K9;clear hby hbe;go_wp2;refine bodyPost_ret (v:=zca s) ?_ rfl ⟨rfl,HBX.out⟩;unfold zca;rw[HA.out];simp[results,results28,go_sem]
      ·have HA:=zb (HCODE.out c HE.out hbig);have hdb:decide ((1000:Int)<(c.length:Int))=false:=decide_eq_false K9;rcases hby.2 with⟨e9,hn9⟩|⟨g9,cap9,cur9,e9,_⟩
       ·have e10:c=[]:=List.length_eq_zero_iff.1 hn9;subst e9 e10;have hcv:=zhQ wr;clear hby hbe;go_wp2;refine bodyPost_ret (v:=zca s) ?_ rfl ⟨rfl,HBX.out⟩;unfold zca;rw[HA.out];simp[results,results28,go_sem]
       ·subst e9;have hcv:=cvt_bys hby;clear hby hbe;go_wp2;refine bodyPost_ret (v:=zca s) ?_ rfl ⟨rfl,HBX.out⟩;unfold zca;rw[HA.out];simp[results,results28,go_sem]
end
theorem znm (s c:ByteArray) (h:asm s=(c,0,0)) (w:World):Calls prog 10 #[.string s] w fun e w'=>e=.returned (.string c)/\Below w.heap.size w w':=by
 have HA:Hid (∀w,Calls prog 28 #[.string s] w fun e w'=>e=.returned (.tuple #[.string c,.int .i64 0,.int .i64 0])/\Below w.heap.size w w'):=fun w=>(zgw s w).mono fun e w' ⟨h1,h2⟩=>⟨by rw[h1,zca,h];rfl,h2⟩
 clear h;go_enter func10,ntmps10;go_wp2_with fail
 refine(HA.out _).mono ?_;rintro e w1 ⟨rfl,hb1⟩;have HB:=zb hb1;clear hb1;go_wp2;go_ret;exact⟨rfl,HB.out⟩
section
open Go.Maps
def srcR:ByteArray:=⟨#[48,32,48,32,67,65,76,76,68,65,84,65,83,73,90,69,32,48,32,48,32,67,65,76,76,68,65,84,65,67,79,80,89,32,67,65,76,76,68,65,84,65,83,73,90,69,32,48,32,50,32,71,65,83,32,83,84,65,84,73,67,67,65,76,76,32,83,84,79,80]⟩
theorem zgc {S:List Nat} {w x y:World} (h:Below w.heap.size w x) (hk:Kb S x y) (hS:∀k∈S,w.heap.size<=k):Below w.heap.size w y:=
 ((Kb.of_below (S:=[]) h).trans hk (fun i hi=>Or.inr (hS i hi))).to_below
theorem zmn {x:World} {base e size n:Nat} {v:Value} {xs:List Value} (h:x.ownsRow base e size v n xs):n<=9223372036854775807:=by
 rcases h.2 with⟨_,e⟩|⟨g,cap,cur,_,_,_,h1,h2,_⟩
 ·omega
 ·unfold maxLen at h2;omega
theorem AcOwn.len {base:Nat} {v:Value} {l:List AcE} {x:World} (h:AcOwn base v l x):l.length<=9223372036854775807/\∀a∈l,a.slots.length<=9223372036854775807:=by
 obtain⟨sls,h1,h2,h3⟩:=h.ex;refine⟨zmn h2,fun a ha=> ?_⟩;obtain⟨i,hi,rfl⟩:=List.getElem_of_mem ha;exact zmn (h3 i l[i] (sls[i]' K9) (List.getElem?_eq_getElem hi) (List.getElem?_eq_getElem K9))
theorem zgY:∀(r:List AcE) (A:Nat->Acc),(∀a∈r,a.code.size<=1000)->(∀m,(A m).code.size<=1000)->(∀m m',m%M=m'%M->A m=A m')->(∀m,(r.foldl (fun A a=>Zv A a.at' (YL a)) A m).code.size<=1000)/\∀m m',m%M=m'%M->r.foldl (fun A a=>Zv A a.at' (YL a)) A m=r.foldl (fun A a=>Zv A a.at' (YL a)) A m'
 |[],_,_,h1,h2=>⟨h1,h2⟩
 |a::r,A,h,h1,h2=>by
  refine zgY r (Zv A a.at' (YL a)) (fun b hb=>h b (List.mem_cons_of_mem _ hb)) (fun m=> ?_) (fun m m' e=>zaO _ _ e (h2 m m' e));unfold Zv;split
  ·exact h a List.mem_cons_self
  ·exact h1 m
theorem good_of (l:List AcE) (h:∀a∈l,a.code.size<=1000):GoodT (T0 (ZY l)):=by
 obtain⟨h1,h2⟩:=zgY l noA h (fun _=>Nat.zero_le _) (fun _ _ _=>rfl);exact⟨h2,h1,fun c hc=>by cases hc⟩
theorem zeE {n:Nat} (h:n<=1000000):n%M=n:=Nat.mod_eq_of_lt (Nat.lt_of_le_of_lt h zkf)
theorem right03:zbe [(0,3)]=true:=by kernel_rfl
theorem low_no (b:Nat):decide (Z7 b 0<0)=false:=by
 refine decide_eq_false ?_;unfold Z7;rw[Nat.zero_mod,if_neg K9];split<;>omega
structure RdW (w:World) (gb ab n:Nat) (A:Nat->Acc) (sb:Nat->Value) (base:Nat) (v1:Value) (l1:List AcE) (x:World):Prop where
 host:HostAt gb ab n A sb x
 told:AcOwn base v1 l1 x
 be:Below w.heap.size w x
 gbl:w.heap.size<=gb/\gb<base
 ft:∀k,ZZ ab A sb k->w.heap.size<=k/\k<base
theorem HostAt.bel {gb ab n:Nat} {A:Nat->Acc} {sb:Nat->Value} {x y:World} (h:HostAt gb ab n A sb x) (hb:Below x.heap.size x y):HostAt gb ab n A sb y:=⟨zg h.row hb,h.acc.kb (Kb.of_below (S:=[]) hb) (by simp),h.zr.below hb⟩
structure RdS (w:World) (gb:Nat) (base:Nat) (v1:Value) (l1:List AcE) (A:Nat->Acc) (x:World):Prop where
 host:∃ab n sb,n<=1000000000000/\∃B,HostAt gb ab n B sb x/\EqA A B
 told:AcOwn base v1 l1 x
 be:Below w.heap.size w x
 gbl:w.heap.size<=gb/\gb<base
end
section
open Go.Maps
end
section
open Go.ChangeShapes Go.WideShapes Go.ChangeAt Go.RowKit
theorem own:ownKnob prog.godebug=none:=by kernel_rfl
theorem zkP:prog.cellsOf 24=4:=by kernel_rfl
theorem zkg:prog.cellsOf 22=1:=by kernel_rfl
end
section
open Go.ChangeShapes Go.WideShapes Go.ChangeAt Go.RowKit
theorem zeroG:prog.globalNamed "cinder/host.zero"=some 0:=by kernel_rfl
theorem zeroT:(prog.globals[0]?).map (·.type)=some 24:=by kernel_rfl
theorem zlv {W:World} {fuel:Nat} {cs:Array Value} {p:List MemPlace} (hd:DataW.trod (fun _=>()) prog W 0 (fun _=>true) false fuel 24 cs.toList=some (Rows.laid_cinder_host_zero,p)):cs=#[.int .u64 0,.int .u64 0,.int .u64 0,.int .u64 0]:=by
 obtain⟨l⟩:=cs;cases fuel with
 |zero=>simp[DataW.trod] at hd
 |succ fuel=>
  simp only[DataW.trod,underlying24,zkP,zkg] at hd;split at hd
  ·rename_i hl
   obtain⟨c0,c1,c2,c3,rfl⟩:∃c0 c1 c2 c3,l=[c0,c1,c2,c3]:=by
    match l,hl with
    |[a,b,c,d],_=>exact⟨a,b,c,d,rfl⟩
   have e:List.range 4=[0,1,2,3]:=rfl;rw[e] at hd;simp only[Option.map_eq_some_iff,List.mapM_cons,List.mapM_nil,Option.bind_eq_bind,Option.bind_eq_some_iff,Option.pure_def,Option.some.injEq] at hd;obtain⟨xs,⟨y0,h0,_,⟨y1,h1,_,⟨y2,h2,_,⟨y3,h3,_,rfl,rfl⟩,rfl⟩,rfl⟩,rfl⟩,hx⟩:=hd;obtain⟨x0,e0,rfl,w0⟩:=DataW.trod_int underlying22 h0;obtain⟨x1,e1,rfl,w1⟩:=DataW.trod_int underlying22 h1;obtain⟨x2,e2,rfl,w2⟩:=DataW.trod_int underlying22 h2;obtain⟨x3,e3,rfl,w3⟩:=DataW.trod_int underlying22 h3;simp at e0 e1 e2 e3;subst e0 e1 e2 e3;simp[Rows.laid_cinder_host_zero] at hx;obtain⟨⟨rfl,rfl,rfl,rfl⟩,_⟩:=hx;rfl
  ·cases hd
theorem znc {W:World} {cs:Array Value} (hvar:W.var? prog "cinder/host.zero"=some cs) (hc:cs=#[.int .u64 0,.int .u64 0,.int .u64 0,.int .u64 0]):Zr W:=by
 subst hc;unfold World.var? at hvar;rw[zeroG] at hvar;simp only[Option.bind_some] at hvar;split at hvar
 ·rename_i cs t z hb;obtain rfl:=Option.some.inj hvar;refine⟨⟨?_, ?_, ?_, ?_⟩,(Array.getElem?_eq_some_iff.1 hb).1⟩<;>simp[World.cell?,hb]
 ·cases hvar
theorem zkm {W:World} (h:laidMet prog Rows.toldRow.laid W):Zr W:=by
 obtain⟨ps,hlv, -, -⟩:=h;have hlv:DataW.LaidVars prog W [("math/bits.deBruijn32tab",Rows.laid_math_bits_deBruijn32tab),("math/bits.deBruijn64tab",Rows.laid_math_bits_deBruijn64tab),("internal/strconv.uint64pow10",Rows.laid_internal_strconv_uint64pow10),("cinder/host.zero",Rows.laid_cinder_host_zero)] ps:=hlv;obtain⟨_,_,_,_,_,_,_,_,_,_,hlv2,_⟩:=hlv;obtain⟨_,_,_,_,_,_,_,_,_,_,hlv3,_⟩:=hlv2;obtain⟨_,_,_,_,_,_,_,_,_,_,hlv4,_⟩:=hlv3;obtain⟨g,t,cs,fuel,p,q,hg,ht,hvar,hd,_,_⟩:=hlv4;obtain rfl:=Option.some.inj (zeroG.symm.trans hg);obtain rfl:=Option.some.inj (zeroT.symm.trans ht);exact znc hvar (zlv hd)
end
end cin
end Go.Proofs.YtohoajjdoihekaaGreatDoor
