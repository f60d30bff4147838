import Derived.Test.YtohoajjdoihekaaGreatDoorKg
import Derived.Laws.StructEq
import Derived.Maps.Views
import Derived.Deep.CutRange
import Derived.ProofKit
import Derived.OpenShut
import Derived.ChangeOld
import Derived.Below
import Derived.Laws.IdiomArrays
import Derived.Deep.Slices
import Derived.SliceStrings
import Derived.LaidMore
set_option linter.unusedVariables false
set_option linter.unusedSimpArgs false
namespace Go.Proofs.YtohoajjdoihekaaGreatDoor
namespace cin
open Go.RowKit Go.Proofs.Tryz Tryz
set_option maxRecDepth 100000
set_option maxHeartbeats 8000000
section
open Go.Maps
theorem zlb {wk:Wk} {A dep:Nat} (hA:2<=A) (hW:zgk wk A dep):∀(n:Nat) (F:Fz) (T:TS),RunF F->F.status<=1->dep<=F.depth->F.gas<=100000->GoodT T->T.ch.length+T.logs.length+F.gas<=1000000->∀F',(zJ wk n F T).1=some F'->F'.status<=1
 |0,F,T,_,_,_,_,_,_,F',h=>by
  rw[zJ] at h
  first
   |(cases h;assumption)
   |cases h
 |n+1,F,T,hr,hs1,hd,hg,hT,hb,F9,h9=>by
  rw[zJ] at h9;by_cases he:F.ended=true
  ·rw[if_pos he] at h9;obtain rfl:=Option.some.inj h9;exact hs1
  ·rw[if_neg he] at h9;obtain⟨s1,s2⟩:=zbN hA hW hr hd hg hT hb;cases hs:Z6 wk F T with
   |none=>rw[hs] at h9;cases h9
   |some y=>
    obtain⟨F',T'⟩:=y;have h:=s2 F' T' hs;rw[hs] at h9;dsimp only at h9;have hbud:=h.bud;have hfx:=h.fx;have hgn:F'.gas<=F.gas:=h.gas;by_cases e:F'.ended=true
    ·cases n with
     |zero=>
      rw[zJ] at h9
      first
       |(cases h9;exact h.st)
       |cases h9
     |succ n=>
      rw[zJ,if_pos e] at h9;obtain rfl:=Option.some.inj h9;exact h.st
    ·have e:F'.ended=false:=by simpa using e
     exact zlb hA hW n F' T' ⟨by rw[hfx.code];exact hr.cs,by rw[hfx.data];exact hr.ds,h.rs,by rw[hfx.depth];exact hr.dp,h.nx e,h.pc,h.os,h.st⟩ h.st (by rw[hfx.depth];exact hd) (by omega) (hT.ext h.ext h.cong) (by omega) F9 h9
theorem ziA {A:Nat->Acc} {fr tt val g:Nat} {data:ByteArray} (hT:GoodT (T0 A)) (hd:data.size<=500) (hg:g<=100000) (hn:(ZO (T0 A) fr tt val data g).1.st=2):(ZO (T0 A) fr tt val data g).1.gas=0/\(ZO (T0 A) fr tt val data g).1.out=⟨#[]⟩:=by
 have hr:RunF (Yh (A tt).code fr tt val data g):=⟨hT.cs tt,(by show data.size<=65536;omega),Nat.zero_le _,(by show 1<=16;omega),Nat.zero_le _,Nat.zero_le _,Nat.zero_le _,Nat.zero_le _⟩;obtain⟨e1,e2,e3,e4⟩:=zbs hT.cong val fr tt;have hTm:=hT.ext e1 e2
 have hb:(zM (T0 A) val fr tt).ch.length+(zM (T0 A) val fr tt).logs.length+(Yh (A tt).code fr tt val data g).gas<=1000000:=by
  rw[e3,e4];show 0+2+0+g<=_;omega
 have h:=zlb (by omega) (zdt 15 (by omega)) (g+2) (Yh (A tt).code fr tt val data g) (zM (T0 A) val fr tt) hr (Nat.zero_le _) (by show 1<=1;omega) hg hTm hb;have hst:zay (zJ (wkM 15) (g+2) (Yh (A tt).code fr tt val data g) (zM (T0 A) val fr tt)).1=2:=hn;show zaM (zJ (wkM 15) (g+2) (Yh (A tt).code fr tt val data g) (zM (T0 A) val fr tt)).1=0/\ziZ (zJ (wkM 15) (g+2) (Yh (A tt).code fr tt val data g) (zM (T0 A) val fr tt)).1=⟨#[]⟩;cases hq:(zJ (wkM 15) (g+2) (Yh (A tt).code fr tt val data g) (zM (T0 A) val fr tt)).1 with
 |none=>exact⟨rfl,rfl⟩
 |some F'=>
  rw[hq] at hst;have:=h F' hq;have hst:F'.status=2:=hst;omega
end
section
open Go.Maps
theorem zh4 {q q':Nat} (e:q%M=q'%M):∀(l:List (Nat×Nat)) (s:Nat->Nat),s q=s q'->l.foldl (fun s p=>yi s p.1 p.2) s q=l.foldl (fun s p=>yi s p.1 p.2) s q'
 |[],_,h=>h
 |p::r,s,h=>by
  refine zh4 e r (yi s p.1 p.2) ?_;unfold yi;rw[e,h]
theorem zo1 (l:List (Nat×Nat)) {q q':Nat} (e:q%M=q'%M):zaP l q=zaP l q':=zh4 e l _ rfl
theorem zfX {q q':Nat} (e:q%M=q'%M):∀(r:List AcE) (A:Nat->Acc),(∀m,(A m).slots q=(A m).slots q')->∀m,(r.foldl (fun A a=>zO A a.at' (yJ a)) A m).slots q=(r.foldl (fun A a=>zO A a.at' (yJ a)) A m).slots q'
 |[],_,h=>h
 |a::r,A,h=>by
  refine zfX e r (zO A a.at' (yJ a)) fun m=> ?_
  unfold zO;split
  ·exact zo1 a.slots e
  ·exact h m
theorem zjS (l:List AcE):ZX (T0 (ZJ l)):=fun a q q' e=>by
 show(ZJ l a).slots q%M=(ZJ l a).slots q'%M;rw[show(ZJ l a).slots q=(ZJ l a).slots q' from zfX e l noA (fun _=>rfl) a]
theorem zmN {A:Nat->Acc} {fr tt val g:Nat} {data:ByteArray} (hT:GoodT (T0 A)) (hS:ZX (T0 A)) (hd:data.size<=500) (hg:g<=100000):GoodT (T0 (ZO (T0 A) fr tt val data g).2.acc)/\ZX (T0 (ZO (T0 A) fr tt val data g).2.acc)/\(ZO (T0 A) fr tt val data g).1.gas<=g/\(ZO (T0 A) fr tt val data g).1.st<=2/\∀a,((ZO (T0 A) fr tt val data g).2.acc a).code=(A a).code:=by
 have h:=(zip fr tt val data g hT (by omega) hg (by show 0+0<=_;omega)).1;refine⟨⟨h.cong,fun a=> ?_,fun c hc=>by cases hc⟩,(zeq hT hS hd hg).2,h.gas,h.st,h.ext.code⟩;show((ZO (T0 A) fr tt val data g).2.acc a).code.size<=1000;rw[show((ZO (T0 A) fr tt val data g).2.acc a).code=(A a).code from h.ext.code a];exact hT.cs a
end
section
open Go.Maps
theorem eqInt9 (x y:Int) (w:World):(Op.equalIn 9998 22 (.int .u64 x) (.int .u64 y)).run prog w=.ok (x==y) w:=run_equalIn_int w 9997 22 .u64 .u64 x y underlying22
theorem eq4_9 (x0 x1 x2 x3 y0 y1 y2 y3:Int) (w:World):(Op.equalIn 9999 24 (.agg #[.int .u64 x0,.int .u64 x1,.int .u64 x2,.int .u64 x3]) (.agg #[.int .u64 y0,.int .u64 y1,.int .u64 y2,.int .u64 y3])).run prog w=.ok (x0==y0&&(x1==y1&&(x2==y2&&x3==y3))) w:=by
 obtain⟨i,hi, -⟩:=Option.map_eq_some_iff.1 (show(prog.info? 22).map (fun i=>i.size)=some 1 by kernel_rfl);rw[run_equalIn_array w 9998 _ _ underlying24 hi,show List.range 4=[0,1,2,3] from rfl,zjC];simp only[Op.eqItems,Sem.run_bind,Nat.mul_one,part0,part1,part2,part3,Result.andThen_ok,eqInt9,Sem.run_ite,Sem.run_pure];cases h0:(x0==y0)<;>cases h1:(x1==y1)<;>cases h2:(x2==y2)<;>cases h3:(x3==y3)<;>rfl
theorem zn7 (xs:Array Value) (o:Nat) (w:World):(part 24 xs o).run prog w=.ok (.agg (xs.extract o (o+4))) w:=by
 obtain⟨i,hi,hs⟩:=Option.map_eq_some_iff.1 (show(prog.info? 24).map (fun i=>i.size)=some 4 by kernel_rfl);simp[part,isAgg,run_underlying underlying24,hi,hs,sizeOf,typeInfo,go_sem]
theorem zi5:(prog.fieldsOf 54).toList.map (fun f=>(f.name,f.type,f.offset))=[("Key",24,0),("Value",24,4)]:=by kernel_rfl
theorem zj2:prog.underlying 54=some (.struct (prog.fieldsOf 54)):=by kernel_rfl
theorem zmD:prog.stoodInHeld 54=false:=by kernel_rfl
abbrev zk0 (k v:Nat):Value:=.agg #[.int .u64 (za k 0),.int .u64 (za k 1),.int .u64 (za k 2),.int .u64 (za k 3),.int .u64 (za v 0),.int .u64 (za v 1),.int .u64 (za v 2),.int .u64 (za v 3)]
theorem eqw9 (a b:Nat) (w:World):(Op.equalIn 9999 24 (wv a) (wv b)).run prog w=.ok (eqw a b) w:=by
 rw[eq4_9,zdC]
theorem zpe (k v k' v':Nat) (w:World):(Op.equalIn 10000 54 (zk0 k v) (zk0 k' v')).run prog w=.ok (eqw k k'&&eqw v v') w:=by
 rw[run_equalIn_struct w 9999 _ _ _ zj2 zmD];have hf:=zi5;generalize(prog.fieldsOf 54).toList=fs at hf
 match fs,hf with
 |[],hf=>cases hf
 |[_],hf=>simp at hf
 |_::_::_::_,hf=>simp at hf
 |[f1,f2],hf=>
  simp only[List.map_cons,List.map_nil,List.cons.injEq,Prod.mk.injEq,and_true] at hf;obtain⟨⟨n1,t1,o1⟩,n2,t2,o2⟩:=hf;have p1:∀k v w,(part 24 #[.int .u64 (za k 0),.int .u64 (za k 1),.int .u64 (za k 2),.int .u64 (za k 3),.int .u64 (za v 0),.int .u64 (za v 1),.int .u64 (za v 2),.int .u64 (za v 3)] 0).run prog w=.ok (wv k) w:=fun k v w=>(zn7 _ 0 w).trans rfl
  have p2:∀k v w,(part 24 #[.int .u64 (za k 0),.int .u64 (za k 1),.int .u64 (za k 2),.int .u64 (za k 3),.int .u64 (za v 0),.int .u64 (za v 1),.int .u64 (za v 2),.int .u64 (za v 3)] 4).run prog w=.ok (wv v) w:=fun k v w=>(zn7 _ 4 w).trans rfl
  have q1:f1.name≠ "_":=by rw[n1];decide
  have q2:f2.name≠ "_":=by rw[n2];decide
  unfold Op.eqFields;rw[if_pos q1,t1,o1];simp only[Sem.run_bind,p1,Result.andThen_ok,eqw9,Sem.run_ite];unfold Op.eqFields;rw[if_pos q2,t2,o2];simp only[Sem.run_bind,p2,Result.andThen_ok,eqw9,Sem.run_ite];unfold Op.eqFields;simp only[Sem.run_pure];cases eqw k k'<;>cases eqw v v'<;>rfl
end
section
open Go.Maps
end

section
def decF:Nat->Nat->ByteArray
 |0,k=>⟨#[UInt8.ofNat (48+k)]⟩
 |f+1,k=>if k<10 then⟨#[UInt8.ofNat (48+k)]⟩ else decF f (k/10)++⟨#[UInt8.ofNat (48+k%10)]⟩
section
variable {s:Act} {x:World} {pos:String} {af:Array Edge} {g:Option (Nat×Bool)} {K:Act->World->Prop} {Q:Exit->Act->World->Prop}
end
end
def hexd (d:Nat):UInt8:=if d<10 then UInt8.ofNat (48+d) else UInt8.ofNat (87+d)
def hexF (n:Nat):Nat->ByteArray
 |0=>⟨#[48,120]⟩
 |k+1=>hexF n k++⟨#[hexd (n/16^(63 - k)%16)]⟩
def numS (n:Nat):ByteArray:=if n%M<1000000 then decF 6 (n%M) else hexF n 64

section
open Go.RowKit Go.Lib Go.Maps Go.WideMaps
def kS (t:ByteArray):Lit:=.string t.data.toList
def MapL (x:World) (b n:Nat) (f:ByteArray->Option Nat):Prop:=∃D:DataW Unit,x.ownsMap prog 9 (plainElem prog 3) b n D/\
 ∀t:ByteArray,Maps.has D (kS t)=(f t).isSome/\D.atKey (kS t) (.lit (.int .i64 0))=.lit (.int .i64 (((f t).getD 0:Nat):Int))
end
section
open Go.RowKit Go.Lib Go.Maps
def Okl (l:List (Ri×Value)):Prop:=l.length<=2001/\∀y∈l,y.1.i.nm.size<=2000/\y.1.p<=100000/\y.1.i.k<=2/\y.1.i.fl<=4/\y.1.i.cd.length<=33/\(y.1.i.k=2->y.1.i.cd=[97,0,0])
def lkT (l:List (Ri×Value)) (j:Nat) (t:ByteArray):Option Nat:=lkp t ((l.take j).map Prod.fst)
end
section
open Go.RowKit Go.Lib Go.Maps
def Oky (y:Ri):Prop:=y.i.nm.size<=2000/\y.p<=100000/\y.i.k<=2/\y.i.fl<=4/\y.i.cd.length<=33/\(y.i.k=2->y.i.cd=[97,0,0])
def itY (y:Ri) (v:Value):Value:=.agg #[.int .i64 (y.i.k:Int),.string y.i.nm,v,.int .i64 (y.i.fl:Int),.int .i64 (y.a:Int),.int .i64 (y.p:Int)]
end

section
open Go.RowKit Go.Lib Go.Maps
end

section
open Go.Maps
def srcR:ByteArray:=⟨#[48,32,48,32,67,65,76,76,68,65,84,65,83,73,90,69,32,48,32,48,32,67,65,76,76,68,65,84,65,67,79,80,89,32,67,65,76,76,68,65,84,65,83,73,90,69,32,48,32,50,32,71,65,83,32,83,84,65,84,73,67,67,65,76,76,32,83,84,79,80]⟩
theorem StrIn.below {x y:World} {v:Value} {cs:List ByteArray} (h:StrIn x v cs) (hb:Below x.heap.size x y):StrIn y v cs:=by
 obtain⟨ad,c,h1,h2⟩:=h;refine⟨ad,c,h1,h2.imp id ?_⟩;rintro⟨g,o,h3,h4,h5⟩;exact⟨g,o,h3,Nat.lt_of_lt_of_le h4 hb.size,fun i hi=>(hb.cell h4).trans (h5 i hi)⟩
theorem znH {S:List Nat} {w x y:World} (h:Below w.heap.size w x) (hk:Kb S x y) (hS:∀k∈S,w.heap.size<=k):Below w.heap.size w y:=
 ((Kb.of_below (S:=[]) h).trans hk (fun i hi=>Or.inr (hS i hi))).to_below
theorem AcOwn.kb {S:List Nat} {base:Nat} {v:Value} {l:List AcE} {x y:World} (h:AcOwn base v l x) (hk:Kb S x y) (hS:∀k∈S,k<base):AcOwn base v l y:=by
 obtain⟨sls,h1,h2,h3⟩:=h.ex
 have key:∀{e size n:Nat} {u:Value} {xs:List Value},x.ownsRow base e size u n xs->y.ownsRow base e size u n xs:=fun ho=>hk.own ho fun k hb hm=>by
  have:=(ho.lt k hb).1;have:=hS k hm;omega
 exact⟨sls,h1,key h2,fun i a sl ha hs=>key (h3 i a sl ha hs)⟩
theorem zkE {x:World} {base e size n:Nat} {v:Value} {xs:List Value} (h:x.ownsRow base e size v n xs):n<=9223372036854775807:=by
 rcases h.2 with⟨_,e⟩|⟨g,cap,cur,_,_,_,h1,h2,_⟩
 ·omega
 ·unfold maxLen at h2;omega
theorem AcOwn.len {base:Nat} {v:Value} {l:List AcE} {x:World} (h:AcOwn base v l x):l.length<=9223372036854775807/\∀a∈l,a.slots.length<=9223372036854775807:=by
 obtain⟨sls,h1,h2,h3⟩:=h.ex;refine⟨zkE h2,fun a ha=> ?_⟩;obtain⟨i,hi,rfl⟩:=List.getElem_of_mem ha;exact zkE (h3 i l[i] (sls[i]'(by omega)) (List.getElem?_eq_getElem hi) (List.getElem?_eq_getElem (by omega)))
theorem zhf:∀(r:List AcE) (A:Nat->Acc) (m:Nat),(∀a∈r,a.at'%M≠m%M)->r.foldl (fun A a=>zO A a.at' (yJ a)) A m=A m
 |[],_,_,_=>rfl
 |a::r,A,m,h=>by
  show r.foldl (fun A a=>zO A a.at' (yJ a)) (zO A a.at' (yJ a)) m=_;rw[zhf r _ m (fun b hb=>h b (List.mem_cons_of_mem _ hb))];exact Za (fun e=>h a List.mem_cons_self e.symm)
theorem zf0:∀(r:List AcE) (A:Nat->Acc),(∀a∈r,a.code.size<=1000)->(∀m,(A m).code.size<=1000)->(∀m m',m%M=m'%M->A m=A m')->(∀m,(r.foldl (fun A a=>zO A a.at' (yJ a)) A m).code.size<=1000)/\∀m m',m%M=m'%M->r.foldl (fun A a=>zO A a.at' (yJ a)) A m=r.foldl (fun A a=>zO A a.at' (yJ a)) A m'
 |[],_,_,h1,h2=>⟨h1,h2⟩
 |a::r,A,h,h1,h2=>by
  refine zf0 r (zO A a.at' (yJ a)) (fun b hb=>h b (List.mem_cons_of_mem _ hb)) (fun m=> ?_) (fun m m' e=>zaK _ _ e (h2 m m' e));unfold zO;split
  ·exact h a List.mem_cons_self
  ·exact h1 m
theorem good_of (l:List AcE) (h:∀a∈l,a.code.size<=1000):GoodT (T0 (ZJ l)):=by
 obtain⟨h1,h2⟩:=zf0 l noA h (fun _=>Nat.zero_le _) (fun _ _ _=>rfl);exact⟨h2,h1,fun c hc=>by cases hc⟩
theorem YB {n:Nat} (h:n<=1000000):n%M=n:=Nat.mod_eq_of_lt (Nat.lt_of_le_of_lt h M_big)
theorem zdW {own:ByteArray} (ho:own.size<=1000) (cs:List ByteArray):∀a∈Z7 own cs,a.code.size<=1000:=by
 intro a ha;unfold Z7 wls at ha;rcases List.mem_cons.1 ha with rfl|ha
 ·exact ho
 ·obtain⟨i,hi,rfl⟩:=List.mem_map.1 ha;exact zn8 _
theorem right03:za0 [(0,3)]=true:=by kernel_rfl
theorem zg9 {own:ByteArray} (ho:own.size<=1000) (cs:List ByteArray):zaw (Z7 own cs)=true:=by
 unfold zaw;have hlen:(Z7 own cs).length=min cs.length 6+1:=zaq _ _ _;rw[Bool.and_eq_true];refine⟨decide_eq_true (by rw[hlen];omega),zfA fun j hj=> ?_⟩
 have hat:∀q (hq:q<(Z7 own cs).length),(Z7 own cs)[q].at'=q+1/\za0 (Z7 own cs)[q].slots=true:=fun q hq=>by
  cases q with
  |zero=>exact⟨rfl,rfl⟩
  |succ q=>
   have e:(Z7 own cs)[q+1]=wAt cs q:=by
    have h9:(Z7 own cs)[q+1]? =some (wAt cs q):=by
     show((List.range (min cs.length 6)).map (wAt cs))[q]? =_;rw[List.getElem?_map,List.getElem?_range (by omega)];rfl
    rw[List.getElem?_eq_getElem hq] at h9;exact Option.some.inj h9
   rw[e];exact⟨by show 2+q=q+1+1;omega,right03⟩
 unfold rA;rw[YG _ ac0 hj,(hat j hj).2,decide_eq_true (zdW ho cs _ (List.getElem_mem hj))];simp only[Bool.and_true];cases j with
 |zero=>rfl
 |succ j=>
  rw[YG _ ac0 (show j+1 - 1<(Z7 own cs).length by omega),(hat (j+1) hj).1,(hat (j+1 - 1) (by omega)).1]
  have e:ZZ (j+1 - 1+1) (j+1+1)= -1:=by
   unfold ZZ;rw[YB (by omega),YB (by omega),if_pos (by omega)]
  rw[e];rfl
structure RdW (w:World) (gb ab n:Nat) (A:Nat->Acc) (sb:Nat->Value) (base:Nat) (v1:Value) (l1:List AcE) (x:World):Prop where
 host:HostAt gb ab n A sb x
 told:AcOwn base v1 l1 x
 be:Below w.heap.size w x
 gbl:w.heap.size<=gb/\gb<base
 ft:∀k,Zm ab A sb k->w.heap.size<=k/\k<base
theorem HostAt.bel {gb ab n:Nat} {A:Nat->Acc} {sb:Nat->Value} {x y:World} (h:HostAt gb ab n A sb x) (hb:Below x.heap.size x y):HostAt gb ab n A sb y:=⟨zg h.row hb,h.acc.kb (Kb.of_below (S:=[]) hb) (by simp),h.zr.below hb⟩
structure RdS (w:World) (gb:Nat) (base:Nat) (v1:Value) (l1:List AcE) (A:Nat->Acc) (x:World):Prop where
 host:∃ab n sb,n<=1000000000000/\∃B,HostAt gb ab n B sb x/\EqA A B
 told:AcOwn base v1 l1 x
 be:Below w.heap.size w x
 gbl:w.heap.size<=gb/\gb<base
end
section
open Go.Maps
structure SnA where
 st:Nat
 gas:Nat
 out:ByteArray
 lg:Nat
 er:Int
 acc:Nat->Acc
def YN (A:Nat->Acc) (fr tt val:Nat) (data:ByteArray) (g:Int):SnA:=
 if data.size<=500/\0<=g/\g<=100000 then
  if decide (ZZ (A fr).bal val<0)=true then⟨0,0,⟨#[]⟩,0,5,A⟩
  else⟨(ZO (T0 A) fr tt val data g.toNat).1.st,(ZO (T0 A) fr tt val data g.toNat).1.gas,(ZO (T0 A) fr tt val data g.toNat).1.out,(ZO (T0 A) fr tt val data g.toNat).2.logs.length,0,(ZO (T0 A) fr tt val data g.toNat).2.acc⟩
 else⟨0,0,⟨#[]⟩,0,1,A⟩
def SnR (gb ab n:Nat) (A:Nat->Acc) (sb:Nat->Value) (R:SnA) (w:World) (e:Ending) (w':World):Prop:=
 ∃ad cp n' sb',e=.returned (.tuple #[YL R.st R.gas R.out (.slice ad R.lg cp),.int .i64 R.er])/\HostAt gb ab n' R.acc sb' w'/\n'<=n+3400010/\(∃S2,Kb (gb::S2) w w'/\∀k∈S2,Zm ab A sb k)/\∀k,Zm ab R.acc sb' k->Zm ab A sb k\/w.heap.size<=k
theorem znn {gb ab n:Nat} {A:Nat->Acc} {sb:Nat->Value} (fr tt val:Nat) (data:ByteArray) (g:Int) (w:World) (h:HostAt gb ab n A sb w) (hA:GoodT (T0 A)) (hn:n+3400010<800000000000):
  Calls prog 13 #[.pointer (some ⟨gb,0,none⟩),msgI fr tt val data g] w (SnR gb ab n A sb (YN A fr tt val data g) w):=by
 unfold YN;by_cases hok:data.size<=500/\0<=g/\g<=100000
 ·rw[if_pos hok];obtain⟨m,rfl⟩:∃m:Nat,g=(m:Int):=⟨g.toNat,by omega⟩;have hs:=zoI fr tt val m data w h hok.1 (by omega) hA hn;rw[show((m:Nat):Int).toNat=m from rfl];refine hs.mono ?_;rintro e w' hr;unfold SendR at hr;by_cases hl:decide (ZZ (A fr).bal val<0)=true
  ·rw[if_pos hl] at hr⊢;obtain⟨rfl,hh,hk⟩:=hr;exact⟨none,0,n,sb,rfl,hh,by omega,⟨[],hk,by simp⟩,fun k hk=>Or.inl hk⟩
  ·rw[if_neg hl] at hr⊢;obtain⟨lv,b,tv,n',sb',rfl,hh,hn',hb,hlo,hS,haf⟩:=hr
   have hlen:∃ad cp,lv=.slice ad (ZO (T0 A) fr tt val data m).2.logs.length cp:=by
    rcases hlo.2.1.2 with⟨e,e2⟩|⟨q,cap,cur,e,_⟩
    ·exact⟨none,0,by rw[e,e2]⟩
    ·exact⟨_,_,e⟩
   obtain⟨ad,cp,rfl⟩:=hlen;exact⟨ad,cp,n',sb',rfl,hh,hn',hS,haf⟩
 ·rw[if_neg hok];refine(send_no fr tt val data g hok w).mono ?_;rintro e w' ⟨rfl,hb⟩;exact⟨none,0,n,sb,rfl,h.bel hb,by omega,⟨[],Kb.of_below hb,by simp⟩,fun k hk=>Or.inl hk⟩
end
section
open Go.Maps
structure SnG (A:Nat->Acc) (g:Int) (R:SnA):Prop where
 good:GoodT (T0 R.acc)
 congS:ZX (T0 R.acc)
 mo:MoT (T0 A) (T0 R.acc)
 code:∀a,(R.acc a).code=(A a).code
 un:R.er≠0\/R.st≠0->EqA A R.acc/\R.lg=0
 gas:R.er=0->(R.gas:Int)<=g
 fail:R.er=0->R.st=2->R.gas=0/\R.out=⟨#[]⟩
theorem ziI {A:Nat->Acc} (hT:GoodT (T0 A)) (hS:ZX (T0 A)) (fr tt val:Nat) (data:ByteArray) (g:Int):SnG A g (YN A fr tt val data g):=by
 have key:∀e:Int,e≠0->SnG A g ⟨0,0,⟨#[]⟩,0,e,A⟩:=fun e he=>⟨hT,hS,MoT.refl _,fun _=>rfl,fun _=>⟨⟨fun _=>rfl,fun _=>rfl,fun _ _=>rfl⟩,rfl⟩,fun h=>absurd h he,fun h=>absurd h he⟩
 unfold YN;by_cases hok:data.size<=500/\0<=g/\g<=100000
 ·rw[if_pos hok];by_cases hl:decide (ZZ (A fr).bal val<0)=true
  ·rw[if_pos hl];exact key 5 (by omega)
  ·rw[if_neg hl];have hg:g.toNat<=100000:=by omega
   obtain⟨h1,h2,h3,h4,h5⟩:=zmN (fr:=fr) (tt:=tt) (val:=val) hT hS hok.1 hg;refine⟨h1,h2,⟨(zeq hT hS hok.1 hg).1.mo⟩,h5,fun h=> ?_,fun _=> ?_,fun _ h=>ziA hT hok.1 hg h⟩
   ·obtain⟨e1,e2⟩:=zh0 hT hS hok.1 hg (h.resolve_left (fun h=>h rfl));exact⟨⟨e1.bal,e1.code,e1.slot⟩,by rw[e2];rfl⟩
   ·show(((ZO (T0 A) fr tt val data g.toNat).1.gas:Nat):Int)<=g;omega
 ·rw[if_neg hok];exact key 1 (by omega)
theorem zpf (own:ByteArray) (cs:List ByteArray):(ZJ (Z7 own cs) 1).bal=100:=by
 unfold Z7 wls ZJ;show(List.foldl (fun A (a:AcE)=>zO A a.at' (yJ a)) (zO noA 1 (yJ ⟨1,100,own,[]⟩)) ((List.range (min cs.length 6)).map (wAt cs)) 1).bal=_;rw[zhf _ _ 1 (fun a ha=> ?_),Zx rfl]
 ·rfl
 ·obtain⟨i,hi,rfl⟩:=List.mem_map.1 ha;have:=List.mem_range.1 hi;show(2+i)%M≠1%M;rw[YB (by omega),YB (by omega)];omega
theorem zl9 (own:ByteArray) (cs:List ByteArray):(ZJ (Z7 own cs) 50).code=⟨#[]⟩:=by
 unfold Z7 wls ZJ;show(List.foldl (fun A (a:AcE)=>zO A a.at' (yJ a)) (zO noA 1 (yJ ⟨1,100,own,[]⟩)) ((List.range (min cs.length 6)).map (wAt cs)) 50).code=_;rw[zhf _ _ 50 (fun a ha=> ?_),Za (by rw[YB (by omega),YB (by omega)];omega)]
 ·rfl
 ·obtain⟨i,hi,rfl⟩:=List.mem_map.1 ha;have:=List.mem_range.1 hi;show(2+i)%M≠50%M;rw[YB (by omega),YB (by omega)];omega
theorem zpo {A:Nat->Acc} (h1:(A 1).bal=100) (h2:(A 50).code=⟨#[]⟩):(YN A 1 50 5 ⟨#[]⟩ 10).er=0/\(YN A 1 50 5 ⟨#[]⟩ 10).st=0/\(YN A 1 50 5 ⟨#[]⟩ 10).gas=10:=by
 unfold YN
 rw[if_pos ⟨by decide,by omega,by omega⟩,if_neg (by
  rw[h1];unfold ZZ;rw[YB (by omega),YB (by omega)];decide)]
 have hs:Z6 (wkM 15) (Yh ⟨#[]⟩ 1 50 5 ⟨#[]⟩ 10) (zM (T0 A) 5 1 50)=some ({Yh ⟨#[]⟩ 1 50 5 ⟨#[]⟩ 10 with nx:=1,pc:=0,ended:=true},zM (T0 A) 5 1 50):=
  st_n (op:=0) (c:=0) (if_neg (by show¬0<0;omega)) rfl (Nat.zero_le _) rfl
 have e:zJ (wkM 15) (10+2) (Yh (A 50).code 1 50 5 ⟨#[]⟩ 10) (zM (T0 A) 5 1 50)=(some {Yh ⟨#[]⟩ 1 50 5 ⟨#[]⟩ 10 with nx:=1,pc:=0,ended:=true},zM (T0 A) 5 1 50):=by
  rw[h2,show 10+2=11+1 from rfl,zlV rfl hs,zJ,if_pos rfl]
 refine⟨rfl, ?_, ?_⟩
 ·show zay (zJ (wkM 15) (10+2) (Yh (A 50).code 1 50 5 ⟨#[]⟩ 10) (zM (T0 A) 5 1 50)).1=0;rw[e];rfl
 ·show zaM (zJ (wkM 15) (10+2) (Yh (A 50).code 1 50 5 ⟨#[]⟩ 10) (zM (T0 A) 5 1 50)).1=10;rw[e];rfl
theorem code_ok {A B:Nat->Acc} {l0 l1:List AcE} (h0:IsList A l0) (h1:IsList B l1) (hc:∀a,(B a).code=(A a).code) (i:Nat) (a:AcE) (ha:l1[i]? =some a):a.at'<M/\(∀(j:Nat) b,l0[j]? =some b->b.at'<M/\(b.at'=a.at'->b.code=a.code))/\((∀(j:Nat) b,l0[j]? =some b->b.at'≠a.at')->a.code=⟨#[]⟩):=by
 obtain⟨ts,e1,e2,e3⟩:=h0.ex;obtain⟨us,f1,f2,f3⟩:=h1.ex;have hil:=(List.getElem?_eq_some_iff.1 ha).1;have hu:=List.getElem?_eq_getElem (l:=us) (i:=i) (by omega);obtain⟨g1,_,g2,_⟩:=f3 i _ a hu ha;have hm:=(f1.2 us[i]).1 (List.getElem_mem _);rw[<-g1] at hm g2;refine⟨hm.1,fun j b hb=> ?_,fun hn=> ?_⟩
 ·have hjl:=(List.getElem?_eq_some_iff.1 hb).1;have ht:=List.getElem?_eq_getElem (l:=ts) (i:=j) (by omega);obtain⟨k1,_,k2,_⟩:=e3 j _ b ht hb;refine⟨by rw[k1];exact((e1.2 _).1 (List.getElem_mem _)).1,fun e=> ?_⟩;rw[k2,<-k1,e,g2,hc]
 ·have hA:(A a.at').no:=by
   by_cases hno:(A a.at').no
   ·exact hno
   ·have hmem:=(e1.2 a.at').2 ⟨hm.1,hno⟩;obtain⟨j,hj,ej⟩:=List.getElem_of_mem hmem;have hb:=List.getElem?_eq_getElem (l:=l0) (i:=j) (by omega);exact absurd ((e3 j _ _ (List.getElem?_eq_getElem hj) hb).1.trans ej) (hn j _ hb)
  rw[g2,hc];exact hA.2.1
end
section
open Go.Maps
structure KpW (w:World) (gb ab n:Nat) (A:Nat->Acc) (sb:Nat->Value) (gc ac m:Nat) (B:Nat->Acc) (sc:Nat->Value) (x:World):Prop where
 h1:HostAt gb ab n A sb x
 h2:HostAt gc ac m B sc x
 be:Below w.heap.size w x
 g1:w.heap.size<=gb
 g2:w.heap.size<=gc
 f1:∀k,Zm ab A sb k->w.heap.size<=k
 f2:∀k,Zm ac B sc k->w.heap.size<=k
 ne:gb≠gc
 a1:∀k,Zm ab A sb k->k≠gc
 a2:∀k,Zm ac B sc k->k≠gb
 ap:∀k,Zm ab A sb k->¬Zm ac B sc k
theorem KpW.swap {w:World} {gb ab n:Nat} {A:Nat->Acc} {sb:Nat->Value} {gc ac m:Nat} {B:Nat->Acc} {sc:Nat->Value} {x:World} (h:KpW w gb ab n A sb gc ac m B sc x):KpW w gc ac m B sc gb ab n A sb x:=
 ⟨h.h2,h.h1,h.be,h.g2,h.g1,h.f2,h.f1,h.ne.symm,h.a2,h.a1,fun k h2 h1=>h.ap k h1 h2⟩
theorem HostAt.kb {S:List Nat} {gb ab n:Nat} {A:Nat->Acc} {sb:Nat->Value} {x y:World} (h:HostAt gb ab n A sb x) (hk:Kb S x y) (hS:∀k∈S,k≠gb/\¬Zm ab A sb k) (hz:Zr y):HostAt gb ab n A sb y:=
 ⟨hk.row h.row (fun hm=>(hS _ hm).1 rfl),h.acc.kb hk (fun k hm=>(hS k hm).2),hz⟩
theorem KpW.below {w:World} {gb ab n:Nat} {A:Nat->Acc} {sb:Nat->Value} {gc ac m:Nat} {B:Nat->Acc} {sc:Nat->Value} {x y:World} (h:KpW w gb ab n A sb gc ac m B sc x) (hb:Below x.heap.size x y):KpW w gb ab n A sb gc ac m B sc y:=
 ⟨h.h1.bel hb,h.h2.bel hb,h.be.trans (hb.mono h.be.size),h.g1,h.g2,h.f1,h.f2,h.ne,h.a1,h.a2,h.ap⟩
def Tch (gb ab:Nat) (A:Nat->Acc) (sb:Nat->Value) (x y:World):Prop:=∃S,Kb S x y/\∀k∈S,k=gb\/Zm ab A sb k
theorem KpW.step {w:World} {gb ab n:Nat} {A:Nat->Acc} {sb:Nat->Value} {gc ac m:Nat} {B:Nat->Acc} {sc:Nat->Value} {x y:World} (h:KpW w gb ab n A sb gc ac m B sc x) {n':Nat} {A':Nat->Acc} {sb':Nat->Value} (h1:HostAt gb ab n' A' sb' y) (ht:Tch gb ab A sb x y) (hn:∀k,Zm ab A' sb' k->Zm ab A sb k\/x.heap.size<=k):KpW w gb ab n' A' sb' gc ac m B sc y:=by
 obtain⟨S,hk,hS⟩:=ht;have hbs:=h.be.size;have l2:=h.h2.row.lt;have l1:=h.h1.row.lt;refine⟨h1,h.h2.kb hk (fun k hm=> ?_) h1.zr,znH h.be hk (fun k hm=> ?_),h.g1,h.g2,fun k hk=> ?_,h.f2,h.ne,fun k hk=> ?_,h.a2,fun k hk hc=> ?_⟩
 ·rcases hS k hm with rfl|hf
  ·exact⟨h.ne,fun hf=>h.a2 _ hf rfl⟩
  ·exact⟨h.a1 k hf,h.ap k hf⟩
 ·rcases hS k hm with rfl|hf
  ·exact h.g1
  ·exact h.f1 k hf
 ·rcases hn k hk with hf|hl
  ·exact h.f1 k hf
  ·omega
 ·rcases hn k hk with hf|hl
  ·exact h.a1 k hf
  ·omega
 ·rcases hn k hk with hf|hl
  ·exact h.ap k hf hc
  ·have:=h.h2.acc.lt hc;omega
theorem Tch.own {gb ab:Nat} {A:Nat->Acc} {sb:Nat->Value} {x y:World} (h:Tch gb ab A sb x y) {base:Nat} {v:Value} {l:List AcE} (ho:AcOwn base v l x) (hb:gb<base/\∀k,Zm ab A sb k->k<base):AcOwn base v l y:=by
 obtain⟨S,hk,hS⟩:=h;refine ho.kb hk (fun k hm=> ?_);rcases hS k hm with rfl|hf
 ·exact hb.1
 ·exact hb.2 k hf
theorem Tch.row {gb ab:Nat} {A:Nat->Acc} {sb:Nat->Value} {x y:World} (h:Tch gb ab A sb x y) {b n:Nat} {t:TypeId} {f:Nat->Value} (hr:x.rowIs b t n f) (hb:gb<b/\∀k,Zm ab A sb k->k<b):y.rowIs b t n f:=by
 obtain⟨S,hk,hS⟩:=h;refine hk.row hr (fun hm=> ?_);rcases hS b hm with e|hf
 ·have:=hb.1;omega
 ·have:=hb.2 b hf;omega
theorem KpW.sent {w:World} {gb ab n:Nat} {A:Nat->Acc} {sb:Nat->Value} {gc ac m:Nat} {B:Nat->Acc} {sc:Nat->Value} {x:World} (h:KpW w gb ab n A sb gc ac m B sc x) (fr tt val:Nat) (data:ByteArray) (g:Int) (hA:GoodT (T0 A)) (hn:n+3400010<800000000000):
  Calls prog 13 #[.pointer (some ⟨gb,0,none⟩),msgI fr tt val data g] x fun e y=>∃ad cp n' sb',e=.returned (.tuple #[YL (YN A fr tt val data g).st (YN A fr tt val data g).gas (YN A fr tt val data g).out (.slice ad (YN A fr tt val data g).lg cp),.int .i64 (YN A fr tt val data g).er])/\n'<=n+3400010/\KpW w gb ab n' (YN A fr tt val data g).acc sb' gc ac m B sc y/\Tch gb ab A sb x y:=by
 refine(znn fr tt val data g x h.h1 hA hn).mono ?_;rintro e y ⟨ad,cp,n',sb',rfl,hh,hn',⟨S2,hk,hS⟩,hf⟩;have ht:Tch gb ab A sb x y:=⟨gb::S2,hk,fun k hm=>(List.mem_cons.1 hm).imp id (hS k)⟩;exact⟨ad,cp,n',sb',rfl,hn',h.step hh ht hf,ht⟩
theorem KpW.world {w:World} {gb ab n:Nat} {A:Nat->Acc} {sb:Nat->Value} {gc ac m:Nat} {B:Nat->Acc} {sc:Nat->Value} {x:World} (h:KpW w gb ab n A sb gc ac m B sc x) (hn:n<=1000000000000):
  Calls prog 23 #[.pointer (some ⟨gb,0,none⟩)] x fun e y=>∃v l,e=.returned v/\IsList A l/\AcOwn x.heap.size v l y/\KpW w gb ab n A sb gc ac m B sc y/\Kb [gb] x y:=by
 refine(zmq x h.h1 hn).mono ?_;rintro e y ⟨v,ts,sls,rfl,_,hkk,ht,hh,hk⟩;obtain⟨l,hl,hao⟩:=ht.list hkk;have ht:Tch gb ab A sb x y:=⟨[gb],hk,fun k hm=>Or.inl (List.mem_singleton.1 hm)⟩;exact⟨v,l,rfl,hl,hao,h.step hh ht (fun k hk=>Or.inl hk),hk⟩
theorem zhi {gb:Nat} {x y:World} (hk:Kb [gb] x y) {base:Nat} {v:Value} {l:List AcE} (ho:AcOwn base v l x) (hb:gb<base):AcOwn base v l y:=ho.kb hk (fun k hm=>by rw[List.mem_singleton.1 hm];exact hb)
theorem zej {gb:Nat} {x y:World} (hk:Kb [gb] x y) {b n:Nat} {t:TypeId} {f:Nat->Value} (hr:x.rowIs b t n f) (hb:gb<b):y.rowIs b t n f:=hk.row hr (fun hm=>by have:=List.mem_singleton.1 hm;omega)
theorem KpW.lt {w:World} {gb ab n:Nat} {A:Nat->Acc} {sb:Nat->Value} {gc ac m:Nat} {B:Nat->Acc} {sc:Nat->Value} {x:World} (h:KpW w gb ab n A sb gc ac m B sc x) {b:Nat} (hb:x.heap.size<=b):gb<b/\∀k,Zm ab A sb k->k<b:=
 ⟨Nat.lt_of_lt_of_le h.h1.row.lt hb,fun k hk=>Nat.lt_of_lt_of_le (h.h1.acc.lt hk) hb⟩
theorem KpW.made {w x y:World} {gb gc:Nat} {A B:Nat->Acc} (hb:Below w.heap.size w x) (h:zem A x gb y) {z:World} (hz:Below y.heap.size y z) {u:World} (h2:zem B z gc u):∃ab n sb ac m sc,n<=40/\m<=40/\KpW w gb ab n A sb gc ac m B sc u:=by
 obtain⟨ab,n,sb,hn,hh,hb1,hg,hf⟩:=h;obtain⟨ac,m,sc,hm,hh2,hb2,hg2,hf2⟩:=h2;have s1:=hb.size;have s2:=hz.size;have s3:=hb1.size;have hzu:Below y.heap.size y u:=hz.trans (hb2.mono s2);have hyu:=hh.bel hzu;have l1:=hh.row.lt;refine⟨ab,n,sb,ac,m,sc,hn,hm,⟨hyu,hh2,(hb.trans (hb1.mono s1)).trans (hzu.mono (Nat.le_trans s1 s3)),by omega,by omega,fun k hk=> ?_,fun k hk=> ?_,by omega,fun k hk=> ?_,fun k hk=> ?_,fun k hk hc=> ?_⟩⟩
 ·have:=hf k hk;omega
 ·have:=hf2 k hk;omega
 ·have:=hh.acc.lt hk;omega
 ·have:=hf2 k hk;omega
 ·have:=hh.acc.lt hk;have:=hf2 k hc;omega
structure MsgE where
 fr:Nat
 tt:Nat
 val:Nat
 data:ByteArray
 gas:Int
def msgL (m:MsgE):List Value:=[.int .u64 (za m.fr 0),.int .u64 (za m.fr 1),.int .u64 (za m.fr 2),.int .u64 (za m.fr 3),.int .u64 (za m.tt 0),.int .u64 (za m.tt 1),.int .u64 (za m.tt 2),.int .u64 (za m.tt 3),.int .u64 (za m.val 0),.int .u64 (za m.val 1),.int .u64 (za m.val 2),.int .u64 (za m.val 3),.string m.data,.int .i64 m.gas]
def MsIn (x:World) (v:Value) (l:List MsgE):Prop:=∃ad c,v=.slice ad l.length c/\(l=[]\/∃g o,ad=some ⟨g,o,none⟩/\g<x.heap.size/\∀(i:Nat) m,l[i]? =some m->∀j,j<14->x.cell? ⟨g,o+i*14+j,none⟩=some ((msgL m)[j]!))
end
section
open Go.Maps
theorem zii {v v':Value} (l l':List AcE) (w:World) (h:AcIn w v l) (h':AcIn w v' l') (hl:l.length<=9223372036854775807/\∀a∈l,a.slots.length<=9223372036854775807) (hl':l'.length<=9223372036854775807/\∀a∈l',a.slots.length<=9223372036854775807):Calls prog 24 #[v,v'] w fun e w'=>∃b,e=.returned (.bool b)/\(l=l'->b=true)/\Below w.heap.size w w':=by
 obtain⟨ad,cp,rfl,h2⟩:=h;obtain⟨ad',cp',rfl,h2'⟩:=h';obtain⟨L,HL⟩:∃L,Hid (L=l.length):=⟨_,rfl⟩;obtain⟨L',HL'⟩:∃L',Hid (L'=l'.length):=⟨_,rfl⟩;rw[<-HL.out,<-HL'.out];have hL:L<=9223372036854775807:=by rw[HL.out];exact hl.1
 have hL':L'<=9223372036854775807:=by rw[HL'.out];exact hl'.1
 have HLS:=zb hl.2;have HLS':=zb hl'.2;clear hl hl';have HS:=zb h2;have HS':=zb h2';clear h2 h2';go_enter func24,ntmps24;by_cases hLL:L=L'
 case neg=>
  have hd0:decide ((L:Int)=(L':Int))=false:=decide_eq_false (by omega);have hd1:((L:Int)==(L':Int))=false:=by rw[beq_eq_false_iff_ne];omega
  have HNE:Hid (l=l'->False):=fun e=>hLL (by rw[HL.out,HL'.out,e])
  clear hLL;go_wp2;go_ret;exact⟨false,rfl,fun e=>(HNE.out e).elim,Below.refl _ _⟩
 subst hLL;go_wp2
 go_loopw [5] (fun t5 wr=>∃i:Nat,i<=L/\t5=.int .i64 (i:Int)/\Hid (Below w.heap.size w wr)) (fun t5 _=>L - (RowKit.intOf t5).toNat)
 case atStart=>exact⟨0,Nat.zero_le _,rfl,Below.refl _ _⟩
 case round=>
  obtain⟨i,hi,rfl,HB⟩:=hrel;by_cases hlt:i<L
  ·have hd2:decide ((i:Int)<(L:Int))=true:=decide_eq_true (by omega);have hil:i<l.length:=by rw[<-HL.out];exact hlt
   have hil':i<l'.length:=by rw[<-HL'.out];exact hlt
   obtain⟨g,o,rfl,hgl,hcell⟩:=HS.out.resolve_left (fun e=>by rw[e] at hil;exact absurd hil (by simp));obtain⟨g',o',rfl,hgl',hcell'⟩:=HS'.out.resolve_left (fun e=>by rw[e] at hil';exact absurd hil' (by simp));obtain⟨a,HAE⟩:∃a,Hid (a=l[i]):=⟨l[i],zb rfl⟩;obtain⟨a',HAE'⟩:∃a',Hid (a'=l'[i]):=⟨l'[i],zb rfl⟩;obtain⟨sl,hc,hsl⟩:=hcell i l[i] (List.getElem?_eq_getElem hil);obtain⟨sl',hc',hsl'⟩:=hcell' i l'[i] (List.getElem?_eq_getElem hil');have hn2:=HLS.out l[i] (List.getElem_mem hil);have hn2':=HLS'.out l'[i] (List.getElem_mem hil');have hE:l=l'->a=a':=fun e=>by rw[HAE.out,HAE'.out];subst e;rfl
   rw[<-HAE.out] at hc hsl hn2;rw[<-HAE'.out] at hc' hsl' hn2';obtain⟨k9,bl9,cd9,ss⟩:=a;obtain⟨k9',bl9',cd9',ss'⟩:=a';dsimp only at hc hsl hc' hsl' hn2 hn2';obtain⟨ad2,cq2,rfl,hs2⟩:=hsl;obtain⟨ad2',cq2',rfl,hs2'⟩:=hsl';obtain⟨n2,HN2⟩:∃n2,Hid (n2=ss.length):=⟨_,rfl⟩;obtain⟨n2',HN2'⟩:∃n2',Hid (n2'=ss'.length):=⟨_,rfl⟩;rw[<-HN2.out] at hc hn2;rw[<-HN2'.out] at hc' hn2';have cc:∀j,j<10->wr.cell? ⟨g,o+i*10+j,none⟩=some ((acC k9 bl9 cd9 (.slice ad2 n2 cq2))[j]!):=fun j hj=>(HB.out.cell (by exact hgl)).trans (hc j hj)
   have cc':∀j,j<10->wr.cell? ⟨g',o'+i*10+j,none⟩=some ((acC k9' bl9' cd9' (.slice ad2' n2' cq2'))[j]!):=fun j hj=>(HB.out.cell (by exact hgl')).trans (hc' j hj)
   have c0:wr.cell? ⟨g,o+i*10,none⟩=some (.int .u64 (za k9 0)):=cc 0 (by omega);have c1:wr.cell? ⟨g,o+i*10+1,none⟩=some (.int .u64 (za k9 1)):=cc 1 (by omega);have c2:wr.cell? ⟨g,o+i*10+2,none⟩=some (.int .u64 (za k9 2)):=cc 2 (by omega);have c3:wr.cell? ⟨g,o+i*10+3,none⟩=some (.int .u64 (za k9 3)):=cc 3 (by omega);have c4:wr.cell? ⟨g,o+i*10+4,none⟩=some (.int .u64 (za bl9 0)):=cc 4 (by omega);have c5:wr.cell? ⟨g,o+i*10+5,none⟩=some (.int .u64 (za bl9 1)):=cc 5 (by omega);have c6:wr.cell? ⟨g,o+i*10+6,none⟩=some (.int .u64 (za bl9 2)):=cc 6 (by omega);have c7:wr.cell? ⟨g,o+i*10+7,none⟩=some (.int .u64 (za bl9 3)):=cc 7 (by omega);have c8:wr.cell? ⟨g,o+i*10+8,none⟩=some (.string cd9):=cc 8 (by omega);have c9:wr.cell? ⟨g,o+i*10+9,none⟩=some (.slice ad2 n2 cq2):=cc 9 (by omega);have d0:wr.cell? ⟨g',o'+i*10,none⟩=some (.int .u64 (za k9' 0)):=cc' 0 (by omega);have d1:wr.cell? ⟨g',o'+i*10+1,none⟩=some (.int .u64 (za k9' 1)):=cc' 1 (by omega);have d2:wr.cell? ⟨g',o'+i*10+2,none⟩=some (.int .u64 (za k9' 2)):=cc' 2 (by omega);have d3:wr.cell? ⟨g',o'+i*10+3,none⟩=some (.int .u64 (za k9' 3)):=cc' 3 (by omega);have d4:wr.cell? ⟨g',o'+i*10+4,none⟩=some (.int .u64 (za bl9' 0)):=cc' 4 (by omega);have d5:wr.cell? ⟨g',o'+i*10+5,none⟩=some (.int .u64 (za bl9' 1)):=cc' 5 (by omega);have d6:wr.cell? ⟨g',o'+i*10+6,none⟩=some (.int .u64 (za bl9' 2)):=cc' 6 (by omega);have d7:wr.cell? ⟨g',o'+i*10+7,none⟩=some (.int .u64 (za bl9' 3)):=cc' 7 (by omega);have d8:wr.cell? ⟨g',o'+i*10+8,none⟩=some (.string cd9'):=cc' 8 (by omega);have d9:wr.cell? ⟨g',o'+i*10+9,none⟩=some (.slice ad2' n2' cq2'):=cc' 9 (by omega);obtain⟨b1,hb1⟩:∃b,eqw k9 k9'=b:=⟨_,rfl⟩;obtain⟨b2,hb2⟩:∃b,eqw bl9 bl9'=b:=⟨_,rfl⟩;obtain⟨b3,hb3⟩:∃b,(cd9.toList==cd9'.toList)=b:=⟨_,rfl⟩;obtain⟨b4,hb4⟩:∃b,decide ((n2:Int)=(n2':Int))=b:=⟨_,rfl⟩
   have HE:Hid (l=l'->b1=true/\b2=true/\b3=true/\b4=true):=fun e=>by
    have e2:=hE e;injection e2 with e3 e4 e5 e6
    refine⟨?_, ?_, ?_, ?_⟩
    ·rw[<-hb1,e3];exact zaA rfl
    ·rw[<-hb2,e4];exact zaA rfl
    ·rw[<-hb3,e5];exact beq_self_eq_true _
    ·rw[<-hb4,HN2.out,HN2'.out,e6];exact decide_eq_true rfl
   have HSE:Hid (l=l'->ss=ss'):=fun e=>by
    have e2:=hE e;injection e2
   have he1:∀w,(Op.equalIn 10000 24 (wv k9) (wv k9')).run prog w=.ok b1 w:=fun w=>by rw[zaL,hb1]
   have he2:∀w,(Op.equalIn 10000 24 (wv bl9) (wv bl9')).run prog w=.ok b2 w:=fun w=>by rw[zaL,hb2]
   have HC9:Hid (w.cell? ⟨g,o+i*10+9,none⟩=some (.slice ad2 n2 cq2)):=hc 9 (by omega);have HC9':Hid (w.cell? ⟨g',o'+i*10+9,none⟩=some (.slice ad2' n2' cq2')):=hc' 9 (by omega);have HGL:=zb hgl;have HGL':=zb hgl';have HSS:=zb hs2;have HSS':=zb hs2';have hb5:((n2:Int)==(n2':Int))=b4:=by rw[<-hb4];rfl
   clear cc cc' hc hc' hcell hcell' hgl hgl' hs2 hs2' hb1 hb2 hE;cases b1
   case false=>
    as_aux_lemma=>
     go_wp2
     go_quiet (fail)
     as_aux_lemma=>
      go_wp2;go_ret;exact⟨false,rfl,fun e=>by have:=HE.out e;simp_all,zL HB.out _⟩
   cases b2
   case false=>
    as_aux_lemma=>
     go_wp2
     go_quiet (fail)
     as_aux_lemma=>
      go_wp2;go_ret;exact⟨false,rfl,fun e=>by have:=HE.out e;simp_all,zL HB.out _⟩
   cases b3
   case false=>
    as_aux_lemma=>
     go_wp2
     go_quiet (fail)
     as_aux_lemma=>
      go_wp2;go_ret;exact⟨false,rfl,fun e=>by have:=HE.out e;simp_all,zL HB.out _⟩
   cases b4
   case false=>
    as_aux_lemma=>
     go_wp2
     go_quiet (fail)
     as_aux_lemma=>
      go_wp2;go_ret;exact⟨false,rfl,fun e=>by have:=HE.out e;simp_all,zL HB.out _⟩
   have HN:n2'=n2:=by have:=of_decide_eq_true hb4;omega
   subst HN
   as_aux_lemma=>
    go_wp2
    go_quiet (fail)
    as_aux_lemma=>
     go_wp2;have HB2:Hid (Below w.heap.size w (wr.drewN nq)):=zL HB.out nq;clear c0 c1 c2 c3 c4 c5 c6 c7 c8 c9 d0 d1 d2 d3 d4 d5 d6 d7 d8 d9 he1 he2 hb3 hb4 hb5 HE
     go_loopw [6] (fun t6 wr=>∃j:Nat,j<=n2'/\t6=.int .i64 (j:Int)/\Hid (Below w.heap.size w wr)) (fun t6 _=>n2' - (RowKit.intOf t6).toNat)
     case atStart=>exact⟨0,Nat.zero_le _,rfl,HB2.out⟩
     case round=>
      clear HB2;obtain⟨j,hj,rfl,HB2⟩:=hrel;have c9:wr.cell? ⟨g,o+i*10+9,none⟩=some (.slice ad2 n2' cq2):=(HB2.out.cell (by exact HGL.out)).trans HC9.out;have d9:wr.cell? ⟨g',o'+i*10+9,none⟩=some (.slice ad2' n2' cq2'):=(HB2.out.cell (by exact HGL'.out)).trans HC9'.out;by_cases hjt:j<n2'
      case neg=>
       have hd3:decide ((j:Int)<(n2':Int))=false:=decide_eq_false (by omega);go_wp2;exact⟨⟨i+1,by omega,by go_num,HB2.out⟩,by simp[RowKit.intOf];omega⟩
      have hd3:decide ((j:Int)<(n2':Int))=true:=decide_eq_true (by omega);have hjl:j<ss.length:=by rw[<-HN2.out];exact hjt
      have hjl':j<ss'.length:=by rw[<-HN2'.out];exact hjt
      obtain⟨g2,o2,rfl,hgl2,hcell2⟩:=HSS.out.resolve_left (fun e=>by rw[e] at hjl;exact absurd hjl (by simp));obtain⟨g2',o2',rfl,hgl2',hcell2'⟩:=HSS'.out.resolve_left (fun e=>by rw[e] at hjl';exact absurd hjl' (by simp));obtain⟨k8,HK8⟩:∃k8:Nat,Hid (k8=ss[j].1):=⟨ss[j].1,zb rfl⟩;obtain⟨v8,HV8⟩:∃v8:Nat,Hid (v8=ss[j].2):=⟨ss[j].2,zb rfl⟩;obtain⟨k8',HK8'⟩:∃k8:Nat,Hid (k8=ss'[j].1):=⟨ss'[j].1,zb rfl⟩;obtain⟨v8',HV8'⟩:∃v8:Nat,Hid (v8=ss'[j].2):=⟨ss'[j].2,zb rfl⟩;have hdc:=hcell2 j ss[j] (List.getElem?_eq_getElem hjl);have hdc':=hcell2' j ss'[j] (List.getElem?_eq_getElem hjl');rw[<-HK8.out,<-HV8.out] at hdc;rw[<-HK8'.out,<-HV8'.out] at hdc';have e0:wr.cell? ⟨g2,o2+j*8,none⟩=some (.int .u64 (za k8 0)):=(HB2.out.cell (by exact hgl2)).trans (hdc 0 (by omega));have e1:wr.cell? ⟨g2,o2+j*8+1,none⟩=some (.int .u64 (za k8 1)):=(HB2.out.cell (by exact hgl2)).trans (hdc 1 (by omega));have e2:wr.cell? ⟨g2,o2+j*8+2,none⟩=some (.int .u64 (za k8 2)):=(HB2.out.cell (by exact hgl2)).trans (hdc 2 (by omega));have e3:wr.cell? ⟨g2,o2+j*8+3,none⟩=some (.int .u64 (za k8 3)):=(HB2.out.cell (by exact hgl2)).trans (hdc 3 (by omega));have e4:wr.cell? ⟨g2,o2+j*8+4,none⟩=some (.int .u64 (za v8 0)):=(HB2.out.cell (by exact hgl2)).trans (hdc 4 (by omega));have e5:wr.cell? ⟨g2,o2+j*8+5,none⟩=some (.int .u64 (za v8 1)):=(HB2.out.cell (by exact hgl2)).trans (hdc 5 (by omega));have e6:wr.cell? ⟨g2,o2+j*8+6,none⟩=some (.int .u64 (za v8 2)):=(HB2.out.cell (by exact hgl2)).trans (hdc 6 (by omega));have e7:wr.cell? ⟨g2,o2+j*8+7,none⟩=some (.int .u64 (za v8 3)):=(HB2.out.cell (by exact hgl2)).trans (hdc 7 (by omega));have f0:wr.cell? ⟨g2',o2'+j*8,none⟩=some (.int .u64 (za k8' 0)):=(HB2.out.cell (by exact hgl2')).trans (hdc' 0 (by omega));have f1:wr.cell? ⟨g2',o2'+j*8+1,none⟩=some (.int .u64 (za k8' 1)):=(HB2.out.cell (by exact hgl2')).trans (hdc' 1 (by omega));have f2:wr.cell? ⟨g2',o2'+j*8+2,none⟩=some (.int .u64 (za k8' 2)):=(HB2.out.cell (by exact hgl2')).trans (hdc' 2 (by omega));have f3:wr.cell? ⟨g2',o2'+j*8+3,none⟩=some (.int .u64 (za k8' 3)):=(HB2.out.cell (by exact hgl2')).trans (hdc' 3 (by omega));have f4:wr.cell? ⟨g2',o2'+j*8+4,none⟩=some (.int .u64 (za v8' 0)):=(HB2.out.cell (by exact hgl2')).trans (hdc' 4 (by omega));have f5:wr.cell? ⟨g2',o2'+j*8+5,none⟩=some (.int .u64 (za v8' 1)):=(HB2.out.cell (by exact hgl2')).trans (hdc' 5 (by omega));have f6:wr.cell? ⟨g2',o2'+j*8+6,none⟩=some (.int .u64 (za v8' 2)):=(HB2.out.cell (by exact hgl2')).trans (hdc' 6 (by omega));have f7:wr.cell? ⟨g2',o2'+j*8+7,none⟩=some (.int .u64 (za v8' 3)):=(HB2.out.cell (by exact hgl2')).trans (hdc' 7 (by omega));obtain⟨b5,hb5⟩:∃b,(eqw k8 k8'&&eqw v8 v8')=b:=⟨_,rfl⟩
      have HE:Hid (l=l'->b5=true):=fun e=>by
       have e2:=HSE.out e;subst e2;rw[<-hb5,HK8.out,HK8'.out,HV8.out,HV8'.out,zaA rfl,zaA rfl];rfl
      have he3:∀w,(Op.equalIn 10000 54 (zk0 k8 v8) (zk0 k8' v8')).run prog w=.ok b5 w:=fun w=>by rw[zpe,hb5]
      clear hdc hdc' hcell2 hcell2' hgl2 hgl2' hb5;cases b5
      case false=>
       as_aux_lemma=>
        go_wp2
        go_quiet (fail)
        as_aux_lemma=>
         go_wp2;go_ret;exact⟨false,rfl,fun e=>HE.out e,zL HB2.out _⟩
      as_aux_lemma=>
       go_wp2
       go_quiet (fail)
       as_aux_lemma=>
        go_wp2;exact⟨⟨j+1,by omega,by go_num,zL HB2.out _⟩,by simp[RowKit.intOf];omega⟩
  ·have hd2:decide ((i:Int)<(L:Int))=false:=decide_eq_false (by omega);go_wp2;go_ret;exact⟨true,rfl,fun _=>rfl,HB.out⟩
end
section
open Go.Maps
structure TtW (w:World) (tb s:Nat) (x:World):Prop where
 rz:∃n,zX x w.heap.size n
 rt:zX x tb s
 be:Below w.heap.size w x
 lt:w.heap.size<tb
theorem TtW.below {w:World} {tb s:Nat} {x y:World} (h:TtW w tb s x) (hb:Below x.heap.size x y):TtW w tb s y:=by
 obtain⟨n,hn⟩:=h.rz;exact⟨⟨n,zg hn hb⟩,zg h.rt hb,h.be.trans (hb.mono h.be.size),h.lt⟩
theorem TtW.put {w:World} {tb s n:Nat} {x y:World} (h:TtW w tb s x) (h1:zX y tb n) (h2:y=(((x.setCell ⟨tb,0,none⟩ (.int .u64 (za n 0))).setCell ⟨tb,1,none⟩ (.int .u64 (za n 1))).setCell ⟨tb,2,none⟩ (.int .u64 (za n 2))).setCell ⟨tb,3,none⟩ (.int .u64 (za n 3))):TtW w tb n y:=by
 obtain⟨m,hm⟩:=h.rz;have:=h.lt;refine⟨⟨m, ?_⟩,h1, ?_,h.lt⟩
 ·rw[h2];exact zR hm (by omega) _ _ _ _
 ·rw[h2];exact zC h.be (by omega) _ _ _ _
def PhT (w:World) (tb s r:Nat):Nat->World->Prop
 |0,x=>TtW w tb s x
 |_,x=>TtW w tb r x
theorem zlr {w:World} {tb s r k:Nat} {x:World} (h:PhT w tb s r k x) (hk:k<=0):TtW w tb s x:=by
 obtain rfl:k=0:=by omega
 exact h
theorem pht_bel {w:World} {tb s r:Nat} (k:Nat) (x x':World) (h:PhT w tb s r k x) (hb:Below x.heap.size x x'):PhT w tb s r k x':=by
 match k,h with
 |0,h=>exact TtW.below h hb
 |_+1,h=>exact TtW.below (s:=r) h hb
theorem ziR:∀(l:List AcE) (a:AcE),zdv (l++[a])=zdv l+a.bal
 |[],a=>by show a.bal+0=0+a.bal;omega
 |b::r,a=>by
  show b.bal+zdv (r++[a])=b.bal+zdv r+a.bal;rw[ziR r a];omega
theorem zfv {v:Value} (l:List AcE) (w:World) (h:AcIn w v l) (hl:l.length<=9223372036854775807):Calls prog 25 #[v] w fun e w'=>∃r:Nat,Hid (r%M=zdv l%M)/\e=.returned (wv r)/\Below w.heap.size w w':=by
 obtain⟨ad,cp,rfl,h2⟩:=h;obtain⟨L,HL⟩:∃L,Hid (L=l.length):=⟨_,rfl⟩;rw[<-HL.out];have hL:L<=9223372036854775807:=by rw[HL.out];exact hl
 have HS:=zb h2;clear h2 hl;go_enter func25,ntmps25;go_wp2_with fail
 refine(zfi 0 (by decide) _).mono ?_;rintro e w1 ⟨r0,H0,rfl,hb1⟩
 have HX1:Hid (TtW w w1.heap.size r0 (w1.alloc (.cells #[.int .u64 (za r0 0),.int .u64 (za r0 1),.int .u64 (za r0 2),.int .u64 (za r0 3)] 24))):=by
  have hb2:=bal hb1 (.cells #[.int .u64 (za r0 0),.int .u64 (za r0 1),.int .u64 (za r0 2),.int .u64 (za r0 3)] 24);have hlt:w.heap.size<w1.heap.size:=by have:=hb1.size;simp at this;omega
  exact⟨⟨0,zg (zj (za 0) rfl (by rw[zs]) (by rw[zs]) (by rw[zs]) (by rw[zs])) hb2⟩,zj (za r0) rfl rfl rfl rfl rfl,(bal (Below.refl _ w) _).trans (hb2.mono (by simp)),hlt⟩
 clear hb1;go_wp2;generalize w1.heap.size=tb at*
 go_loopw [4] (fun t4 wr=>∃i s:Nat,i<=L/\t4=.int .i64 (i:Int)/\Hid (s%M=zdv (l.take i)%M)/\Hid (TtW w tb s wr)) (fun t4 _=>L - (RowKit.intOf t4).toNat)
 case atStart=>exact⟨0,r0,Nat.zero_le _,rfl,by rw[H0.out];rfl,HX1.out⟩
 case round=>
  clear HX1 H0;obtain⟨i,s,hi,rfl,HS9,HX⟩:=hrel;by_cases hlt:i<L
  ·have hd2:decide ((i:Int)<(L:Int))=true:=decide_eq_true (by omega);have hil:i<l.length:=by rw[<-HL.out];exact hlt
   obtain⟨g,o,rfl,hgl,hcell⟩:=HS.out.resolve_left (fun e=>by rw[e] at hil;exact absurd hil (by simp));obtain⟨sl,hc,hsl⟩:=hcell i l[i] (List.getElem?_eq_getElem hil);obtain⟨b9,HB9⟩:∃b9:Nat,Hid (b9=l[i].bal):=⟨l[i].bal,zb rfl⟩
   have HKC:Hid (∀j,j<4->w.cell? ⟨g,o+i*10+4+j,none⟩=some (.int .u64 (za b9 j))):=fun j hj=>by
    rw[HB9.out];rcases(show j=0\/j=1\/j=2\/j=3 by omega) with rfl|rfl|rfl|rfl
    ·exact hc 4 (by omega)
    ·exact hc 5 (by omega)
    ·exact hc 6 (by omega)
    ·exact hc 7 (by omega)
   have HGL:=zb hgl;obtain⟨r,HR⟩:∃r,Hid (r=zfD (s%M) (b9%M)):=⟨_,rfl⟩
   have HNX:Hid (r%M=zdv (l.take (i+1))%M):=zb (by
    rw[HR.out,List.take_succ_eq_append_getElem hil,ziR];unfold zfD;rw[Nat.mod_mod,<-Nat.add_mod,Nat.add_mod,HS9.out,<-Nat.add_mod,HB9.out])
   clear hc hsl hcell hgl;go_wp2
   refine zq (PhT w tb s r) (fun _ _ _=>True) [(0,(.slice (some ⟨g,o,none⟩) L cp)),(3,(.pointer (some ⟨tb,0,none⟩))),(4,(.int .i64 (i:Int)))] [(some 12,.v (wv s)),(some 13,.v (.slice (some ⟨g,o,none⟩) L cp)),(some 14,.v (.int .i64 (i:Int))),(some 15,.v (.pointer (some ⟨g,o+i*10,none⟩))),(some 16,.v (.pointer (some ⟨g,o+i*10+4,none⟩))),(some 17,.v (wv b9)),(some 18,.v (wv r)),(none,.v undef)] [7] [0,3,5,6] (by kernel_rfl) (by rfl) (by rfl) (by kernel_rfl) (HX.out.below (Below.refl _ _).drew) (pht_bel)
     (zf _ _ _ rfl rfl
     (fun s9 x hph hdf hv hl K hK=>by
      have hx:TtW w tb s x:=hph;exact yG (hv 3 _ rfl) (hv 18 _ rfl) hx.rt (fun x' h1 h2=>hK undef x' (hx.put h1 h2) trivial (fun _=>rfl) rfl))
     True.intro)
     (zf _ _ _ rfl rfl
     (fun k s9 x hk hlo hhi hph hdf hv hl K hK=>by
      have hx:TtW w tb s x:=zlr hph (hhi 0 7 rfl (by kernel_rfl));obtain⟨q0,q1,q2,q3⟩:=ze hx.rt;exact zB (n:=s) (hv 3 _ rfl) q0 q1 q2 q3 (hK _ x (Below.refl _ _) nn1 rfl))
     (zf _ _ _ rfl rfl
     (fun k s9 x hk hlo hhi hph hdf hv hl K hK=>by
      exact zjd (hv 13 _ rfl) (hv 14 _ rfl) hlt (hK _ x (Below.refl _ _) nn1 rfl))
     (zf _ _ _ rfl rfl
     (fun k s9 x hk hlo hhi hph hdf hv hl K hK=>by
      have hx:TtW w tb s x:=zlr hph (hhi 0 7 rfl (by kernel_rfl));exact zB (n:=b9) (hv 16 _ rfl) ((hx.be.cell HGL.out).trans (HKC.out 0 (by omega))) ((hx.be.cell HGL.out).trans (HKC.out 1 (by omega))) ((hx.be.cell HGL.out).trans (HKC.out 2 (by omega))) ((hx.be.cell HGL.out).trans (HKC.out 3 (by omega))) (hK _ x (Below.refl _ _) nn1 rfl))
     (zf _ _ _ rfl rfl
     (fun k s9 x hk hlo hhi hph hdf hv hl K hK=>by
      refine zW hv (znY s b9 x) (by kernel_rfl) (fun v y h=> ?_) (fun l y h=>by obtain⟨_,_,e,_⟩:=h;cases e) (fun y h=>by obtain⟨_,_,e,_⟩:=h;cases e);obtain⟨q,HQ,e,hb⟩:=h;injection e with e
      subst e;exact hK _ y hb nn1 (by rw[HQ.out,HR.out];rfl))
     True.intro))))
     (fun _ _ _ h=>(zo rfl h).elim) (fun _ _ _ h=>(zo rfl h).elim) ?_
   intro gg x9 hph _;have HX9:Hid (TtW w tb r x9):=hph;clear hph;simp only[yy,yw,yx,Zg,zF,List.foldl_cons,List.foldl_nil,Act.put];simp only[sx9];go_wp2;exact⟨⟨i+1,r,by omega,by go_num,HNX.out,HX9.out⟩,by simp[RowKit.intOf];omega⟩
  ·have hd2:decide ((i:Int)<(L:Int))=false:=decide_eq_false (by omega);have hx:=HX.out;obtain⟨m0,hm⟩:=hx.rz;obtain⟨c0,c1,c2,c3⟩:=ze hx.rt;obtain⟨x0,x1,x2,x3⟩:=ze hm;have fz:=hm.frozen
   have HEND:Hid (s%M=zdv l%M):=by
    have h9:=HS9.out;rw[show i=l.length by rw[<-HL.out];omega,List.take_length] at h9;exact h9
   have hrow:=zy hm (za s) rfl rfl rfl rfl;have hbe:=zC hx.be (Nat.le_refl _) (.int .u64 (za s 0)) (.int .u64 (za s 1)) (.int .u64 (za s 2)) (.int .u64 (za s 3));obtain⟨q0,q1,q2,q3⟩:=ze hrow;have HQ:=zb (And.intro (And.intro q0 q1) (And.intro q2 (And.intro q3 hbe)));clear hx hm hrow hbe q0 q1 q2 q3;go_wp2;obtain⟨⟨q0,q1⟩,q2,q3,hbe⟩:=HQ.out;refine bodyPost_ret (v:=wv s) (by simp[results,results25,go_sem,q0,q1,q2,q3]) rfl ⟨s,HEND.out,rfl,hbe⟩
end
section
open Go.Maps
def KpI (w:World) (gb ab gc ac b:Nat) (x:World):Prop:=∃A n sb m sc,n<=b/\m<=b/\KpW w gb ab n A sb gc ac m A sc x/\GoodT (T0 A)/\ZX (T0 A)
theorem zgJ (x:World) (a b c d:Value):(x.alloc (.cells #[a,b,c,d] 38)).rowIs x.heap.size 38 4 (fun i=>(#[a,b,c,d]:Array Value).getD i undef):=
 World.rowIs_alloc x #[a,b,c,d] 38 (fun i=>(#[a,b,c,d]:Array Value).getD i undef) (fun i hi=>by rw[Array.getD_eq_getD_getElem?,Array.getElem?_eq_getElem hi];rfl)
theorem zbW {x:World} {g:Nat} {a b c d:Value} (h:x.rowIs g 38 4 (fun i=>(#[a,b,c,d]:Array Value).getD i undef)):x.cell? ⟨g,0,none⟩=some a/\x.cell? ⟨g,1,none⟩=some b/\x.cell? ⟨g,2,none⟩=some c/\x.cell? ⟨g,3,none⟩=some d:=
 ⟨h.cell (i:=0) (by omega),h.cell (i:=1) (by omega),h.cell (i:=2) (by omega),h.cell (i:=3) (by omega)⟩
theorem zmQ {v vm:Value} (cs:List ByteArray) (ms:List MsgE) (w:World) (h:StrIn w v cs) (hm:MsIn w vm ms) (hl:ms.length<=200000) (hz:Zr w):Calls prog 7 #[v,vm] w fun e w'=>e=.returned (.bool true)/\Below w.heap.size w w':=by
 have HST:=zb h;have HZ:=zb hz;obtain⟨ad,cp,rfl,hcs0⟩:=h;clear hcs0;obtain⟨L,HLL⟩:∃L,Hid (L=cs.length):=⟨_,rfl⟩;rw[<-HLL.out] at HST⊢;obtain⟨adm,cpm,rfl,hms⟩:=hm;obtain⟨N,HN⟩:∃N,Hid (N=ms.length):=⟨_,rfl⟩;rw[<-HN.out];have hN:N<=200000:=by rw[HN.out];exact hl
 have HMS:=zb hms;clear hz hl hms;obtain⟨A0,HA0⟩:∃A0,Hid (A0=ZJ (Z7 ⟨#[]⟩ cs)):=⟨_,rfl⟩;have HR0:=zb (zg9 (own:=⟨#[]⟩) (by decide) cs)
 have HG0:Hid (GoodT (T0 A0)/\ZX (T0 A0)/\(A0 1).bal=100/\(A0 50).code=⟨#[]⟩):=by
  rw[HA0.out];exact⟨good_of _ (zdW (by decide) cs),zjS _,zpf _ _,zl9 _ _⟩
 go_enter func7,ntmps7;go_wp2_with fail
 refine(zfq ⟨#[]⟩ cs _ HST.out).mono ?_;rintro e w1 ⟨u1,rfl,hao1,hb1⟩;have HM1:=zb (zia (Z7 ⟨#[]⟩ cs) w1 hao1.is (HZ.out.below hb1) HR0.out);rw[<-HA0.out] at HM1;have HB1:=zb hb1;clear hao1 hb1;go_wp2_with fail
 refine HM1.out.mono ?_;rintro e w2 ⟨gb,rfl,hn1⟩
 have HB2:Hid (Below w.heap.size w w2):=by
  obtain⟨_,_,_,_,_,hb,_⟩:=hn1;exact HB1.out.trans (hb.mono HB1.out.size)
 have HN1:=zb hn1;have HW2:=zb (zfq ⟨#[]⟩ cs w2 (HST.out.below HB2.out));clear hn1 HM1;go_wp2_with fail
 refine HW2.out.mono ?_;rintro e w3 ⟨u3,rfl,hao3,hb3⟩;have HM3:=zb (zia (Z7 ⟨#[]⟩ cs) w3 hao3.is (HZ.out.below (HB2.out.trans (hb3.mono HB2.out.size))) HR0.out);rw[<-HA0.out] at HM3;have HB3:=zb hb3;clear hao3 hb3 HW2 HB2;go_wp2_with fail
 refine HM3.out.mono ?_;rintro e w4 ⟨gc,rfl,hn2⟩;obtain⟨ab,n,sb,ac,m,sc,hn,hm,hx⟩:=KpW.made HB1.out HN1.out HB3.out hn2;have HX:=zb hx;have HNM:=zb (And.intro hn hm);clear hn hm hx hn2 HM3 HB3 HN1 HB1;go_wp2_with fail
 refine(yU 1 (by decide) _).mono ?_;rintro e x ⟨rfl,hb⟩;replace HX:=zb (HX.out.below hb);clear hb;go_wp2_with fail
 refine(yU 50 (by decide) _).mono ?_;rintro e x ⟨rfl,hb⟩;replace HX:=zb (HX.out.below hb);clear hb;go_wp2_with fail
 refine(yU 5 (by decide) _).mono ?_;rintro e x ⟨rfl,hb⟩;replace HX:=zb (HX.out.below hb);clear hb;go_wp2_with fail
 obtain⟨R,HR⟩:∃R,Hid (R=YN A0 1 50 5 ⟨#[]⟩ 10):=⟨_,rfl⟩;have hf:=zpo HG0.out.2.2.1 HG0.out.2.2.2;have hsg:=ziI HG0.out.1 HG0.out.2.1 1 50 5 ⟨#[]⟩ 10;have hs:=HX.out.sent 1 50 5 ⟨#[]⟩ 10 HG0.out.1 (by have:=HNM.out;omega);rw[<-HR.out] at hf hsg hs;obtain⟨st,gs,out,lg,er,B⟩:=R;dsimp only at hf hs;obtain⟨rfl,rfl,rfl⟩:=hf;have HSG:=zb hsg;clear hsg;refine hs.mono ?_;clear hs;rintro e x ⟨ad1,cp1,n',sb',rfl,hn',hx,ht⟩;have HROW:=zb (zgJ x (.int .u8 0) (.int .i64 10) (.string out) (.slice ad1 lg cp1));have HX2:=zb (hx.below (bal (Below.refl _ x) (.cells #[.int .u8 0,.int .i64 10,.string out,.slice ad1 lg cp1] 38)));have HN':=zb hn';have HLT:=zb (hx.swap.lt (Nat.le_refl _));obtain⟨rb,HRB⟩:∃rb,Hid (rb=x.heap.size):=⟨_,rfl⟩;clear hx ht HX hn';go_wp2_with fail
 refine(yU 1 (by decide) _).mono ?_;rintro e y ⟨rfl,hb⟩;replace HX2:=zb (HX2.out.below hb);replace HROW:=zb (zg HROW.out hb);clear hb;go_wp2_with fail
 refine(yU 50 (by decide) _).mono ?_;rintro e y ⟨rfl,hb⟩;replace HX2:=zb (HX2.out.below hb);replace HROW:=zb (zg HROW.out hb);clear hb;go_wp2_with fail
 refine(yU 5 (by decide) _).mono ?_;rintro e y ⟨rfl,hb⟩;replace HX2:=zb (HX2.out.below hb);replace HROW:=zb (zg HROW.out hb);clear hb;go_wp2_with fail
 have hs:=HX2.out.swap.sent 1 50 5 ⟨#[]⟩ 10 HG0.out.1 (by have:=HNM.out;omega);rw[<-HR.out] at hs;dsimp only at hs;refine hs.mono ?_;clear hs;rintro e y ⟨ad2,cp2,m',sc',rfl,hm',hx,ht⟩;replace HROW:=zb (ht.row HROW.out HLT.out);have HROW2:=zb (zg HROW.out (bal (Below.refl _ y) (.cells #[.int .u8 0,.int .i64 10,.string out,.slice ad2 lg cp2] 38)));have HX3:=zb (hx.swap.below (bal (Below.refl _ y) (.cells #[.int .u8 0,.int .i64 10,.string out,.slice ad2 lg cp2] 38)));have HM':=zb hm';clear hx ht HX2 hm' HLT HROW;obtain⟨r0,r1,r2,r3⟩:=zbW HROW2.out
 have HI0:Hid (KpI w gb ab gc ac (40+3400010*(0+1)) (y.alloc (.cells #[.int .u8 0,.int .i64 10,.string out,.slice ad2 lg cp2] 38))):=
  ⟨B,n',sb',m',sc',by have:=HN'.out;have:=HNM.out;omega,by have:=HM'.out;have:=HNM.out;omega,HX3.out,HSG.out.good,HSG.out.congS⟩
 clear HROW2 HX3 HM' HN' HNM HSG HR HG0 HA0 HR0 HZ HST HLL r2 r3
 as_aux_lemma=>
  go_wp2
  go_loopw [11] (fun t11 wr=>∃i:Nat,i<=N/\t11=.int .i64 (i:Int)/\Hid (KpI w gb ab gc ac (40+3400010*(i+1)) wr)) (fun t11 _=>N - (RowKit.intOf t11).toNat)
  case atStart=>exact⟨0,Nat.zero_le _,rfl,HI0.out⟩
  case round=>
   clear HI0 r0 r1;obtain⟨i,hi,rfl,HI⟩:=hrel;by_cases hlt:i<N
   case neg=>
    have hd2:decide ((i:Int)<(N:Int))=false:=decide_eq_false (by omega)
    have HBE:Hid (Below w.heap.size w wr):=by
     obtain⟨_,_,_,_,_,_,_,hx,_⟩:=HI.out;exact hx.be
    clear HI;go_wp2;go_ret;exact⟨rfl,HBE.out⟩
   have hd2:decide ((i:Int)<(N:Int))=true:=decide_eq_true (by omega);have hil:i<ms.length:=by rw[<-HN.out];exact hlt
   obtain⟨mg,mo,rfl,hml,hmc⟩:=HMS.out.resolve_left (fun e=>by rw[e] at hil;exact absurd hil (by simp));obtain⟨me,HME⟩:∃me,Hid (me=ms[i]):=⟨ms[i],zb rfl⟩;have hmc:=hmc i ms[i] (List.getElem?_eq_getElem hil);rw[<-HME.out] at hmc;obtain⟨fr,tt,val,data,gas⟩:=me;have HMC:Hid (∀j,j<14->w.cell? ⟨mg,mo+i*14+j,none⟩=some ((msgL ⟨fr,tt,val,data,gas⟩)[j]!)):=hmc;have HML:=zb hml;obtain⟨A,n,sb,m,sc,hn,hm,hx,hga,hgs⟩:=HI.out;have HX:=zb hx;have HGA:=zb (And.intro hga hgs);have HNB:Hid (n+3400010<800000000000/\m+3400010<800000000000/\n+3400010<=40+3400010*(i+1+1)/\m+3400010<=40+3400010*(i+1+1)):=zb ⟨by omega,by omega,by omega,by omega⟩;clear hmc hml hx hga hgs hn hm HI HME;go_wp2_with fail
   refine(HX.out.world (by have:=HNB.out;omega)).mono ?_;rintro e x1 ⟨v0,l0,rfl,hl0,hao0,hx1,ht1⟩;have HL0:=zb hl0;have HAO:=zb hao0;have HX1:=zb hx1;have HF1:=zb (HX.out.lt (Nat.le_refl _));have HF2:=zb (HX.out.swap.lt (Nat.le_refl _));obtain⟨b0,HB0⟩:∃b0,Hid (b0=wr.heap.size):=⟨_,rfl⟩;rw[<-HB0.out] at HAO HF1 HF2;clear hl0 hao0 hx1 ht1 HX
   as_aux_lemma=>
    have q0:x1.cell? ⟨mg,mo+i*14,none⟩=some (.int .u64 (za fr 0)):=(HX1.out.be.cell HML.out).trans (HMC.out 0 (by omega));have q1:x1.cell? ⟨mg,mo+i*14+1,none⟩=some (.int .u64 (za fr 1)):=(HX1.out.be.cell HML.out).trans (HMC.out 1 (by omega));have q2:x1.cell? ⟨mg,mo+i*14+2,none⟩=some (.int .u64 (za fr 2)):=(HX1.out.be.cell HML.out).trans (HMC.out 2 (by omega));have q3:x1.cell? ⟨mg,mo+i*14+3,none⟩=some (.int .u64 (za fr 3)):=(HX1.out.be.cell HML.out).trans (HMC.out 3 (by omega));have q4:x1.cell? ⟨mg,mo+i*14+4,none⟩=some (.int .u64 (za tt 0)):=(HX1.out.be.cell HML.out).trans (HMC.out 4 (by omega));have q5:x1.cell? ⟨mg,mo+i*14+5,none⟩=some (.int .u64 (za tt 1)):=(HX1.out.be.cell HML.out).trans (HMC.out 5 (by omega));have q6:x1.cell? ⟨mg,mo+i*14+6,none⟩=some (.int .u64 (za tt 2)):=(HX1.out.be.cell HML.out).trans (HMC.out 6 (by omega));have q7:x1.cell? ⟨mg,mo+i*14+7,none⟩=some (.int .u64 (za tt 3)):=(HX1.out.be.cell HML.out).trans (HMC.out 7 (by omega));have q8:x1.cell? ⟨mg,mo+i*14+8,none⟩=some (.int .u64 (za val 0)):=(HX1.out.be.cell HML.out).trans (HMC.out 8 (by omega));have q9:x1.cell? ⟨mg,mo+i*14+9,none⟩=some (.int .u64 (za val 1)):=(HX1.out.be.cell HML.out).trans (HMC.out 9 (by omega));have q10:x1.cell? ⟨mg,mo+i*14+10,none⟩=some (.int .u64 (za val 2)):=(HX1.out.be.cell HML.out).trans (HMC.out 10 (by omega));have q11:x1.cell? ⟨mg,mo+i*14+11,none⟩=some (.int .u64 (za val 3)):=(HX1.out.be.cell HML.out).trans (HMC.out 11 (by omega));have q12:x1.cell? ⟨mg,mo+i*14+12,none⟩=some (.string data):=(HX1.out.be.cell HML.out).trans (HMC.out 12 (by omega));have q13:x1.cell? ⟨mg,mo+i*14+13,none⟩=some (.int .i64 gas):=(HX1.out.be.cell HML.out).trans (HMC.out 13 (by omega));go_wp2_with fail
    clear q0 q1 q2 q3 q4 q5 q6 q7 q8 q9 q10 q11 q12 q13;obtain⟨R,HR⟩:∃R,Hid (R=YN A fr tt val data gas):=⟨_,rfl⟩;have hsg:=ziI HGA.out.1 HGA.out.2 fr tt val data gas;have hs:=HX1.out.sent fr tt val data gas HGA.out.1 HNB.out.1;rw[<-HR.out] at hsg hs;obtain⟨st,gs,out9,lg9,er,B9⟩:=R;dsimp only at hs;have HSG:=zb hsg;clear hsg;refine hs.mono ?_;clear hs;rintro e x2 ⟨ad3,cp3,n',sb',rfl,hn',hx,ht⟩;replace HAO:=zb (ht.own HAO.out HF1.out);have HROW:=zb (zgJ x2 (.int .u8 (st:Int)) (.int .i64 (gs:Int)) (.string out9) (.slice ad3 lg9 cp3));have hb2:=bal (Below.refl _ x2) (.cells #[.int .u8 (st:Int),.int .i64 (gs:Int),.string out9,.slice ad3 lg9 cp3] 38);have HX2:=zb (hx.below hb2);replace HAO:=zb (HAO.out.below hb2);have HN':=zb hn';have HLT:=zb (hx.swap.lt (Nat.le_refl _));have HGB:=zb (hx.lt (Nat.le_refl _)).1;clear hx ht HX1 hn' hb2
    as_aux_lemma=>
     have q0:(x2.alloc (.cells #[.int .u8 (st:Int),.int .i64 (gs:Int),.string out9,.slice ad3 lg9 cp3] 38)).cell? ⟨mg,mo+i*14,none⟩=some (.int .u64 (za fr 0)):=(HX2.out.be.cell HML.out).trans (HMC.out 0 (by omega));have q1:(x2.alloc (.cells #[.int .u8 (st:Int),.int .i64 (gs:Int),.string out9,.slice ad3 lg9 cp3] 38)).cell? ⟨mg,mo+i*14+1,none⟩=some (.int .u64 (za fr 1)):=(HX2.out.be.cell HML.out).trans (HMC.out 1 (by omega));have q2:(x2.alloc (.cells #[.int .u8 (st:Int),.int .i64 (gs:Int),.string out9,.slice ad3 lg9 cp3] 38)).cell? ⟨mg,mo+i*14+2,none⟩=some (.int .u64 (za fr 2)):=(HX2.out.be.cell HML.out).trans (HMC.out 2 (by omega));have q3:(x2.alloc (.cells #[.int .u8 (st:Int),.int .i64 (gs:Int),.string out9,.slice ad3 lg9 cp3] 38)).cell? ⟨mg,mo+i*14+3,none⟩=some (.int .u64 (za fr 3)):=(HX2.out.be.cell HML.out).trans (HMC.out 3 (by omega));have q4:(x2.alloc (.cells #[.int .u8 (st:Int),.int .i64 (gs:Int),.string out9,.slice ad3 lg9 cp3] 38)).cell? ⟨mg,mo+i*14+4,none⟩=some (.int .u64 (za tt 0)):=(HX2.out.be.cell HML.out).trans (HMC.out 4 (by omega));have q5:(x2.alloc (.cells #[.int .u8 (st:Int),.int .i64 (gs:Int),.string out9,.slice ad3 lg9 cp3] 38)).cell? ⟨mg,mo+i*14+5,none⟩=some (.int .u64 (za tt 1)):=(HX2.out.be.cell HML.out).trans (HMC.out 5 (by omega));have q6:(x2.alloc (.cells #[.int .u8 (st:Int),.int .i64 (gs:Int),.string out9,.slice ad3 lg9 cp3] 38)).cell? ⟨mg,mo+i*14+6,none⟩=some (.int .u64 (za tt 2)):=(HX2.out.be.cell HML.out).trans (HMC.out 6 (by omega));have q7:(x2.alloc (.cells #[.int .u8 (st:Int),.int .i64 (gs:Int),.string out9,.slice ad3 lg9 cp3] 38)).cell? ⟨mg,mo+i*14+7,none⟩=some (.int .u64 (za tt 3)):=(HX2.out.be.cell HML.out).trans (HMC.out 7 (by omega));have q8:(x2.alloc (.cells #[.int .u8 (st:Int),.int .i64 (gs:Int),.string out9,.slice ad3 lg9 cp3] 38)).cell? ⟨mg,mo+i*14+8,none⟩=some (.int .u64 (za val 0)):=(HX2.out.be.cell HML.out).trans (HMC.out 8 (by omega));have q9:(x2.alloc (.cells #[.int .u8 (st:Int),.int .i64 (gs:Int),.string out9,.slice ad3 lg9 cp3] 38)).cell? ⟨mg,mo+i*14+9,none⟩=some (.int .u64 (za val 1)):=(HX2.out.be.cell HML.out).trans (HMC.out 9 (by omega));have q10:(x2.alloc (.cells #[.int .u8 (st:Int),.int .i64 (gs:Int),.string out9,.slice ad3 lg9 cp3] 38)).cell? ⟨mg,mo+i*14+10,none⟩=some (.int .u64 (za val 2)):=(HX2.out.be.cell HML.out).trans (HMC.out 10 (by omega));have q11:(x2.alloc (.cells #[.int .u8 (st:Int),.int .i64 (gs:Int),.string out9,.slice ad3 lg9 cp3] 38)).cell? ⟨mg,mo+i*14+11,none⟩=some (.int .u64 (za val 3)):=(HX2.out.be.cell HML.out).trans (HMC.out 11 (by omega));have q12:(x2.alloc (.cells #[.int .u8 (st:Int),.int .i64 (gs:Int),.string out9,.slice ad3 lg9 cp3] 38)).cell? ⟨mg,mo+i*14+12,none⟩=some (.string data):=(HX2.out.be.cell HML.out).trans (HMC.out 12 (by omega));have q13:(x2.alloc (.cells #[.int .u8 (st:Int),.int .i64 (gs:Int),.string out9,.slice ad3 lg9 cp3] 38)).cell? ⟨mg,mo+i*14+13,none⟩=some (.int .i64 gas):=(HX2.out.be.cell HML.out).trans (HMC.out 13 (by omega));go_wp2_with fail
     clear q0 q1 q2 q3 q4 q5 q6 q7 q8 q9 q10 q11 q12 q13;have hs:=HX2.out.swap.sent fr tt val data gas HGA.out.1 HNB.out.2.1;rw[<-HR.out] at hs;dsimp only at hs;refine hs.mono ?_;clear hs;rintro e x3 ⟨ad4,cp4,m',sc',rfl,hm',hx,ht⟩;replace HAO:=zb (ht.own HAO.out HF2.out);have hb3:=bal (Below.refl _ x3) (.cells #[.int .u8 (st:Int),.int .i64 (gs:Int),.string out9,.slice ad4 lg9 cp4] 38);replace HROW:=zb (zg (ht.row HROW.out HLT.out) hb3);have HROW2:=zb (zgJ x3 (.int .u8 (st:Int)) (.int .i64 (gs:Int)) (.string out9) (.slice ad4 lg9 cp4));have HX3:=zb (hx.swap.below hb3);replace HAO:=zb (HAO.out.below hb3);have HM':=zb hm';have HF3:=zb (hx.swap.lt (Nat.le_refl _));have HF4:=zb (hx.lt (Nat.le_refl _));obtain⟨rb1,HRB1⟩:∃rb1,Hid (rb1=x2.heap.size):=⟨_,rfl⟩;obtain⟨rb2,HRB2⟩:∃rb2,Hid (rb2=x3.heap.size):=⟨_,rfl⟩;clear hx ht HX2 hm' hb3;go_wp2_with fail
     as_aux_lemma=>
      refine(HX3.out.world (by have:=HNB.out;have:=HN'.out;omega)).mono ?_;rintro e x4 ⟨v1,l1,rfl,hl1,hao1,hx4,hk4⟩;have HL1:=zb hl1;have HAO1:=zb hao1;have HX4:=zb hx4;have HGC:=zb (HX3.out.swap.lt (Nat.le_refl _)).1;replace HAO:=zb (zhi hk4 HAO.out HF1.out.1);replace HROW:=zb (zej hk4 HROW.out HGB.out);replace HROW2:=zb (zej hk4 HROW2.out HF3.out.1);clear hl1 hao1 hx4 hk4 HX3;go_wp2_with fail
      refine(HX4.out.swap.world (by have:=HNB.out;have:=HM'.out;omega)).mono ?_;rintro e x5 ⟨v2,l2,rfl,hl2,hao2,hx5,hk5⟩;obtain rfl:l1=l2:=HL1.out.unique hl2 ⟨fun _=>rfl,fun _=>rfl,fun _ _=>rfl⟩;have HX5:=zb hx5.swap;replace HAO:=zb (zhi hk5 HAO.out HF2.out.1);replace HAO1:=zb (zhi hk5 HAO1.out HGC.out);replace HROW:=zb (zej hk5 HROW.out HLT.out.1);replace HROW2:=zb (zej hk5 HROW2.out HF4.out.1);have HSAME:=zb (zii l1 l1 x5 HAO1.out.is hao2.is HAO1.out.len HAO1.out.len);clear hl2 hao2 hx5 hk5 HX4 HF1 HF2 HF3 HF4 HLT HGB HGC;go_wp2_with fail
      as_aux_lemma=>
       refine HSAME.out.mono ?_;rintro e x6 ⟨b,rfl,hbt,hb6⟩;obtain rfl:b=true:=by first|exact hbt rfl|exact hbt trivial
       have HX6:=zb (HX5.out.below hb6);replace HAO:=zb (HAO.out.below hb6);replace HAO1:=zb (HAO1.out.below hb6);replace HROW:=zb (zg HROW.out hb6);replace HROW2:=zb (zg HROW2.out hb6);have HSAME2:=zb (zii l1 l0 x6 HAO1.out.is HAO.out.is HAO1.out.len HAO.out.len);clear hbt hb6 HX5 HSAME;go_wp2_with fail
       refine HSAME2.out.mono ?_;rintro e x7 ⟨b7,rfl,hbt,hb7⟩;have HX7:=zb (HX6.out.below hb7);replace HAO:=zb (HAO.out.below hb7);replace HAO1:=zb (HAO1.out.below hb7);replace HROW:=zb (zg HROW.out hb7);replace HROW2:=zb (zg HROW2.out hb7);have HBT:=zb hbt;clear hbt hb7 HX6 HSAME2
       as_aux_lemma=>
        obtain⟨p0,p1,p2,p3⟩:=zbW HROW.out;obtain⟨s0,s1,s2,s3⟩:=zbW HROW2.out;go_wp2_with fail
        clear p0 p1 p2 p3 s0 s1 s2 s3
        as_aux_lemma=>
         refine(zfv l1 x7 HAO1.out.is HAO1.out.len.1).mono ?_;rintro e x8 ⟨r1,HR1,rfl,hb8⟩;have HX8:=zb (HX7.out.below hb8);replace HAO:=zb (HAO.out.below hb8);replace HAO1:=zb (HAO1.out.below hb8);replace HROW:=zb (zg HROW.out hb8);clear HROW2 hb8 HX7;go_wp2_with fail
         refine(zfv l0 x8 HAO.out.is HAO.out.len.1).mono ?_;rintro e x9 ⟨r2,HR2,rfl,hb9⟩;have HX9:=zb (HX8.out.below hb9);replace HAO:=zb (HAO.out.below hb9);replace HAO1:=zb (HAO1.out.below hb9);replace HROW:=zb (zg HROW.out hb9)
         have he1:∀w,(Op.equalIn 10000 24 (wv r1) (wv r2)).run prog w=.ok true w:=fun w=>by
          have h9:eqw r1 r2=true:=decide_eq_true (by rw[HR1.out,HR2.out];exact zmp HSG.out.mo HL0.out HL1.out);rw[zaL,h9]
         clear hb9 HX8 HR1 HR2
         as_aux_lemma=>
          go_upto_region 21 with fail
          clear he1;obtain⟨rb,HRB⟩:∃rb,Hid (rb=x2.heap.size):=⟨_,rfl⟩;rw[<-HRB.out] at HROW;obtain⟨rc,HRC⟩:∃rc,Hid (rc=x3.heap.size):=⟨_,rfl⟩;have e1:=HRB.out.symm;have e2:=HRC.out.symm;generalize x2.heap.size=rb9 at*;generalize x3.heap.size=rc9 at*;subst e1 e2;clear HRB HRC;obtain⟨p0,p1,p2,p3⟩:=zbW HROW.out
          as_aux_lemma=>
           go_cut [166] from 70 to 249 (fun c wx=>c=.bool false/\wx=x9)
           case first=>
            by_cases hE:er=0
            ·subst hE;by_cases hS:st=0
             ·subst hS
              as_aux_lemma=>
               go_wp2
               go_meet
               case rel=>exact⟨rfl,rfl⟩
             ·have q3:((st:Int) !=0)=true:=bne_iff_ne.2 (by omega);obtain⟨hq,rfl⟩:=HSG.out.un (Or.inr hS);obtain rfl:b7=true:=HBT.out (HL0.out.unique HL1.out hq).symm;clear hS hq
              as_aux_lemma=>
               go_wp2
               go_meet
               case rel=>exact⟨rfl,rfl⟩
            ·have q1:(er !=0)=true:=bne_iff_ne.2 hE;obtain⟨hq,rfl⟩:=HSG.out.un (Or.inl hE);obtain rfl:b7=true:=HBT.out (HL0.out.unique HL1.out hq).symm;clear hE hq
             as_aux_lemma=>
              go_wp2
              go_meet
              case rel=>exact⟨rfl,rfl⟩
           case rest=>
            obtain⟨rfl,rfl⟩:=hcut
            as_aux_lemma=>
             go_upto_region 23 with fail
             obtain⟨x10,rfl⟩:∃x10,x10=wc:=⟨_,rfl⟩;have q13:x10.cell? ⟨mg,mo+i*14+13,none⟩=some (.int .i64 gas):=(HX9.out.be.cell HML.out).trans (HMC.out 13 (by omega))
             as_aux_lemma=>
              go_cut [198] from 70 to 249 (fun c wy=>c=.bool false/\Hid (Below x10.heap.size x10 wy))
              case first=>
               by_cases hE:er=0
               ·subst hE;have g1:decide ((gs:Int)<0)=false:=decide_eq_false (by omega);have g2:decide (gas<(gs:Int))=false:=decide_eq_false (by have:=HSG.out.gas rfl;dsimp only at this;omega);by_cases hS:st=2
                ·subst hS;obtain⟨e3,e4⟩:=HSG.out.fail rfl rfl;dsimp only at e3 e4;subst e3 e4;replace p0:x10.cell? ⟨rb9,0,none⟩=some (.int .u8 2):=p0;replace p1:x10.cell? ⟨rb9,1,none⟩=some (.int .i64 0):=p1;replace g2:decide (gas<0)=false:=g2;clear g1
                 as_aux_lemma=>
                  go_quiet (fail)
                  go_wp2
                  go_meet
                  case rel=>exact⟨rfl,zL (Below.refl _ _) _⟩
                ·have q3:((st:Int)==2)=false:=by rw[beq_eq_false_iff_ne];omega
                 clear hS
                 as_aux_lemma=>
                  go_quiet (fail)
                  go_wp2
                  go_meet
                  case rel=>exact⟨rfl,zL (Below.refl _ _) _⟩
               ·have q1:(er==0)=false:=by rw[beq_eq_false_iff_ne];exact hE
                clear hE
                as_aux_lemma=>
                 go_quiet (fail)
                 go_wp2
                 go_meet
                 case rel=>exact⟨rfl,zL (Below.refl _ _) _⟩
              case rest=>
               obtain⟨rfl,HBY⟩:=hcut;obtain⟨x11,rfl⟩:∃x11,x11=wc:=⟨_,rfl⟩;have HX11:=zb (HX9.out.below HBY.out);replace HAO:=zb (HAO.out.below HBY.out);replace HAO1:=zb (HAO1.out.below HBY.out);have HCD:=zb (code_ok HL0.out HL1.out HSG.out.code);have HL:=zb (And.intro HAO.out.len.1 HAO1.out.len.1);have HKI:Hid (KpI w gb ab gc ac (40+3400010*(i+1+1)) x11):=zb ⟨B9,n',sb',m',sc',Nat.le_trans HN'.out HNB.out.2.2.1,Nat.le_trans HM'.out HNB.out.2.2.2,HX11.out,HSG.out.good,HSG.out.congS⟩;obtain⟨a0,c0,rfl,hin0⟩:=HAO.out.is;obtain⟨a1,c1,rfl,hin1⟩:=HAO1.out.is;obtain⟨L0,HL0N⟩:∃L0,Hid (L0=l0.length):=⟨_,rfl⟩;obtain⟨L1,HL1N⟩:∃L1,Hid (L1=l1.length):=⟨_,rfl⟩;rw[<-HL0N.out,<-HL1N.out] at HL⊢;have hl0:=HL.out.1;have hl1:=HL.out.2;have HIN0:=zb hin0;have HIN1:=zb hin1;clear hin0 hin1 HAO HAO1 HX11 HX9 HROW HBY HSG HBT HL0 HL1 HNB HN' HM' p0 p1 p2 p3 q13 HL HMC HML HR HGA
               as_aux_lemma=>
                go_wp2
                go_loopw [21] (fun t21 wr=>∃k:Nat,k<=L1/\t21=.int .i64 (k:Int)/\Hid (Below x11.heap.size x11 wr)) (fun t21 _=>L1 - (RowKit.intOf t21).toNat)
                case atStart=>exact⟨0,Nat.zero_le _,rfl,Below.refl _ _⟩
                case round=>
                 obtain⟨k,hk,rfl,HB⟩:=hrel;obtain⟨wo,rfl⟩:∃wo,wo=wr:=⟨_,rfl⟩;by_cases hkt:k<L1
                 case neg=>
                  have hd3:decide ((k:Int)<(L1:Int))=false:=decide_eq_false (by omega)
                  have HKI2:Hid (KpI w gb ab gc ac (40+3400010*(i+1+1)) wo):=by
                   obtain⟨A,n,sb,m,sc,h1,h2,h3,h4⟩:=HKI.out;exact⟨A,n,sb,m,sc,h1,h2,h3.below HB.out,h4⟩
                  clear HKI;go_wp2;exact⟨⟨i+1,by omega,by go_num,HKI2.out⟩,by simp[RowKit.intOf];omega⟩
                 have hd3:decide ((k:Int)<(L1:Int))=true:=decide_eq_true (by omega);have hkl:k<l1.length:=by rw[<-HL1N.out];exact hkt
                 obtain⟨g1,o1,rfl,hgl1,hcell1⟩:=HIN1.out.resolve_left (fun e=>by rw[e] at hkl;exact absurd hkl (by simp));obtain⟨a,HAE⟩:∃a,Hid (a=l1[k]):=⟨l1[k],zb rfl⟩;obtain⟨sl1,hc1,_⟩:=hcell1 k l1[k] (List.getElem?_eq_getElem hkl);have hcd:=HCD.out k l1[k] (List.getElem?_eq_getElem hkl);rw[<-HAE.out] at hc1 hcd;obtain⟨k9,bl9,cd9,ss⟩:=a;dsimp only at hc1 hcd
                 have HC1:Hid (∀j,j<4->x11.cell? ⟨g1,o1+k*10+j,none⟩=some (.int .u64 (za k9 j))):=fun j hj=>by
                  rcases(show j=0\/j=1\/j=2\/j=3 by omega) with rfl|rfl|rfl|rfl<;>exact hc1 _ (by omega)
                 have HC8:Hid (x11.cell? ⟨g1,o1+k*10+8,none⟩=some (.string cd9)):=hc1 8 (by omega);have HGL1:=zb hgl1;have HCD1:=zb hcd;clear hc1 hcell1 hgl1 hcd HAE
                 as_aux_lemma=>
                  go_wp2
                  go_loopw [22,23] (fun t22 t23 wr=>∃(j:Nat) (at9:Int),j<=L0/\t23=.int .i64 (j:Int)/\t22=.int .i64 at9/\Hid (at9= -1/\(∀(q:Nat) b,q<j->l0[q]? =some b->b.at'≠k9)\/∃q:Nat,q<L0/\at9=(q:Int)/\∃b,l0[q]? =some b/\b.at'=k9)/\Hid (Below x11.heap.size x11 wr)) (fun t22 t23 _=>L0 - (RowKit.intOf t23).toNat)
                  case atStart=>exact⟨0, -1,Nat.zero_le _,rfl,rfl,Or.inl ⟨rfl,fun q b hq=>absurd hq (Nat.not_lt_zero _)⟩,HB.out⟩
                  case round=>
                   obtain⟨j,at9,hj,rfl,rfl,HAT,HB2⟩:=hrel;clear HB;by_cases hjt:j<L0
                   case neg=>
                    have hd4:decide ((j:Int)<(L0:Int))=false:=decide_eq_false (by omega);have c8:wr.cell? ⟨g1,o1+k*10+8,none⟩=some (.string cd9):=(HB2.out.cell HGL1.out).trans HC8.out;rcases HAT.out with⟨rfl,hno⟩|⟨q,hq,rfl,b,hb,hbk⟩
                    ·have hem:cd9=⟨#[]⟩:=HCD1.out.2.2 (fun q b hb=>hno q b (by have:=(List.getElem?_eq_some_iff.1 hb).1;rw[HL0N.out] at hjt;omega) hb);subst hem;clear hno HAT
                     as_aux_lemma=>
                      go_wp2
                      go_quiet (fail)
                      as_aux_lemma=>
                       go_wp2;exact⟨⟨k+1,by omega,by go_num,zL HB2.out _⟩,by simp[RowKit.intOf];omega⟩
                    ·have hql:q<l0.length:=(List.getElem?_eq_some_iff.1 hb).1;obtain⟨g0,o0,rfl,hgl0,hcell0⟩:=HIN0.out.resolve_left (fun e=>by rw[e] at hql;exact absurd hql (by simp));obtain⟨sl0,hc0,_⟩:=hcell0 q b hb;have hcq:b.code=cd9:=(HCD1.out.2.1 q b hb).2 hbk;have d8:wr.cell? ⟨g0,o0+q*10+8,none⟩=some (.string cd9):=(HB2.out.cell hgl0).trans ((hc0 8 (by omega)).trans (by rw[hcq];rfl));have n1:decide ((q:Int)<0)=false:=decide_eq_false (by omega);have n2:decide (0<=(q:Int))=true:=decide_eq_true (by omega);clear hb hbk hcell0 hc0 hgl0 hcq HAT hql
                     as_aux_lemma=>
                      go_wp2
                      go_quiet (fail)
                      as_aux_lemma=>
                       go_wp2;exact⟨⟨k+1,by omega,by go_num,zL HB2.out _⟩,by simp[RowKit.intOf];omega⟩
                   have hd4:decide ((j:Int)<(L0:Int))=true:=decide_eq_true (by omega);have hjl:j<l0.length:=by rw[<-HL0N.out];exact hjt
                   obtain⟨g0,o0,rfl,hgl0,hcell0⟩:=HIN0.out.resolve_left (fun e=>by rw[e] at hjl;exact absurd hjl (by simp));obtain⟨a,HAE⟩:∃a,Hid (a=l0[j]):=⟨l0[j],zb rfl⟩;obtain⟨sl0,hc0,_⟩:=hcell0 j l0[j] (List.getElem?_eq_getElem hjl);rw[<-HAE.out] at hc0;have hcm:=(HCD1.out.2.1 j l0[j] (List.getElem?_eq_getElem hjl)).1;rw[<-HAE.out] at hcm;have hja:l0[j]? =some a:=by rw[List.getElem?_eq_getElem hjl,HAE.out]
                   obtain⟨kb,blb,cdb,ssb⟩:=a;dsimp only at hc0 hcm;have e0:wr.cell? ⟨g1,o1+k*10,none⟩=some (.int .u64 (za k9 0)):=(HB2.out.cell HGL1.out).trans (HC1.out 0 (by omega));have e1:wr.cell? ⟨g1,o1+k*10+1,none⟩=some (.int .u64 (za k9 1)):=(HB2.out.cell HGL1.out).trans (HC1.out 1 (by omega));have e2:wr.cell? ⟨g1,o1+k*10+2,none⟩=some (.int .u64 (za k9 2)):=(HB2.out.cell HGL1.out).trans (HC1.out 2 (by omega));have e3:wr.cell? ⟨g1,o1+k*10+3,none⟩=some (.int .u64 (za k9 3)):=(HB2.out.cell HGL1.out).trans (HC1.out 3 (by omega));have f0:wr.cell? ⟨g0,o0+j*10,none⟩=some (.int .u64 (za kb 0)):=(HB2.out.cell hgl0).trans (hc0 0 (by omega));have f1:wr.cell? ⟨g0,o0+j*10+1,none⟩=some (.int .u64 (za kb 1)):=(HB2.out.cell hgl0).trans (hc0 1 (by omega));have f2:wr.cell? ⟨g0,o0+j*10+2,none⟩=some (.int .u64 (za kb 2)):=(HB2.out.cell hgl0).trans (hc0 2 (by omega));have f3:wr.cell? ⟨g0,o0+j*10+3,none⟩=some (.int .u64 (za kb 3)):=(HB2.out.cell hgl0).trans (hc0 3 (by omega));obtain⟨bE,hbE⟩:∃bE,eqw kb k9=bE:=⟨_,rfl⟩;have he:∀w,(Op.equalIn 10000 24 (wv kb) (wv k9)).run prog w=.ok bE w:=fun w=>by rw[zaL,hbE]
                   have HEQ:Hid (bE=true↔kb=k9):=zb (by
                    rw[<-hbE];refine⟨fun h=> ?_,fun h=>zaA h⟩;by_cases e:kb=k9
                    ·exact e
                    ·rw[zgr hcm HCD1.out.1 e] at h;cases h)
                   have HJA:=zb hja;clear hcell0 hc0 hgl0 hcm hja hbE HAE;cases bE
                   case false=>
                    as_aux_lemma=>
                     go_wp2
                     go_quiet (fail)
                     as_aux_lemma=>
                      go_wp2;refine⟨⟨j+1,at9,by omega,by go_num,rfl, ?_,zL HB2.out _⟩,by simp[RowKit.intOf];omega⟩;refine HAT.out.imp (fun h=>⟨h.1,fun q b hq hb=> ?_⟩) id;by_cases e:q=j
                      ·subst e;obtain rfl:=Option.some.inj (hb.symm.trans HJA.out);exact fun e=>Bool.false_ne_true (HEQ.out.2 e)
                      ·exact h.2 q b (by omega) hb
                   have HKK:Hid (kb=k9):=HEQ.out.1 rfl;clear HEQ
                   as_aux_lemma=>
                    go_wp2
                    go_quiet (fail)
                    as_aux_lemma=>
                     go_wp2;exact⟨⟨j+1,(j:Int),by omega,by go_num,rfl,Or.inr ⟨j,hjt,rfl,_,HJA.out,HKK.out⟩,zL HB2.out _⟩,by simp[RowKit.intOf];omega⟩
end
section
open Go.ChangeShapes Go.WideShapes Go.ChangeAt Go.RowKit
theorem own:ownKnob prog.godebug=none:=by kernel_rfl
theorem zk7:laidOutB prog=true:=by kernel_rfl
theorem zep:prog.cellsOf 24=4:=by kernel_rfl
theorem zev:prog.cellsOf 22=1:=by kernel_rfl
theorem zki (x0 x1 x2 x3:Nat) (h0:x0<18446744073709551616) (h1:x1<18446744073709551616) (h2:x2<18446744073709551616) (h3:x3<18446744073709551616):
  ∃n,wv n=.agg #[.int .u64 (x0:Int),.int .u64 (x1:Int),.int .u64 (x2:Int),.int .u64 (x3:Int)]:=by
 refine⟨x0+18446744073709551616*(x1+18446744073709551616*(x2+18446744073709551616*x3)), ?_⟩;have e0:za (x0+18446744073709551616*(x1+18446744073709551616*(x2+18446744073709551616*x3))) 0=(x0:Int):=by unfold za;rw[pw0];omega
 have e1:za (x0+18446744073709551616*(x1+18446744073709551616*(x2+18446744073709551616*x3))) 1=(x1:Int):=by unfold za;rw[pw1];omega
 have e2:za (x0+18446744073709551616*(x1+18446744073709551616*(x2+18446744073709551616*x3))) 2=(x2:Int):=by unfold za;rw[pw2];omega
 have e3:za (x0+18446744073709551616*(x1+18446744073709551616*(x2+18446744073709551616*x3))) 3=(x3:Int):=by unfold za;rw[pw3];omega
 unfold wv;rw[e0,e1,e2,e3]
theorem zeg {x:Int} (h:(Lit.int .u64 x).wf=true):∃n:Nat,x=(n:Int)/\n<18446744073709551616:=by
 have hb:=bounds_u64 h;exact⟨x.toNat,by omega,by omega⟩
end
section
open Go.ChangeShapes Go.WideShapes Go.ChangeAt Go.RowKit
theorem zeroG:prog.globalNamed "cinder/host.zero"=some 0:=by kernel_rfl
theorem zeroT:(prog.globals[0]?).map (·.type)=some 24:=by kernel_rfl
theorem zku {W:World} {fuel:Nat} {cs:Array Value} {p:List MemPlace} (hd:DataW.trod (fun _=>()) prog W 0 (fun _=>true) false fuel 24 cs.toList=some (Rows.laid_cinder_host_zero,p)):cs=#[.int .u64 0,.int .u64 0,.int .u64 0,.int .u64 0]:=by
 obtain⟨l⟩:=cs;cases fuel with
 |zero=>simp[DataW.trod] at hd
 |succ fuel=>
  simp only[DataW.trod,underlying24,zep,zev] at hd;split at hd
  ·rename_i hl
   obtain⟨c0,c1,c2,c3,rfl⟩:∃c0 c1 c2 c3,l=[c0,c1,c2,c3]:=by
    match l,hl with
    |[a,b,c,d],_=>exact⟨a,b,c,d,rfl⟩
   have e:List.range 4=[0,1,2,3]:=rfl;rw[e] at hd;simp only[Option.map_eq_some_iff,List.mapM_cons,List.mapM_nil,Option.bind_eq_bind,Option.bind_eq_some_iff,Option.pure_def,Option.some.injEq] at hd;obtain⟨xs,⟨y0,h0,_,⟨y1,h1,_,⟨y2,h2,_,⟨y3,h3,_,rfl,rfl⟩,rfl⟩,rfl⟩,rfl⟩,hx⟩:=hd;obtain⟨x0,e0,rfl,w0⟩:=DataW.trod_int underlying22 h0;obtain⟨x1,e1,rfl,w1⟩:=DataW.trod_int underlying22 h1;obtain⟨x2,e2,rfl,w2⟩:=DataW.trod_int underlying22 h2;obtain⟨x3,e3,rfl,w3⟩:=DataW.trod_int underlying22 h3;simp at e0 e1 e2 e3;subst e0 e1 e2 e3;simp[Rows.laid_cinder_host_zero] at hx;obtain⟨⟨rfl,rfl,rfl,rfl⟩,_⟩:=hx;rfl
  ·cases hd
theorem zlT {W:World} {cs:Array Value} (hvar:W.var? prog "cinder/host.zero"=some cs) (hc:cs=#[.int .u64 0,.int .u64 0,.int .u64 0,.int .u64 0]):Zr W:=by
 subst hc;unfold World.var? at hvar;rw[zeroG] at hvar;simp only[Option.bind_some] at hvar;split at hvar
 ·rename_i cs t z hb;obtain rfl:=Option.some.inj hvar;refine⟨⟨?_, ?_, ?_, ?_⟩,(Array.getElem?_eq_some_iff.1 hb).1⟩<;>simp[World.cell?,hb]
 ·cases hvar
theorem zi3 {W:World} (h:laidMet prog Rows.keepsRow.laid W):Zr W:=by
 obtain⟨ps,hlv, -, -⟩:=h;have hlv:DataW.LaidVars prog W [("cinder/host.zero",Rows.laid_cinder_host_zero)] ps:=hlv;obtain⟨g,t,cs,fuel,p,q,hg,ht,hvar,hd,_,_⟩:=hlv;obtain rfl:=Option.some.inj (zeroG.symm.trans hg);obtain rfl:=Option.some.inj (zeroT.symm.trans ht);exact zlT hvar (zku hd)
theorem zdm {H:Type} {enc:TypeId×Value->H} {W:World} {b0:Nat} {sp:Nat->Bool} {held:Bool} {fuel:Nat} {c0 c1 c2 c3:Value} {x:DataW H×List MemPlace} (h:DataW.trod enc prog W b0 sp held fuel 24 [c0,c1,c2,c3]=some x):∃n,c0=.int .u64 (za n 0)/\c1=.int .u64 (za n 1)/\c2=.int .u64 (za n 2)/\c3=.int .u64 (za n 3):=by
 obtain⟨y0,y1,y2,y3,m,hx,hy0,hy1,hy2,hy3⟩:=trod_array4 underlying24 zev h;obtain⟨x0,e0,rfl,w0⟩:=DataW.trod_int underlying22 hy0;obtain⟨x1,e1,rfl,w1⟩:=DataW.trod_int underlying22 hy1;obtain⟨x2,e2,rfl,w2⟩:=DataW.trod_int underlying22 hy2;obtain⟨x3,e3,rfl,w3⟩:=DataW.trod_int underlying22 hy3;simp at e0 e1 e2 e3;subst e0 e1 e2 e3;obtain⟨n0,rfl,l0⟩:=zeg w0;obtain⟨n1,rfl,l1⟩:=zeg w1;obtain⟨n2,rfl,l2⟩:=zeg w2;obtain⟨n3,rfl,l3⟩:=zeg w3;obtain⟨n,hn⟩:=zki n0 n1 n2 n3 l0 l1 l2 l3;unfold wv at hn;injection hn with hn
 have e:=congrArg Array.toList hn;simp only[List.cons.injEq,and_true] at e;exact⟨n,e.1.symm,e.2.1.symm,e.2.2.1.symm,e.2.2.2.symm⟩
theorem und_msg:prog.underlying 43=some (.struct (prog.fieldsOf 43)):=by kernel_rfl
theorem ziw:prog.underlying 71=some (.slice 43):=by kernel_rfl
theorem zgu:prog.cellsOf 43=14:=by kernel_rfl
theorem zeC:prog.cellsOf 9=1:=by kernel_rfl
theorem zkk:prog.cellsOf 3=1:=by kernel_rfl
theorem ziE:prog.underlying 9=some .string:=by kernel_rfl
theorem zcI (i t o:Nat) {fs:Array Field} (h:(fs[i]?).map (fun f=>(f.type,f.offset))=some (t,o)) {H:Type} {n:Nat} {enc:TypeId×Value->H} {W:World} {b0:Nat} {sp:Nat->Bool} {held:Bool} {cs:List Value} {xs:List (DataW H×List MemPlace)} (hf:∀(i:Nat) (f:Field),fs[i]? =some f->DataW.trod enc prog W b0 sp held n f.type ((cs.drop f.offset).take (prog.cellsOf f.type))=xs[i]?):DataW.trod enc prog W b0 sp held n t ((cs.drop o).take (prog.cellsOf t))=xs[i]? :=by
 obtain⟨f,h1,h2⟩:=Option.map_eq_some_iff.1 h;obtain⟨rfl,rfl⟩:=Prod.mk.inj h2;exact hf i f h1
theorem znq {H:Type} (d:DataW H):1<=Rows.uptoBulk d:=by
 cases d with
 |lit l=>cases l<;>simp[Rows.uptoBulk]
 |nil=>simp[Rows.uptoBulk]
 |ptr d=>simp[Rows.uptoBulk]
 |slice elems spare=>simp[Rows.uptoBulk]
 |agg parts=>simp[Rows.uptoBulk]
 |iface t d=>simp[Rows.uptoBulk]
 |map entries=>simp[Rows.uptoBulk]
 |held h=>simp[Rows.uptoBulk]
theorem zfg {H:Type} (c:Nat):∀(l:List (DataW H)),(∀d∈l,c<=Rows.uptoBulk d)->c*l.length<=Rows.uptoBulkAll l
 |[],_=>by simp
 |d::r,h=>by
  have h1:=h d List.mem_cons_self;have h2:=zfg c r (fun d hd=>h d (List.mem_cons_of_mem _ hd));simp only[Rows.uptoBulkAll,List.length_cons];rw[Nat.mul_add];omega
theorem zoS {H:Type} {enc:TypeId×Value->H} {W:World} {b0:Nat} {sp:Nat->Bool} {held:Bool} {fuel:Nat} {cs:List Value} {x:DataW H×List MemPlace} (h:DataW.trod enc prog W b0 sp held fuel 43 cs=some x):(∃m:MsgE,cs=msgL m)/\6<=Rows.uptoBulk x.1:=by
 obtain⟨xs,n,hn,hx,hl,hxl,hf⟩:=DataW.trod_struct und_msg h;have hxl:xs.length=5:=hxl.trans (by kernel_rfl);rw[zgu] at hl;constructor
 ·match cs,hl with
  |[c0,c1,c2,c3,c4,c5,c6,c7,c8,c9,c10,c11,c12,c13],_=>
   have g0:=zcI 0 24 0 (by kernel_rfl) hf;have g1:=zcI 1 24 4 (by kernel_rfl) hf;have g2:=zcI 2 24 8 (by kernel_rfl) hf;have g3:=zcI 3 9 12 (by kernel_rfl) hf;have g4:=zcI 4 3 13 (by kernel_rfl) hf;rw[zep] at g0 g1 g2;rw[zeC] at g3;rw[zkk] at g4;rw[List.getElem?_eq_getElem (by omega)] at g0 g1 g2 g3 g4;obtain⟨fr,rfl,rfl,rfl,rfl⟩:=zdm (show DataW.trod enc prog W b0 sp held n 24 [c0,c1,c2,c3]=_ from g0);obtain⟨tt,rfl,rfl,rfl,rfl⟩:=zdm (show DataW.trod enc prog W b0 sp held n 24 [c4,c5,c6,c7]=_ from g1);obtain⟨vl,rfl,rfl,rfl,rfl⟩:=zdm (show DataW.trod enc prog W b0 sp held n 24 [c8,c9,c10,c11]=_ from g2);obtain⟨s,e3,_⟩:=DataW.trod_string ziE (show DataW.trod enc prog W b0 sp held n 9 [c12]=_ from g3);obtain⟨k,e4,_⟩:=DataW.trod_int underlying3 (show DataW.trod enc prog W b0 sp held n 3 [c13]=_ from g4);obtain rfl:c12=.string s:=by simpa using e3
   obtain rfl:c13=.int .i64 k:=by simpa using e4
   exact⟨⟨fr,tt,vl,s,k⟩,rfl⟩
 ·rw[hx];show 6<=Rows.uptoBulkAll (xs.map (·.1))+1;have:=zfg 1 (xs.map (·.1)) (fun d _=>znq d);rw[List.length_map,hxl] at this;omega
theorem zlw {x:World} {a:Addr} {v:Value} (h:x.cell? a=some v):a.block<x.heap.size:=by
 unfold World.cell? at h;split at h
 ·rename_i hb;exact(Array.getElem?_eq_some_iff.1 hb).1
 ·cases h
theorem zmx {H:Type} {enc:TypeId×Value->H} {W:World} {base:Nat} {v:Value} {d:DataW H} {p:List MemPlace} (hv:Value.okWide prog W .any base 71 v) (h:DataW.Trod enc prog W 0 (fun _=>true) true 71 v d p):∃ms,MsIn W v ms/\6*ms.length<=Rows.uptoBulk d:=by
 obtain⟨a0,len0,cap0,rfl⟩:=okWide_slice ziw hv;obtain⟨fuel,hf⟩:=h;rcases Go.Deep.open_slice ziw hf with⟨hcs,_⟩|⟨a,len,cap,m,n,D,Pl,hcs,_,hl,hm,hmm,hx,hcell⟩
 ·rw[show Value.slice a0 len0 cap0=.slice none 0 0 from(List.cons.inj hcs).1];exact⟨[],⟨none,0,rfl,Or.inl rfl⟩,by simp⟩
 ·rw[show Value.slice a0 len0 cap0=.slice (some a) len cap from(List.cons.inj hcs).1];have hlm:len<=m:=by rw[hmm];split<;>omega
  have each:∀i,i<len->∃q:MsgE,(∀j,j<14->W.cell? (a.add (i*14+j))=some ((msgL q)[j]!))/\6<=Rows.uptoBulk (D i):=fun i hi=>by
   obtain⟨cs,h1,h2⟩:=hcell i (by omega);obtain⟨⟨q,rfl⟩,h3⟩:=zoS h2;refine⟨q,fun j hj=> ?_,h3⟩;rw[zgu] at h1;have h4:=(World.cells?_some h1).2.2 j hj;rw[Go.Deep.add_add] at h4;rw[h4,List.getElem!_eq_getElem?_getD,List.getElem?_eq_getElem (show j<(msgL q).length from hj)];rfl
  have:Inhabited MsgE:=⟨⟨0,0,0,⟨#[]⟩,0⟩⟩;obtain⟨f,hf⟩:=Go.Deep.choose_lt each;have hlen:((List.range len).map f).length=len:=by simp
  refine⟨(List.range len).map f,⟨some a,cap,by rw[hlen], ?_⟩, ?_⟩
  ·by_cases h0:len=0
   ·subst h0;exact Or.inl rfl
   ·have hc0:=(hf 0 (by omega)).1 0 (by omega);have e0:a.add (0*14+0)=a:=by simp[Addr.add]
    rw[e0] at hc0;have hb:=zlw hc0;have hs:=World.cell?_spot hc0;obtain⟨g,o,sp⟩:=a;obtain rfl:sp=none:=hs;refine Or.inr ⟨g,o,rfl,hb,fun i m hm j hj=> ?_⟩;have hi:i<len:=by rw[<-hlen];exact(List.getElem?_eq_some_iff.1 hm).1
    rw[List.getElem?_map,List.getElem?_range hi] at hm;obtain rfl:=Option.some.inj hm;have e:(⟨g,o,none⟩:Addr).add (i*14+j)=⟨g,o+i*14+j,none⟩:=by simp[Addr.add,eq_comm,Nat.add_assoc]
    have h9:=(hf i hi).1 j hj;rw[e] at h9;exact h9
  ·rw[hlen];rw[show d=.slice ((List.range len).map D) ((List.range (m - len)).map fun j=>D (len+j)) from(Prod.mk.inj hx).1];show _<=Rows.uptoBulkAll _+Rows.uptoBulkAll _+1
   have:=zfg 6 ((List.range len).map D) (fun d hd=>by
    obtain⟨i,hi,rfl⟩:=List.mem_map.1 hd;exact(hf i (List.mem_range.1 hi)).2)
   rw[List.length_map,List.length_range] at this;omega
end
end cin
end Go.Proofs.YtohoajjdoihekaaGreatDoor
