import Derived.Test.YtohoajjdoihekaaGreatDoorTg
import Derived.Deep.DeepCutAuto
import Derived.Laws.BytesArg
import Derived.Laws.ShiftsVarLaws
import Derived.Laws.CopyRow
import Derived.Laws.CopyOwn
set_option linter.unusedVariables false
set_option linter.unusedSimpArgs false
namespace Go.Proofs.YtohoajjdoihekaaGreatDoor
namespace cin
open Go.RowKit Go.Proofs.Tryz Tryz
set_option maxRecDepth 100000
set_option maxHeartbeats 8000000
section
open Go.RowKit Go.Lib
structure IT (w:World) (t:ByteArray) (z b k p n:Nat) (x:World):Prop where
 it:x.heap[k]? =some (.stringIter t p)
 rz:x.rowIs z 24 4 (zj fun _=>0)
 rn:x.rowIs b 24 4 (zj (za n))
 hz:w.heap.size<=z
 hzb:z<b
 hbk:b<k
 be:Below w.heap.size w x
theorem IT.call {w:World} {t:ByteArray} {z b k p n:Nat} {x y:World} (h:IT w t z b k p n x) (hb:Below x.heap.size x y):IT w t z b k p n y:=
 ⟨by rw[hb.block k (Array.getElem?_eq_some_iff.1 h.it).1];exact h.it,zf h.rz hb,zf h.rn hb,h.hz,h.hzb,h.hbk,zD h.be hb⟩
theorem IT.next {w:World} {t:ByteArray} {z b k p n:Nat} {x:World} (h:IT w t z b k p n x) (q:Nat):IT w t z b k q n (x.iterAt k t q):=by
 have h1:=h.hz;have h2:=h.hzb;have h3:=h.hbk;exact⟨iterAt_heap x k t p q h.it,h.rz.of_block (iterAt_other x k z t q (by omega)),h.rn.of_block (iterAt_other x k b t q (by omega)),h1,h2,h3,below_iterAt h.be (by omega) t q⟩
theorem yN (x:World) (a:Addr) (v:Value) (k:Nat) (h:k≠a.block):(x.setCell a v).heap[k]? =x.heap[k]? :=Go.Deep.blk_setCell_other x a v k h
theorem IT.put {w:World} {t:ByteArray} {z b k p n:Nat} {x:World} (h:IT w t z b k p n x) (m:Nat):IT w t z b k p m ((((x.setCell ⟨b,0,none⟩ (.int .u64 (za m 0))).setCell ⟨b,1,none⟩ (.int .u64 (za m 1))).setCell ⟨b,2,none⟩ (.int .u64 (za m 2))).setCell ⟨b,3,none⟩ (.int .u64 (za m 3))):=by
 have h1:=h.hz;have h2:=h.hzb;have h3:=h.hbk;refine⟨?_,(((h.rz.setOther (by simp;omega) _).setOther (by simp;omega) _).setOther (by simp;omega) _).setOther (by simp;omega) _,zm h.rn (za m) rfl rfl rfl rfl,h1,h2,h3,zn h.be (by omega) _ _ _ _⟩;rw[yN _ _ _ _ (by simp;omega),yN _ _ _ _ (by simp;omega),yN _ _ _ _ (by simp;omega),yN _ _ _ _ (by simp;omega)];exact h.it
theorem zjq {t:ByteArray} {b:Nat} (h:num t b=none):rnum t b=(0,2):=by unfold rnum;rw[h]
theorem zkh {t:ByteArray} {b n:Nat} {g:Bool} (h:num t b=some (n,g)):rnum t b=if t.size=0 then(0,2) else if g then(0,4) else(n,0):=by unfold rnum;rw[h]
theorem zcv (s:ByteArray) (hs:s.size<=2000) (w:World):Calls prog 144 #[.string s] w fun e w'=>∃r:Nat,∃k:Int,Hid ((r,k)=ym s)/\e=.returned (.tuple #[wv r,.int .i64 k])/\Below w.heap.size w w':=by
 obtain⟨t,Ht⟩:∃t,Hid (t=Z5 s x0):=⟨_,rfl⟩;obtain⟨b,Hb⟩:∃b,Hid (b=zaU s):=⟨_,rfl⟩;obtain⟨q,Hq⟩:∃q,Hid (q=pf s x0):=⟨_,rfl⟩
 have hts:t.size<=2000:=by
  rw[Ht.out];unfold Z5;split
  ·rw[ByteArray.size_extract];omega
  ·exact hs
 have HB:Hid (b=if q then 16 else 10):=by show _=_;rw[Hb.out,Hq.out];rfl
 have HT0:Hid (q=false->t=s):=fun h=>by rw[Ht.out];unfold Z5;rw[<-Hq.out,h];rfl
 have HCP:Hid (∀w,Calls prog 142 #[.string s,.string ⟨#[48,120]⟩] w fun e w'=>e=.returned (.tuple #[.string t,.bool q])/\w'=w):=fun w=>by
  have h:=zav s x0 hs (by decide) w;rw[<-Ht.out,<-Hq.out] at h;exact h
 have hrz:=zh (w:=w) (n:=w.heap.size) (t:=24) (fun _=>0) rfl rfl rfl rfl rfl;have hbel:=bal (Below.refl _ w) (.cells #[.int .u64 0,.int .u64 0,.int .u64 0,.int .u64 0] 24);go_enter func144,ntmps144;go_wp2_with fail
 refine(HCP.out _).mono ?_;rintro e w' ⟨rfl,rfl⟩;go_upto_if 20 with fail
 go_cut [4,5] (fun t4 t5 wx=>t4=.string t/\t5=.int .u64 (b:Int)/\wx.rowIs w.heap.size 24 4 (zj fun _=>0)/\Below w.heap.size w wx/\wx.heap.size=w.heap.size+1)
 case first=>
  cases q
  ·have E1:Hid (t=s):=HT0.out rfl;have E2:Hid (b=10):=HB.out;clear HB HT0;go_wp2_with fail
   go_meet
   case rel=>exact⟨by rw[E1.out],by rw[E2.out];rfl,hrz,hbel,by simp⟩
  ·have E2:Hid (b=16):=HB.out;clear HB HT0;go_wp2_with fail
   go_meet
   case rel=>exact⟨rfl,by rw[E2.out];rfl,hrz,hbel,by simp⟩
 case rest=>
  clear hrz hbel;obtain⟨rfl,rfl,hrz,hbel,hsz⟩:=hcut;have HBL:Hid (b<=16/\10<=b):=by show _/\_;rw[HB.out];split<;>omega
  clear HB HT0 HCP
  have hit:IT w t w.heap.size (w.heap.size+1) (w.heap.size+1+1) 0 0 ((wc.alloc (.cells #[.int .u64 0,.int .u64 0,.int .u64 0,.int .u64 0] 24)).iter t 0):=by
   refine⟨?_,(hrz.alloc _).alloc _,(zh (za 0) hsz.symm (zl 0).symm (zl 1).symm (zl 2).symm (zl 3).symm).alloc _,Nat.le_refl _,by omega,by omega,bal (bal hbel _) _⟩;have h:=World.iter_heap (wc.alloc (.cells #[.int .u64 0,.int .u64 0,.int .u64 0,.int .u64 0] 24)) t 0;rw[<-hsz];simpa using h
  go_wp2
  go_loopw [9] (fun t9 wr=>∃(p f n:Nat) (g:Bool),t9=.bool g/\IT w t w.heap.size (w.heap.size+1) (w.heap.size+1+1) p n wr/\p<=t.size/\t.size<=p+f/\Hid (n<M)/\Hid (zax t b f p n g=num t b)) (fun _ wr=>t.size - wr.iterPos (w.heap.size+1+1))
  case atStart=>exact⟨0,t.size,0,false,rfl,hit,by omega,by omega,by show _<_;unfold M;omega,rfl⟩
  case round=>
   clear hit hrz hbel;obtain⟨p,f,n,g,rfl,hs2,hps,hf,HM,HC⟩:=hrel;have hpos:wr.iterPos (w.heap.size+1+1)=p:=by simp[World.iterPos,hs2.it]
   have HPOS:Hid (wr.iterPos (w.heap.size+1+1)=p):=hpos;clear hpos;by_cases hp:p<t.size
   ·have hnx:∀ty,(Instr.next (.pointer (some ⟨w.heap.size+1+1,0,none⟩)) true ty).run prog wr=_:=fun ty=>run_next_any_at wr (w.heap.size+1+1) t p ty hs2.it hp
    have hle:=decode_le t p;obtain⟨hd1,hd2⟩:=zhx t p;by_cases hdb:dgt (byt t p)<b
    ·have hwd:(Utf8.decode t p).2=1:=hd2 (by have:=HBL.out;omega);rw[hwd] at hnx;have HS:Hid (zax t b (f - 1) (p+1) ((n*b+dgt (byt t p))%M) (g||decide (M<=n*b+dgt (byt t p)))=num t b):=zlU hp hdb (by omega) HC.out;have HDG:Hid (∀w,Calls prog 200 #[.int .i32 ((Utf8.decode t p).1:Int)] w fun e w'=>e=.returned (.int .u64 (dgt (byt t p):Int))/\w'=w):=fun w=>by rw[<-hd1];exact zdO _ hle w
     have HD16:Hid (dgt (byt t p)<=16):=dgt_le _;clear hd1 hd2 hwd;generalize(Utf8.decode t p).1=r at*;generalize dgt (byt t p)=d at*;have hs3:=hs2.next (p+1);have hdd:decide ((b:Int)<=(d:Int))=false:=by simp;omega
     go_wp2_with fail
     refine(HDG.out _).mono ?_;rintro e w' ⟨rfl,rfl⟩;obtain⟨c0,c1,c2,c3⟩:=zb hs3.rn;have hb100:b<100:=by have:=HBL.out;omega
     have hd100:d<100:=by have:=HD16.out;omega
     have HT:Hid (b<100/\d<100):=⟨hb100,hd100⟩;clear hb100 hd100;go_wp2_with fail
     refine(zdu n b d HM HT.out.1 HT.out.2 _).mono ?_;rintro e w3 ⟨m,HMM,rfl,hb2⟩;have hs4:=hs3.call hb2;clear c0 c1 c2 c3 hb2 hs2;obtain⟨c0,c1,c2,c3⟩:=zb hs4.rn;have fz:=hs4.rn.frozen;obtain⟨ov,HO⟩:∃o,Hid (o=decide (M<=n*b+d)):=⟨_,rfl⟩;rw[<-HO.out];have HS2:Hid (zax t b (f - 1) (p+1) m (g||ov)=num t b):=by show _=_;rw[HMM.out,HO.out];exact HS.out
     have HM2:Hid (m<M):=by show _<_;rw[HMM.out];exact Nat.mod_lt _ Z4
     have hs5:=hs4.put m;have HPO2:Hid (((((w3.setCell ⟨w.heap.size+1,0,none⟩ (.int .u64 (za m 0))).setCell ⟨w.heap.size+1,1,none⟩ (.int .u64 (za m 1))).setCell ⟨w.heap.size+1,2,none⟩ (.int .u64 (za m 2))).setCell ⟨w.heap.size+1,3,none⟩ (.int .u64 (za m 3))).iterPos (w.heap.size+1+1)=p+1):=by show _=_;simp only[World.iterPos,hs5.it]
     clear hnx;cases g<;>cases ov
     all_goals go_wp2
     all_goals go_roundw
     all_goals first
      |exact⟨p+1,f - 1,m,_,rfl,hs5,by omega,by omega,HM2,HS2⟩
      |(rw[HPO2.out,HPOS.out];omega)
    ·have HR:Hid (num t b=none):=num_no hp hdb (by omega) HC.out;have HDG:Hid (∀w,Calls prog 200 #[.int .i32 ((Utf8.decode t p).1:Int)] w fun e w'=>e=.returned (.int .u64 (dgt (byt t p):Int))/\w'=w):=fun w=>by rw[<-hd1];exact zdO _ hle w
     clear hd1 hd2;have hs3:=hs2.next (p+(Utf8.decode t p).2);generalize(Utf8.decode t p).1=r at*;generalize(Utf8.decode t p).2=v at*;generalize dgt (byt t p)=d at*;have hdd:decide ((b:Int)<=(d:Int))=true:=by simp;omega
     go_wp2_with fail
     refine(HDG.out _).mono ?_;rintro e w' ⟨rfl,rfl⟩;obtain⟨c0,c1,c2,c3⟩:=zb hs3.rz;have fz:=hs3.rz.frozen;clear hnx;go_wp2;obtain⟨q0,q1,q2,q3⟩:=zb (zm hs3.rz (za 0) (zl 0).symm (zl 1).symm (zl 2).symm (zl 3).symm);refine bodyPost_ret (v:=.tuple #[wv 0,.int .i64 2]) (by simp[results,results144,go_sem,q0,q1,q2,q3]) rfl ⟨0,2, ?_,rfl,zn hs3.be (by omega) _ _ _ _⟩;show _=_;unfold ym;rw[<-Ht.out,<-Hb.out,zjq HR.out]
   ·have HR:Hid (ym s=if t.size=0 then(0,2) else if g then(0,4) else(n,0)):=by
     show _=_;unfold ym;rw[<-Ht.out,<-Hb.out];exact zkh (by rw[<-HC.out,zhf t b f p n g hp])
    have hnx:∀ty,(Instr.next (.pointer (some ⟨w.heap.size+1+1,0,none⟩)) true ty).run prog wr=_:=fun ty=>run_next_end_at wr (w.heap.size+1+1) t p ty hs2.it hp
    have hl:t.toList.isEmpty=decide (t.size=0):=by
     rw[Go.ByteArray.toList_eq,Bool.eq_iff_iff,decide_eq_true_eq,List.isEmpty_iff,<-List.length_eq_zero_iff];exact Iff.rfl
    obtain⟨c0,c1,c2,c3⟩:=zb hs2.rz;have fz:=hs2.rz.frozen;by_cases hz:t.size=0
    ·rw[if_pos hz] at HR;have he:t.toList.isEmpty=true:=by rw[hl,decide_eq_true hz]
     clear hl hz;go_wp2;obtain⟨q0,q1,q2,q3⟩:=zb (zm hs2.rz (za 0) (zl 0).symm (zl 1).symm (zl 2).symm (zl 3).symm);exact bodyPost_ret (v:=.tuple #[wv 0,.int .i64 2]) (by simp[results,results144,go_sem,q0,q1,q2,q3]) rfl ⟨0,2,HR.out.symm,rfl,zn hs2.be (by omega) _ _ _ _⟩
    ·rw[if_neg hz] at HR;have he:t.toList.isEmpty=false:=by rw[hl,decide_eq_false hz]
     clear hl hz;cases g
     ·have HR2:Hid (ym s=(n,0)):=HR.out;clear HR;obtain⟨d0,d1,d2,d3⟩:=zb hs2.rn;go_wp2;obtain⟨q0,q1,q2,q3⟩:=zb (zm hs2.rz (za n) rfl rfl rfl rfl);exact bodyPost_ret (v:=.tuple #[wv n,.int .i64 0]) (by simp[results,results144,go_sem,q0,q1,q2,q3]) rfl ⟨n,0,HR2.out.symm,rfl,zn hs2.be (by omega) _ _ _ _⟩
     ·have HR2:Hid (ym s=(0,4)):=HR.out;clear HR;go_wp2;obtain⟨q0,q1,q2,q3⟩:=zb (zm hs2.rz (za 0) (zl 0).symm (zl 1).symm (zl 2).symm (zl 3).symm);exact bodyPost_ret (v:=.tuple #[wv 0,.int .i64 4]) (by simp[results,results144,go_sem,q0,q1,q2,q3]) rfl ⟨0,4,HR2.out.symm,rfl,zn hs2.be (by omega) _ _ _ _⟩
end
section
variable {P:Program} {ops:Array Oper} {Q:Exit->Act->World->Prop}
def valo (s:Act):Option Nat->Value
 |some d=>s.tmps.getD d undef
 |none=>undef
def zgC:List (Option Nat×(Value->World->Prop))->List Value->List (Nat×Value)
 |(some d,_)::l,v::vs=>(d,v)::zgC l vs
 |(none,_)::l,_::vs=>zgC l vs
 |_,_=>[]
theorem zdd (s:Act):∀tab:List (Option Nat×(Value->World->Prop)),zgC tab (tab.map fun p=>valo s p.1)=(tab.filterMap Prod.fst).map fun d=>(d,s.tmps.getD d undef)
 |[]=>rfl
 |(some d,T)::l=>by
  show(d,_)::zgC l _=_;rw[zdd s l];rfl
 |(none,T)::l=>by
  show zgC l _=_;rw[zdd s l];rfl
theorem zdJ:∀(tab:List (Option Nat×(Value->World->Prop))),(tab.filterMap Prod.fst).Nodup->∀(i j d:Nat) (T T':Value->World->Prop),tab[i]? =some (some d,T)->tab[j]? =some (some d,T')->i=j
 |[],_,i,_,_,_,_,h,_=>by simp at h
 |p::l,hn,0,0,_,_,_,_,_=>rfl
 |p::l,hn,0,j+1,d,T,T',h,h'=>by
  obtain rfl:p=(some d,T):=by simpa using h
  exfalso;have hm:d∈l.filterMap Prod.fst:=List.mem_filterMap.2 ⟨(some d,T'),List.mem_of_getElem? (by simpa using h'),rfl⟩;have:(d::l.filterMap Prod.fst).Nodup:=hn;exact(List.nodup_cons.1 this).1 hm
 |p::l,hn,i+1,0,d,T,T',h,h'=>by
  obtain rfl:p=(some d,T'):=by simpa using h'
  exfalso;have hm:d∈l.filterMap Prod.fst:=List.mem_filterMap.2 ⟨(some d,T),List.mem_of_getElem? (by simpa using h),rfl⟩;have:(d::l.filterMap Prod.fst).Nodup:=hn;exact(List.nodup_cons.1 this).1 hm
 |p::l,hn,i+1,j+1,d,T,T',h,h'=>by
  have hn':(l.filterMap Prod.fst).Nodup:=by
   obtain⟨o,T0⟩:=p;cases o with
   |none=>exact hn
   |some d0=>exact(List.nodup_cons.1 (show(d0::l.filterMap Prod.fst).Nodup from hn)).2
  rw[zdJ l hn' i j d T T' (by simpa using h) (by simpa using h')]
theorem zcW {id:Nat} {a:Act} {w:World} (hm:P.follows .mixedOrders=true) (S:World->Prop) (R:Nat->World->World->Prop) (tab:List (Option Nat×(Value->World->Prop))) (hdown:zat ops=true)
  (hlen:tab.length=ops.size) (hnd:decide (tab.filterMap Prod.fst).Nodup=true) (hlt0:((tab.filterMap Prod.fst).all fun d=>decide (d<a.tmps.size))=true) (hS:S w.drew)
  (base:List (Nat×Value)) (hbase:∀p∈base,a.tmps.getD p.1 undef=p.2) (hapart:(base.all fun p=> !(tab.filterMap Prod.fst).contains p.1)=true)
  (hstab:∀(i j:Nat) (d:Option Nat) (T:Value->World->Prop),tab[j]? =some (d,T)->i≠j->∀v x x',S x->R i x x'->T v x->T v x')
  (hstep:∀(i:Nat) (o:Oper) (d:Option Nat) (T:Value->World->Prop),ops[i]? =some o->tab[i]? =some (d,T)->∀s x,S x->(∀p∈base,s.tmps.getD p.1 undef=p.2)->
   (∀e∈o.after,Region.binds .any e=true->∀(d':Option Nat) (T':Value->World->Prop),tab[e.on]? =some (d',T')->T' (valo s d') x)->
   (Region.wanted o (yielded ops s.tmps)=true/\∀K:Act->World->Prop,(∀v x',S x'->R i x x'->(d=none->v=undef)->T v x'->K (s.put d v) x')->Oper.wp P o s x K Q))
  (hdone:∀(vs:List Value) x,S x->vs.length=tab.length->(∀(i:Nat) (d:Option Nat) (T:Value->World->Prop),tab[i]? =some (d,T)->T (vs.getD i undef) x)->Q .normal (zL a (zgC tab vs)) x):(Code.region id ops true).wp P Q a w:=by
 have hnd:=of_decide_eq_true hnd;have hlt:∀d,d∈tab.filterMap Prod.fst->d<a.tmps.size:=fun d hd=>of_decide_eq_true (List.all_eq_true.1 hlt0 d hd)
 have hap:∀p∈base,p.1∉tab.filterMap Prod.fst:=fun p hp hm=>by
  have:=List.all_eq_true.1 hapart p hp;simp only[Bool.not_eq_true',List.contains_eq_mem,decide_eq_false_iff_not] at this;exact this hm
 refine zR hm (fun s x=>S x/\s.tmps.size=a.tmps.size/\s.defers=a.defers/\(∀k,k∉tab.filterMap Prod.fst->s.tmps.getD k undef=a.tmps.getD k undef))
  (fun i s x=>∀(d:Option Nat) (T:Value->World->Prop),tab[i]? =some (d,T)->T (valo s d) x) (ZX hdown) ⟨hS,rfl,rfl,fun _ _=>rfl⟩ ?_ ?_
 ·rintro i o ho s x ⟨hs,hsz,hdf,hout⟩ hdep;have hi:i<tab.length:=by rw[hlen];exact(Array.getElem?_eq_some_iff.1 ho).1
  obtain⟨⟨d,T⟩,hdv⟩:∃p,tab[i]? =some p:=⟨_,List.getElem?_eq_getElem hi⟩;have hmem:(d,T)∈tab:=List.mem_of_getElem? hdv;refine wpOp_step ho fun K hK=> ?_
  obtain⟨hw,hstep'⟩:=hstep i o d T ho hdv s x hs (fun p hp=>(hout p.1 (hap p hp)).trans (hbase p hp)) hdep;rw[if_pos hw];refine hstep' K fun v x' hs' hr hv ht=> ?_
  cases d with
  |none=>
   refine hK _ _ ⟨⟨hs',hsz,hdf,hout⟩, ?_, ?_⟩
   ·intro d' T' h';rw[hdv] at h';obtain⟨rfl,rfl⟩:=Prod.mk.inj (Option.some.inj h');rw[hv rfl] at ht;exact ht
   ·intro j hj _ hF d' T' h';exact hstab i j d' T' h' (fun e=>hj e.symm) _ _ _ hs hr (hF d' T' h')
  |some d=>
   have hdm:d∈tab.filterMap Prod.fst:=List.mem_filterMap.2 ⟨_,hmem,rfl⟩;have hd:d<s.tmps.size:=by rw[hsz];exact hlt _ hdm
   refine hK _ _ ⟨⟨hs',by rw[yt,hsz],by rw[yI,hdf], ?_⟩, ?_, ?_⟩
   ·intro k hk;rw[ZA _ _ _ _ hd,if_neg (fun(h:k=d)=>hk (h▸hdm)),hout k hk]
   ·intro d' T' h';rw[hdv] at h';obtain⟨rfl,rfl⟩:=Prod.mk.inj (Option.some.inj h');show T ((s.put (some d) v).tmps.getD d undef) x';rw[ZA _ _ _ _ hd,if_pos rfl];exact ht
   ·intro j hj _ hF d' T' h';have h2:=hstab i j d' T' h' (fun e=>hj e.symm) _ _ _ hs hr (hF d' T' h');cases d' with
    |none=>exact h2
    |some d'=>
     have hne:d'≠d:=fun e=>by
      subst e;exact hj (zdJ tab hnd j i d' T' T h' hdv)
     show T' ((s.put (some d) v).tmps.getD d' undef) x';rw[ZA _ _ _ _ hd,if_neg hne];exact h2
 ·rintro s x ⟨hs,hsz,hdf,hout⟩ hF
  have hmemt:∀p∈(tab.filterMap Prod.fst).map (fun d=>(d,s.tmps.getD d undef)),p.1<a.tmps.size:=fun p hp=>by
   obtain⟨d,hd,rfl⟩:=List.mem_map.1 hp;exact hlt d hd
  have hfst:((tab.filterMap Prod.fst).map (fun d=>(d,s.tmps.getD d undef))).map Prod.fst=tab.filterMap Prod.fst:=by simp[List.map_map,Function.comp_def]
  have e:s=zL a (zgC tab (tab.map fun p=>valo s p.1)):=by
   rw[zdd];refine zb2 (by rw[yS,hsz]) (by rw[yq,hdf]) fun k _=> ?_
   by_cases hk:k∈tab.filterMap Prod.fst
   ·rw[za0 _ a k (s.tmps.getD k undef) hmemt (by rw[hfst];exact hnd) (List.mem_map.2 ⟨k,hk,rfl⟩)]
   ·rw[hout k hk,Yc _ a k hmemt fun p hp e=>hk (by obtain⟨d,hd,rfl⟩:=List.mem_map.1 hp;exact e▸hd)]
  have h:=hdone (tab.map fun p=>valo s p.1) x hs (by simp) fun i d T h=>by
   have:=hF i (by rw[<-hlen];exact(List.getElem?_eq_some_iff.1 h).1) d T h;rw[List.getD_eq_getElem?_getD,List.getElem?_map,h];exact this
  rwa[<-e] at h
end
def lb (n i:Nat):Nat:=n/2^(64*i)%18446744073709551616
theorem yo (n i:Nat):za n i=(lb n i:Int):=rfl
theorem lb_lt (n i:Nat):lb n i<18446744073709551616:=Nat.mod_lt _ (by decide)
def cb (x y i:Nat):Bool:=decide (2^i<=x%2^i+y%2^i)
def ziS (f:Nat->Bool):Nat->Value:=fun i=>.bool (f i)
def RowOf (w:World) (L n:Nat) (e:Ending) (w':World):Prop:=
 ∃b r:Nat,Hid (r=n)/\e=.returned (.slice (some ⟨b,0,none⟩) L L)/\w.heap.size<=b/\w'.rowIs b 4 L (ziS r.testBit)/\Below w.heap.size w w'
section
variable {s:Act} {x:World} {pos:String} {af:Array Edge} {g:Option (Nat×Bool)} {K:Act->World->Prop} {Q:Exit->Act->World->Prop}
def Own (f:Nat):Prop:=∀args w,(callFunc f args).run prog w=.ok (.enter f args) w
theorem zN {f d:Nat} {xs:Array Operand} {vs:Array Value} {A:Array TypeId} {ty:TypeId} {Post:Ending->World->Prop} (hf:Own f) (hv:#[]++xs.map s.eval++#[]=vs) (hc:Calls prog f vs x Post)
  (hK:∀e x',Post e x'->∃r,e=.returned r/\K (s.put (some d) r) x'):
  Oper.wp prog ⟨some d,.call ⟨.value (.func f),xs,A⟩,ty,pos,af,g⟩ s x K Q:=by
 unfold Oper.wp;rw[execOp_call_go,hv,hf];rw[Oper.upon_enter];refine hc.mono ?_;intro e y h;obtain⟨r,rfl,h2⟩:=hK e y h;exact h2
theorem ev1 {o1:Operand} {v1:Value} (h1:s.eval o1=v1):#[]++(#[o1]:Array Operand).map s.eval++#[]=#[v1]:=by simp[h1]
theorem ev2 {o1 o2:Operand} {v1 v2:Value} (h1:s.eval o1=v1) (h2:s.eval o2=v2):#[]++(#[o1,o2]:Array Operand).map s.eval++#[]=#[v1,v2]:=by simp[h1,h2]
theorem ev3 {o1 o2 o3:Operand} {v1 v2 v3:Value} (h1:s.eval o1=v1) (h2:s.eval o2=v2) (h3:s.eval o3=v3):#[]++(#[o1,o2,o3]:Array Operand).map s.eval++#[]=#[v1,v2,v3]:=by simp[h1,h2,h3]
theorem ev4 {o1 o2 o3 o4:Operand} {v1 v2 v3 v4:Value} (h1:s.eval o1=v1) (h2:s.eval o2=v2) (h3:s.eval o3=v3) (h4:s.eval o4=v4):#[]++(#[o1,o2,o3,o4]:Array Operand).map s.eval++#[]=#[v1,v2,v3,v4]:=by simp[h1,h2,h3,h4]
def SliceOf (L n:Nat) (v:Value) (x:World):Prop:=∃b r c:Nat,Hid (r=n)/\v=.slice (some ⟨b,0,none⟩) L c/\x.rowIs b 4 L (ziS r.testBit)
theorem zbi {t u b n:Nat} {f:Nat->Value} {ty:TypeId} (he:s.tmps.getD t undef=.pointer (some ⟨b,0,none⟩)) (hu:s.tmps.getD u undef=wv n) (hr:x.rowIs b 24 4 f)
  (hK:∀x',x'.rowIs b 24 4 (zj (za n))->x'=(((x.setCell ⟨b,0,none⟩ (.int .u64 (za n 0))).setCell ⟨b,1,none⟩ (.int .u64 (za n 1))).setCell ⟨b,2,none⟩ (.int .u64 (za n 2))).setCell ⟨b,3,none⟩ (.int .u64 (za n 3))->K (s.put none undef) x'):
  Oper.wp prog ⟨none,.store 24 (.tmp t) (.tmp u),ty,pos,af,g⟩ s x K Q:=by
 have he2:s.eval (.tmp t)=.pointer (some ⟨b,0,none⟩):=he;have hu2:s.eval (.tmp u)=wv n:=hu;have x0:=hr.cell (i:=0) (by omega);have x1:=hr.cell (i:=1) (by omega);have x2:=hr.cell (i:=2) (by omega);have x3:=hr.cell (i:=3) (by omega);have fz:=hr.frozen;have hrow:=zm hr (za n) rfl rfl rfl rfl;have h:=hK _ hrow rfl;clear hK hrow hr;go_simp;exact h
end
theorem p5 {i:Nat} (h:i<5):i=0\/i=1\/i=2\/i=3\/i=4:=by omega
theorem p6 {i:Nat} (h:i<6):i=0\/i=1\/i=2\/i=3\/i=4\/i=5:=by omega
structure S1 (w:World) (a:Nat) (x:World):Prop where
 ra:x.rowIs w.heap.size 24 4 (zj (za a))
 rz:x.rowIs (w.heap.size+1) 24 4 (zj fun _=>0)
 be:Below w.heap.size w x
structure Q2 (w:World) (a b:Nat) (x:World):Prop where
 ra:x.rowIs w.heap.size 24 4 (zj (za a))
 rb:x.rowIs (w.heap.size+1) 24 4 (zj (za b))
 rz:∃f,x.rowIs (w.heap.size+1+1) 24 4 f
 be:Below w.heap.size w x
def fint (a m:Nat):Nat:=if a%M<m then a%M else m

def shb (b:Nat) (n:Int) (zL:Bool) (i:Nat):Bool:=if 0<=(i:Int) - n/\(i:Int) - n<256 then b.testBit ((i:Int) - n).toNat else zL
structure PR (w:World) (a b p q r:Nat) (x:World):Prop where
 rp:x.rowIs p 4 256 (ziS a.testBit)
 rq:x.rowIs q 4 256 (ziS b.testBit)
 hp:p<r
 hq:q<r
 hr:w.heap.size<=r
 be:Below w.heap.size w x
theorem p4 {i:Nat} (h:i<4):i=0\/i=1\/i=2\/i=3:=by omega
def nt (s:ByteArray):ByteArray:=if decide (2<s.size)&&((s.extract 0 2).toList==x0.toList) then s.extract 2 s.size else s
def nb (s:ByteArray):Nat:=if decide (2<s.size)&&((s.extract 0 2).toList==x0.toList) then 16 else 10
def dgi (c b:Nat):Int:=if dgt c<b then(dgt c:Int) else -1
def hib (P k:Nat):Bool:=decide (M<=P%2^k)
structure RN (w:World) (z b n:Nat) (x:World):Prop where
 rz:x.rowIs z 24 4 (zj fun _=>0)
 rn:x.rowIs b 24 4 (zj (za n))
 hz:w.heap.size<=z
 hzb:z<b
 be:Below w.heap.size w x
def numO (t:ByteArray) (b:Nat) (e:Ending):Prop:=match num t b with
 |none=>∃r,e=.returned (.tuple #[wv r,.bool false,.bool false])
 |some (n,g)=>e=.returned (.tuple #[wv n,.bool (decide (t.size≠0)),.bool g])
def zah (t:ByteArray) (b:Nat):Option (Nat×Bool):=match num t b with
 |none=>none
 |some (n,g)=>if t.size=0 then none else some (n,g)
theorem zd6 {s t:ByteArray} (h:bl s=bl t):s=t:=by
 obtain⟨⟨a⟩⟩:=s;obtain⟨⟨b⟩⟩:=t;have e:a=b:=h;rw[e]
theorem ziX:x0.size=2:=rfl
theorem zig (s:ByteArray):zah (nt s) (nb s)=zah (Z5 s x0) (zaU s):=by
 by_cases h2:2<s.size
 ·have hp:pf s x0=(decide (2<s.size)&&((s.extract 0 2).toList==x0.toList)):=by
   unfold pf;rw[ziX,decide_eq_true (show 2<=s.size by omega),decide_eq_true h2]
  have h1:Z5 s x0=nt s:=by unfold Z5 nt;rw[hp];rfl
  have h3:zaU s=nb s:=by unfold zaU nb;rw[hp]
  rw[h1,h3]
 ·have hn:nt s=s:=by unfold nt;rw[decide_eq_false h2,Bool.false_and];rfl
  have hb:nb s=10:=by unfold nb;rw[decide_eq_false h2,Bool.false_and];rfl
  cases hp:pf s x0
  ·have h1:Z5 s x0=s:=by unfold Z5;rw[hp];rfl
   have h3:zaU s=10:=by unfold zaU;rw[hp];rfl
   rw[h1,h3,hn,hb]
  ·have hpl:=hp;rw[zeB,List.isPrefixOf_iff_prefix] at hpl;have hle:=hpl.length_le;have hsz:(bl s).length=s.size:=rfl;have hx:(bl x0).length=2:=rfl;have he:bl x0=bl s:=hpl.eq_of_length (by omega);have hs:s=x0:=(zd6 he).symm;subst hs
   have a1:zah (nt x0) (nb x0)=none:=by
    rw[hn,hb];unfold zah;have:num x0 10=none:=by unfold num;simp only[ziX,zax];decide
    rw[this]
   have a2:zah (Z5 x0 x0) (zaU x0)=none:=by
    have hc:(Z5 x0 x0).size=0:=by unfold Z5;rw[hp,if_pos rfl,ByteArray.size_extract];rfl
    unfold zah;split
    ·rfl
    ·rw[if_pos hc]
   rw[a1,a2]
theorem zkt (t:ByteArray) (b:Nat):rnum t b=match zah t b with
 |none=>(0,2)
 |some (n,g)=>if g then(0,4) else(n,0):=by
 unfold rnum zah;cases num t b with
 |none=>rfl
 |some p=>
  obtain⟨n,g⟩:=p;dsimp only;by_cases h:t.size=0
  ·rw[if_pos h,if_pos h]
  ·rw[if_neg h,if_neg h]
def lk:List (List UInt8×Nat)->List UInt8->Option Nat
 |[],_=>none
 |(a,v)::r,l=>if l=a then some v else lk r l
theorem lk_hit {a l:List UInt8} {v:Nat} {r:List (List UInt8×Nat)} (h:l=a):lk ((a,v)::r) l=some v:=by unfold lk;rw[if_pos h]
theorem lk_miss {a l:List UInt8} {v:Nat} {r:List (List UInt8×Nat)} (h:¬l=a):lk ((a,v)::r) l=lk r l:=by rw[lk,if_neg h]
def pr (o:Option Nat):Value:=.tuple #[.int .u8 ((o.getD 0:Nat):Int),.bool o.isSome]
theorem zlf {s:ByteArray} {l:List UInt8} (h:bl s=l):(s.toList==l)=true:=by rw[Go.ByteArray.toList_eq];exact beq_iff_eq.2 h
theorem zj9 {s:ByteArray} {l:List UInt8} (h:¬bl s=l):(s.toList==l)=false:=by rw[Go.ByteArray.toList_eq];exact beq_eq_false_iff_ne.2 h
def lkP (s:ByteArray) (P:Option Nat->Prop):List (List UInt8×Nat)->Prop
 |[]=>P none
 |(a,v)::r=>((s.toList==a)=true->P (some v))/\((s.toList==a)=false->lkP s P r)
theorem lk_P (s:ByteArray) (P:Option Nat->Prop):∀t,lkP s P t->P (lk t (bl s))
 |[],h=>h
 |(a,v)::r,h=>by
  by_cases e:bl s=a
  ·rw[lk_hit e];exact h.1 (zlf e)
  ·rw[lk_miss e];exact lk_P s P r (h.2 (zj9 e))
def tabCmp:List (List UInt8×Nat):=[([76,84],16),([71,84],17),([83,76,84],18),([83,71,84],19),([69,81],20),([73,83,90,69,82,79],21),([65,78,68],22),([79,82],23),([88,79,82],24),([78,79,84],25),([66,89,84,69],26),([83,72,76],27),([83,72,82],28),([83,65,82],29)]
theorem Cmp_any (s:ByteArray) (hs:s.size<=2000) (w:World):Calls prog 227 #[.string s] w fun e w'=>e=.returned (pr (lk tabCmp (bl s)))/\w'=w:=by
 refine lk_P s (fun o=>Calls prog 227 #[.string s] w fun e w'=>e=.returned (pr o)/\w'=w) tabCmp ?_;simp only[tabCmp,lkP]
 repeat' (with_reducible first|apply And.intro|intro _)
 all_goals as_aux_lemma=>
  go_enter func227,ntmps227;go_wp2;go_ret2;exact⟨rfl,rfl⟩
def tabRec:List (List UInt8×Nat):=[([65,68,68],1),([77,85,76],2),([83,85,66],3),([68,73,86],4),([83,68,73,86],5),([77,79,68],6),([83,77,79,68],7),([65,68,68,77,79,68],8),([77,85,76,77,79,68],9),([69,88,80],10),([83,73,71,78,69,88,84,69,78,68],11)]
theorem Rec_any (s:ByteArray) (hs:s.size<=2000) (w:World):Calls prog 196 #[.string s] w fun e w'=>e=.returned (pr ((lk tabRec (bl s)).orElse fun _=>lk tabCmp (bl s)))/\w'=w:=by
 refine lk_P s (fun o=>Calls prog 196 #[.string s] w fun e w'=>e=.returned (pr (o.orElse fun _=>lk tabCmp (bl s)))/\w'=w) tabRec ?_;simp only[tabRec,lkP]
 repeat' (with_reducible first|apply And.intro|intro _)
 all_goals as_aux_lemma=>
  go_enter func196,ntmps196
  first
  |go_wp2
   go_ret2;exact⟨rfl,rfl⟩
  |go_wp2_with fail
   refine(Cmp_any s hs _).mono ?_;rintro e w' ⟨rfl,rfl⟩;obtain⟨o,HO⟩:∃o,Hid (o=lk tabCmp (bl s)):=⟨_,rfl⟩;rw[<-HO.out];unfold pr;go_wp2;go_ret2;exact⟨by rw[<-HO.out];rfl,rfl⟩
def tabSur:List (List UInt8×Nat):=[([83,84,79,80],0),([65,68,68,82,69,83,83],48),([66,65,76,65,78,67,69],49),([67,65,76,76,69,82],51),([67,65,76,76,86,65,76,85,69],52),([67,65,76,76,68,65,84,65,76,79,65,68],53),([67,65,76,76,68,65,84,65,83,73,90,69],54),([67,65,76,76,68,65,84,65,67,79,80,89],55),([67,79,68,69,83,73,90,69],56),([67,79,68,69,67,79,80,89],57),([82,69,84,85,82,78,68,65,84,65,83,73,90,69],61),([82,69,84,85,82,78,68,65,84,65,67,79,80,89],62),([67,65,76,76],241),([82,69,84,85,82,78],243),([68,69,76,69,71,65,84,69,67,65,76,76],244),([83,84,65,84,73,67,67,65,76,76],250),([82,69,86,69,82,84],253)]
theorem Sur_any (s:ByteArray) (hs:s.size<=2000) (w:World):Calls prog 197 #[.string s] w fun e w'=>e=.returned (pr (lk tabSur (bl s)))/\w'=w:=by
 refine lk_P s (fun o=>Calls prog 197 #[.string s] w fun e w'=>e=.returned (pr o)/\w'=w) tabSur ?_;simp only[tabSur,lkP]
 repeat' (with_reducible first|apply And.intro|intro _)
 all_goals as_aux_lemma=>
  go_enter func197,ntmps197;go_wp2;go_ret2;exact⟨rfl,rfl⟩
def tabKee:List (List UInt8×Nat):=[([80,79,80],80),([77,76,79,65,68],81),([77,83,84,79,82,69],82),([77,83,84,79,82,69,56],83),([83,76,79,65,68],84),([83,83,84,79,82,69],85),([74,85,77,80],86),([74,85,77,80,73],87),([80,67],88),([77,83,73,90,69],89),([71,65,83],90),([74,85,77,80,68,69,83,84],91),([84,76,79,65,68],92),([84,83,84,79,82,69],93),([77,67,79,80,89],94)]
theorem Kee_any (s:ByteArray) (hs:s.size<=2000) (w:World):Calls prog 198 #[.string s] w fun e w'=>e=.returned (pr (lk tabKee (bl s)))/\w'=w:=by
 refine lk_P s (fun o=>Calls prog 198 #[.string s] w fun e w'=>e=.returned (pr o)/\w'=w) tabKee ?_;simp only[tabKee,lkP]
 repeat' (with_reducible first|apply And.intro|intro _)
 all_goals as_aux_lemma=>
  go_enter func198,ntmps198;go_wp2;go_ret2;exact⟨rfl,rfl⟩
def dcs (k:Nat):ByteArray:=if k<10 then⟨#[UInt8.ofNat (48+k)]⟩ else⟨#[49,UInt8.ofNat (38+k)]⟩
theorem itoa0 (w:World):Calls prog 228 #[.int .i64 0] w fun e w'=>e=.returned (.string (dcs 0))/\w'=w:=by
 go_enter func228,ntmps228;go_wp2;go_ret;exact⟨by kernel_rfl,rfl⟩
theorem itoa1 (w:World):Calls prog 228 #[.int .i64 1] w fun e w'=>e=.returned (.string (dcs 1))/\w'=w:=by
 go_enter func228,ntmps228;go_wp2;go_ret;exact⟨by kernel_rfl,rfl⟩
theorem itoa2 (w:World):Calls prog 228 #[.int .i64 2] w fun e w'=>e=.returned (.string (dcs 2))/\w'=w:=by
 go_enter func228,ntmps228;go_wp2;go_ret;exact⟨by kernel_rfl,rfl⟩
theorem itoa3 (w:World):Calls prog 228 #[.int .i64 3] w fun e w'=>e=.returned (.string (dcs 3))/\w'=w:=by
 go_enter func228,ntmps228;go_wp2;go_ret;exact⟨by kernel_rfl,rfl⟩
theorem itoa4 (w:World):Calls prog 228 #[.int .i64 4] w fun e w'=>e=.returned (.string (dcs 4))/\w'=w:=by
 go_enter func228,ntmps228;go_wp2;go_ret;exact⟨by kernel_rfl,rfl⟩
theorem itoa5 (w:World):Calls prog 228 #[.int .i64 5] w fun e w'=>e=.returned (.string (dcs 5))/\w'=w:=by
 go_enter func228,ntmps228;go_wp2;go_ret;exact⟨by kernel_rfl,rfl⟩
theorem itoa6 (w:World):Calls prog 228 #[.int .i64 6] w fun e w'=>e=.returned (.string (dcs 6))/\w'=w:=by
 go_enter func228,ntmps228;go_wp2;go_ret;exact⟨by kernel_rfl,rfl⟩
theorem itoa7 (w:World):Calls prog 228 #[.int .i64 7] w fun e w'=>e=.returned (.string (dcs 7))/\w'=w:=by
 go_enter func228,ntmps228;go_wp2;go_ret;exact⟨by kernel_rfl,rfl⟩
theorem itoa8 (w:World):Calls prog 228 #[.int .i64 8] w fun e w'=>e=.returned (.string (dcs 8))/\w'=w:=by
 go_enter func228,ntmps228;go_wp2;go_ret;exact⟨by kernel_rfl,rfl⟩
theorem itoa9 (w:World):Calls prog 228 #[.int .i64 9] w fun e w'=>e=.returned (.string (dcs 9))/\w'=w:=by
 go_enter func228,ntmps228;go_wp2;go_ret;exact⟨by kernel_rfl,rfl⟩
theorem itoa10 (w:World):Calls prog 228 #[.int .i64 10] w fun e w'=>e=.returned (.string (dcs 10))/\w'=w:=by
 go_enter func228,ntmps228;go_wp2;go_ret;exact⟨by kernel_rfl,rfl⟩
theorem itoa11 (w:World):Calls prog 228 #[.int .i64 11] w fun e w'=>e=.returned (.string (dcs 11))/\w'=w:=by
 go_enter func228,ntmps228;go_wp2;go_ret;exact⟨by kernel_rfl,rfl⟩
theorem itoa12 (w:World):Calls prog 228 #[.int .i64 12] w fun e w'=>e=.returned (.string (dcs 12))/\w'=w:=by
 go_enter func228,ntmps228;go_wp2;go_ret;exact⟨by kernel_rfl,rfl⟩
theorem itoa13 (w:World):Calls prog 228 #[.int .i64 13] w fun e w'=>e=.returned (.string (dcs 13))/\w'=w:=by
 go_enter func228,ntmps228;go_wp2;go_ret;exact⟨by kernel_rfl,rfl⟩
theorem itoa14 (w:World):Calls prog 228 #[.int .i64 14] w fun e w'=>e=.returned (.string (dcs 14))/\w'=w:=by
 go_enter func228,ntmps228;go_wp2;go_ret;exact⟨by kernel_rfl,rfl⟩
theorem itoa15 (w:World):Calls prog 228 #[.int .i64 15] w fun e w'=>e=.returned (.string (dcs 15))/\w'=w:=by
 go_enter func228,ntmps228;go_wp2;go_ret;exact⟨by kernel_rfl,rfl⟩
theorem itoa16 (w:World):Calls prog 228 #[.int .i64 16] w fun e w'=>e=.returned (.string (dcs 16))/\w'=w:=by
 go_enter func228,ntmps228;go_wp2;go_ret;exact⟨by kernel_rfl,rfl⟩
theorem zg1 (k:Nat) (hk:k<=16) (w:World):Calls prog 228 #[.int .i64 (k:Int)] w fun e w'=>e=.returned (.string (dcs k))/\w'=w:=by
 rcases(by omega:k=0\/k=1\/k=2\/k=3\/k=4\/k=5\/k=6\/k=7\/k=8\/k=9\/k=10\/k=11\/k=12\/k=13\/k=14\/k=15\/k=16) with rfl|rfl|rfl|rfl|rfl|rfl|rfl|rfl|rfl|rfl|rfl|rfl|rfl|rfl|rfl|rfl|rfl
 ·exact itoa0 w
 ·exact itoa1 w
 ·exact itoa2 w
 ·exact itoa3 w
 ·exact itoa4 w
 ·exact itoa5 w
 ·exact itoa6 w
 ·exact itoa7 w
 ·exact itoa8 w
 ·exact itoa9 w
 ·exact itoa10 w
 ·exact itoa11 w
 ·exact itoa12 w
 ·exact itoa13 w
 ·exact itoa14 w
 ·exact itoa15 w
 ·exact itoa16 w
theorem zgV (k:Nat):(dcs k).size<=2:=by
 unfold dcs;split
 ·show 1<=2;omega
 ·show 2<=2;omega
def dup (i:Nat):ByteArray:=⟨#[68,85,80]⟩++dcs (i+1)
def swp (i:Nat):ByteArray:=⟨#[83,87,65,80]⟩++dcs (i+1)
def lgs (i:Nat):ByteArray:=⟨#[76,79,71]⟩++dcs i
def zaC (l:List UInt8):Nat->Nat->Option Nat
 |0,_=>none
 |f+1,i=>if l=bl (dup i) then some (128+i) else if l=bl (swp i) then some (144+i) else zaC l f (i+1)
def zbx (l:List UInt8):Nat->Nat->Option Nat
 |0,_=>none
 |f+1,i=>if l=bl (lgs i) then some (160+i) else zbx l f (i+1)
def YA (s:ByteArray):Option Nat:=(zaC (bl s) 16 0).orElse fun _=>zbx (bl s) 5 0
theorem zcy {s t:ByteArray} (h:bl s=bl t):(s.toList==t.toList)=true:=by rw[Go.ByteArray.toList_eq,Go.ByteArray.toList_eq];exact beq_iff_eq.2 h
theorem zbl {s t:ByteArray} (h:¬bl s=bl t):(s.toList==t.toList)=false:=by rw[Go.ByteArray.toList_eq,Go.ByteArray.toList_eq];exact beq_eq_false_iff_ne.2 h
theorem zj3 (s:ByteArray) (hs:s.size<=2000) (w:World):Calls prog 199 #[.string s] w fun e w'=>e=.returned (pr (YA s))/\w'=w:=by
 go_enter func199,ntmps199;go_wp2
 go_loopw [7] (fun t7 wr=>∃i:Nat,i<=16/\t7=.int .i64 i/\Hid (zaC (bl s) (16 - i) i=zaC (bl s) 16 0)/\Hid (wr=w)) (fun t7 _=>16 - (RowKit.intOf t7).toNat)
 case atStart=>exact⟨0,by omega,rfl,rfl,rfl⟩
 case round=>
  obtain⟨i,hi,rfl,HA,HW⟩:=hrel;by_cases hlt:i<16
  ·have hdi:decide ((i:Int)<16)=true:=by simp;omega
   have HIT:Hid (∀w,Calls prog 228 #[.int .i64 ((i:Int)+1)] w fun e w'=>e=.returned (.string (dcs (i+1)))/\w'=w):=fun w=>by have h:=zg1 (i+1) (by omega) w;rw[Int.natCast_add] at h;exact h
   have hsz:=zgV (i+1);obtain⟨f,hf⟩:∃f,16 - i=f+1:=⟨15 - i,by omega⟩;have HF:Hid (f=16 - (i+1)):=by show _=_;omega
   have hA:=HA.out;rw[hf] at hA;clear hf;go_wp2_with fail
   refine(HIT.out _).mono ?_;rintro e w' ⟨rfl,rfl⟩;by_cases h1:bl s=bl (dup i)
   ·have HR:Hid (YA s=some (128+i)):=by show _=_;unfold YA;rw[<-hA];simp[zaC,h1]
    have e1:(s.toList==((⟨#[68,85,80]⟩:ByteArray)++dcs (i+1)).toList)=true:=zcy h1;clear h1 hA;generalize dcs (i+1)=dc at*;go_wp2;go_ret2;exact⟨by rw[HR.out];simp[pr],HW.out⟩
   ·have e1:(s.toList==((⟨#[68,85,80]⟩:ByteArray)++dcs (i+1)).toList)=false:=zbl h1;by_cases h2:bl s=bl (swp i)
    ·have HR:Hid (YA s=some (144+i)):=by show _=_;unfold YA;rw[<-hA];simp only[zaC,if_neg h1,if_pos h2];rfl
     have e2:(s.toList==((⟨#[83,87,65,80]⟩:ByteArray)++dcs (i+1)).toList)=true:=zcy h2;clear h1 h2 hA;generalize dcs (i+1)=dc at*;go_wp2;go_ret2;exact⟨by rw[HR.out];simp[pr],HW.out⟩
    ·have e2:(s.toList==((⟨#[83,87,65,80]⟩:ByteArray)++dcs (i+1)).toList)=false:=zbl h2
     have HA2:Hid (zaC (bl s) (16 - (i+1)) (i+1)=zaC (bl s) 16 0):=by
      show _=_;rw[<-hA,<-HF.out];simp only[zaC,if_neg h1,if_neg h2]
     clear h1 h2 hA;generalize dcs (i+1)=dc at*;go_wp2
     go_roundw
     case rel=>exact⟨i+1,by omega,by go_num,HA2,HW⟩
     case measure=>simp[RowKit.intOf];omega
  ·obtain rfl:i=16:=by omega
   have HN:Hid (zaC (bl s) 16 0=none):=by show _=_;rw[<-HA.out];rfl
   clear HA;rw[show((16:Nat):Int)=16 from rfl];go_wp2
   go_loopw [29] (fun t29 wq=>∃i:Nat,i<=5/\t29=.int .i64 i/\Hid (zbx (bl s) (5 - i) i=zbx (bl s) 5 0)/\Hid (wq=w)) (fun t29 _=>5 - (RowKit.intOf t29).toNat)
   case atStart=>exact⟨0,by omega,rfl,rfl,HW⟩
   case round=>
    clear HW;obtain⟨i,hi,rfl,HA,HW⟩:=hrel;by_cases hlt:i<5
    ·have hdi:decide ((i:Int)<5)=true:=by simp;omega
     have HIT:Hid (∀w,Calls prog 228 #[.int .i64 (i:Int)] w fun e w'=>e=.returned (.string (dcs i))/\w'=w):=fun w=>zg1 i (by omega) w
     have hsz:=zgV i;obtain⟨f,hf⟩:∃f,5 - i=f+1:=⟨4 - i,by omega⟩;have HF:Hid (f=5 - (i+1)):=by show _=_;omega
     have hA:=HA.out;rw[hf] at hA;clear hf;go_wp2_with fail
     refine(HIT.out _).mono ?_;rintro e w' ⟨rfl,rfl⟩;by_cases h1:bl s=bl (lgs i)
     ·have HR:Hid (YA s=some (160+i)):=by show _=_;unfold YA;rw[HN.out,<-hA];simp[zbx,h1]
      have e1:(s.toList==((⟨#[76,79,71]⟩:ByteArray)++dcs i).toList)=true:=zcy h1;clear h1 hA;generalize dcs i=dc at*;go_wp2;go_ret2;exact⟨by rw[HR.out];simp[pr],HW.out⟩
     ·have e1:(s.toList==((⟨#[76,79,71]⟩:ByteArray)++dcs i).toList)=false:=zbl h1
      have HA2:Hid (zbx (bl s) (5 - (i+1)) (i+1)=zbx (bl s) 5 0):=by
       show _=_;rw[<-hA,<-HF.out];simp only[zbx,if_neg h1]
      clear h1 hA;generalize dcs i=dc at*;go_wp2
      go_roundw
      case rel=>exact⟨i+1,by omega,by go_num,HA2,HW⟩
      case measure=>simp[RowKit.intOf];omega
    ·obtain rfl:i=5:=by omega
     have HR:Hid (YA s=none):=by show _=_;unfold YA;rw[HN.out,<-HA.out];rfl
     go_wp2;go_ret2;exact⟨by rw[HR.out];rfl,HW.out⟩
theorem cvt1 (c:Int) (w:World):(convert 26 9 (.slice (some ⟨w.heap.size,0,none⟩) 1 1)).run prog (w.alloc (.cells #[.int .u8 c] 5))=.ok (.string ⟨#[UInt8.ofNat c.toNat]⟩) (w.alloc (.cells #[.int .u8 c] 5)):=by
 have h:=run_convert_bytes_arg (P:=prog) (w.alloc (.cells #[.int .u8 c] 5)) 26 5 (by kernel_rfl) (by kernel_rfl) w.heap.size 0 1 1 [c] rfl (fun i hi=>by
  obtain rfl:i=0:=by omega
  simp) 9 (by kernel_rfl)
 exact h
def u8s (f:Nat->Nat):Nat->Value:=fun i=>.int .u8 (f i:Int)
def byn (n m:Nat):Nat:=n/2^(8*m)%256
theorem ziA (n i k:Nat) (hk:k<8):lb n i/2^(8*k)%256=byn n (8*i+k):=by
 unfold lb byn;have e:(256:Nat)=2^8:=rfl;rw[zeg,e,show 8*(8*i+k)=64*i+8*k by omega];apply Nat.eq_of_testBit_eq;intro j;simp only[Nat.testBit_mod_two_pow,Nat.testBit_div_two_pow];by_cases hj:j<8
 ·rw[decide_eq_true hj,Bool.true_and,Bool.true_and,decide_eq_true (by omega),Bool.true_and];congr 1;omega
 ·rw[decide_eq_false hj,Bool.false_and,Bool.false_and]
theorem zaE (n:Nat) (hn:n<=281474976710656) (w:World):(Instr.makeSlice 26 (.int .i64 (n:Int)) (.int .i64 (n:Int))).run prog w=.ok (.slice (some ⟨w.heap.size,0,none⟩) n n) (w.alloc (.cells (madeCells #[.int .u8 0] n) 5)):=
 run_make_row' 26 5 (.int .u8 0) 1 (by kernel_rfl) (by kernel_rfl) rfl .i64 .i64 n (by omega) (by omega) w
theorem zjs {w:World} {t:TypeId} {n b:Nat} {f:Nat->Nat} (hb:b=w.heap.size) (h:∀j,j<n->f j=0):(w.alloc (.cells (madeCells #[.int .u8 0] n) t)).rowIs b t n (u8s f):=by
 subst hb;exact(World.rowIs_made w (.int .u8 0) n t).congr fun j hj=>by simp only[u8s];rw[h j hj];rfl
def by32 (n:Nat):ByteArray:=strOfNums ((List.range 32).map fun j=>((byn n (31 - j):Nat):Int))
def lst (s:ByteArray):ByteArray:=⟨((bl s).dropWhile (·==0)).toArray⟩
theorem byt0 {s:ByteArray} (h:0<s.size):∃(c:UInt8) (r:List UInt8),bl s=c::r/\c.toNat=byt s 0:=by
 match hm:bl s with
 |[]=>have:(bl s).length=s.size:=rfl;rw[hm] at this;simp at this;omega
 |c::r=>exact⟨c,r,rfl,by rw[ZO,hm];rfl⟩
def strSize:Value->Nat
 |.string t=>t.size
 |_=>0
def u8v (b:UInt8):Value:=.int .u8 (b.toNat:Int)
def Bys (w:World) (base:Nat) (v:Value) (l:List UInt8):Prop:=w.ownsRow base 5 1 v l.length (l.map u8v)
theorem ze {p:Prop} (h:p):Hid p:=h
theorem Ze (w:World) (cs:Array Value) (t:TypeId):∀j u,cs.toList[j]? =some u->(w.alloc (.cells cs t)).cell? ((⟨w.heap.size,0,none⟩:Addr).add j)=some u:=fun j u h=>by
 have e:(⟨w.heap.size,0,none⟩:Addr).add j=⟨w.heap.size,j,none⟩:=by simp[Addr.add,eq_comm]
 rw[e,cell_of_row _ w.heap.size j cs t (0,0) (heap_alloc_new w _)];simpa using h
theorem zep:(prog.info? 5).map (fun i=>(i.zero,i.size,i.bytes))=some (some (.int .u8 0),1,1):=by kernel_rfl
theorem zB {w:World} {base e size:Nat} {v:Value} {n:Nat} {xs:List Value} (h:w.ownsRow base e size v n xs) (hn:n≠0):∃g cap:Nat,v=.slice (some ⟨g,0,none⟩) n cap/\base<=g/\g<w.heap.size/\n<=cap:=by
 rcases h.2 with⟨_,h0⟩|⟨g,cap,cur,hv,hb,hg,hnc,_⟩
 ·exact absurd h0 hn
 ·exact⟨g,cap,hv,hb,lt_of_block hg,hnc⟩
def bys (n m:Nat):List UInt8:=(List.range (32 - m)).map fun j=>UInt8.ofNat (byn n (31 - j))
def pl (n m:Nat):List UInt8:=(bys n m).dropWhile (·==0)
theorem zcT (n i:Nat) (hi:i<32):bys n i=bys n (i+1)++[UInt8.ofNat (byn n i)]:=by
 unfold bys;rw[show 32 - i=(32 - (i+1))+1 by omega,List.range_succ,List.map_append,List.map_cons,List.map_nil,show 31 - (32 - (i+1))=i by omega]
theorem zm8 (n i:Nat):byn n i<256:=Nat.mod_lt _ (by omega)
theorem Z9 (n i:Nat):(UInt8.ofNat (byn n i)).toNat=byn n i:=UInt8.toNat_ofNat_of_lt' (zm8 n i)
theorem ziI (n i:Nat) (hi:i<32) (h:byn n i≠0\/pl n (i+1)≠[]):pl n i=pl n (i+1)++[UInt8.ofNat (byn n i)]:=by
 unfold pl at*;rw[zcT n i hi,List.dropWhile_append];by_cases he:(bys n (i+1)).dropWhile (·==0)=[]
 ·rw[he] at h⊢;have h0:byn n i≠0:=h.resolve_right (fun k=>k rfl)
  have:(UInt8.ofNat (byn n i)==0)=false:=by
   rw[beq_eq_false_iff_ne];intro e;have:=congrArg UInt8.toNat e;rw[Z9] at this;exact h0 this
  rw[List.isEmpty_nil,if_pos rfl,List.dropWhile_cons,this];rfl
 ·rw[if_neg];rw[List.isEmpty_iff];exact he
theorem pl_same (n i:Nat) (hi:i<32) (h0:byn n i=0) (he:pl n (i+1)=[]):pl n i=[]:=by
 unfold pl at*;rw[zcT n i hi,List.dropWhile_append,he,h0];rfl
theorem zbr (n m:Nat):(pl n m).length<=32:=by
 unfold pl bys;have h1:=(List.dropWhile_suffix (fun x:UInt8=>x==0) (l:=(List.range (32 - m)).map fun j=>UInt8.ofNat (byn n (31 - j)))).length_le;rw[List.length_map,List.length_range] at h1;omega
def pcs (n m:Nat):List UInt8:=UInt8.ofNat (95+(pl n m).length)::pl n m
def zo (n:Nat):List UInt8:=pcs n 0
theorem zc2 (n m:Nat):(UInt8.ofNat (95+(pl n m).length)).toNat=95+(pl n m).length:=by
 have h:=zbr n m;exact UInt8.toNat_ofNat_of_lt' (by show _<256;omega)
theorem Bys.mono {w:World} {b c:Nat} {v:Value} {l:List UInt8} (h:Bys w b v l) (hc:c<=b):Bys w c v l:=
 ⟨h.1,h.2.imp id fun⟨g,cap,cur,a1,a2,a3⟩=>⟨g,cap,cur,a1,Nat.le_trans hc a2,a3⟩⟩
theorem Bys.len {w:World} {b n:Nat} {v:Value} {l:List UInt8} (h:Bys w b v l) (hl:l.length=n):w.ownsRow b 5 1 v n (l.map u8v):=by subst hl;exact h
theorem Bys.alloc {w:World} {base:Nat} {v:Value} {l:List UInt8} (h:Bys w base v l) (o:Obj):Bys (w.alloc o) base v l:=World.ownsRow.alloc h o
theorem zmz {w w':World} {base:Nat} {g n i cap:Nat} (hi:i<32) (h:byn n i≠0\/pl n (i+1)≠[]) (ho:w.ownsRow base 5 1 (.slice (some ⟨g,0,none⟩) ((pcs n (i+1)).length+1) cap) ((pcs n (i+1)).length+1) ((pcs n (i+1)).map u8v++[.int .u8 (byn n i:Int)])):
  Bys (w.setCell ⟨g,0,none⟩ (.int .u8 ((95+(pl n (i+1)).length:Nat)+1:Int))) base (.slice (some ⟨g,0,none⟩) ((pcs n (i+1)).length+1) cap) (pcs n i):=by
 have hs:=(ho.stored 0 (.int .u8 ((95+(pl n (i+1)).length:Nat)+1:Int))).1;have e1:pcs n i=UInt8.ofNat (95+(pl n i).length)::(pl n (i+1)++[UInt8.ofNat (byn n i)]):=by unfold pcs;rw[ziI n i hi h]
 have hl:(pl n i).length=(pl n (i+1)).length+1:=by rw[ziI n i hi h,List.length_append];rfl
 have e2:(pcs n i).length=(pcs n (i+1)).length+1:=by unfold pcs;rw[List.length_cons,List.length_cons,hl]
 unfold Bys;rw[e2]
 have e3:(pcs n i).map u8v=((pcs n (i+1)).map u8v++[Value.int .u8 (byn n i:Int)]).set 0 (.int .u8 ((95+(pl n (i+1)).length:Nat)+1:Int)):=by
  rw[e1];unfold pcs;rw[List.map_cons,List.map_cons,List.cons_append,List.set_cons_zero,List.map_append];congr 1
  ·unfold u8v;rw[zc2,hl];congr 1
  ·unfold u8v;rw[List.map_cons,List.map_nil,Z9]
 rw[e3];exact hs
theorem zlB (n:Nat) (w:World):Calls prog 145 #[wv n] w fun e w'=>∃v,e=.returned v/\Bys w' w.heap.size v (zo n)/\Below w.heap.size w w':=by
 obtain⟨i0,hi0,hz0,hz1,hz2⟩:=info_parts zep;have hr0:(w.alloc (.cells #[.int .u64 (za n 0),.int .u64 (za n 1),.int .u64 (za n 2),.int .u64 (za n 3)] 24)).rowIs w.heap.size 24 4 (zj (za n)):=zh (za n) rfl rfl rfl rfl rfl;go_enter func145,ntmps145;go_wp2
 go_loopw [3,4] (fun t3 t4 wr=>∃m:Nat,m<=32/\t4=.int .i64 ((m:Int) - 1)/\wr.rowIs w.heap.size 24 4 (zj (za n))/\Bys wr (w.heap.size+1) t3 (pcs n m)/\Below w.heap.size w wr)
   (fun _ t4 _=>(RowKit.intOf t4+1).toNat)
 case atStart=>
  refine⟨32,by omega,rfl,hr0.alloc _, ?_,bal (bal (Below.refl _ _) _) _⟩;have h:=World.ownsRow_lit (base:=w.heap.size+1) (e:=5) (size:=1) (w.alloc (.cells #[.int .u64 (za n 0),.int .u64 (za n 1),.int .u64 (za n 2),.int .u64 (za n 3)] 24)) #[.int .u8 95] 1 (by simp) (by decide) rfl;simp at h;exact h
 case round=>
  obtain⟨m,hm,ht4,hr,ho,hbel⟩:=hrel;by_cases h0:m=0
  ·subst h0;obtain⟨g,cap,rfl,hg1,hg2,hg3⟩:=zB ho (by unfold pcs;simp);rw[show((0:Nat):Int) - 1= -1 from rfl] at ht4;subst ht4;go_wp2;go_ret;exact⟨_,rfl,ho.mono (by omega),hbel⟩
  ·obtain⟨i,rfl⟩:∃i,m=i+1:=⟨m - 1,by omega⟩;rw[show((i+1:Nat):Int) - 1=(i:Int) by omega] at ht4;subst ht4;have hq4:i/8<4:=by omega
   have ca:=hr.cell hq4;simp only[zj,yo] at ca;have hbyte:=ziA n (i/8) (i%8) (by omega);rw[show 8*(i/8)+i%8=i by omega] at hbyte;obtain⟨q,hq⟩:∃q,i/8=q:=⟨_,rfl⟩;obtain⟨r,hr8⟩:∃r,i%8=r:=⟨_,rfl⟩;rw[hq] at hbyte ca hq4;rw[hr8] at hbyte;have hqi:(i:Int)/8=(q:Int):=by omega
   have hri:(i:Int)%8=(r:Int):=by omega
   have hr7:r<8:=by omega
   clear hq hr8;have hll:=lb_lt n q;generalize lb n q=v at*;obtain⟨c,HC⟩:∃c,Hid (c=byn n i):=⟨_,rfl⟩
   have hval:(v:Int)/2^(r*8)%256=(c:Int):=by
    rw[HC.out,<-hbyte,Nat.mul_comm 8 r]
    push_cast
    rfl
   have hc256:c<256:=by rw[HC.out];exact zm8 n i
   obtain⟨k,HK⟩:∃k,Hid (k=(pl n (i+1)).length):=⟨_,rfl⟩;have hk32:k<=32:=by rw[HK.out];exact zbr n _
   have HPL:Hid ((pcs n (i+1)).length=k+1):=by show _=_;unfold pcs;rw[List.length_cons,HK.out]
   have ho2:=ho.len HPL.out;obtain⟨g,cap,rfl,hg1,hg2,hg3⟩:=zB ho2 (by omega)
   have HEAD:Hid ((pcs n (i+1)).map u8v=.int .u8 ((95+k:Nat):Int)::(pl n (i+1)).map u8v):=by
    show _=_;unfold pcs;rw[List.map_cons,HK.out];unfold u8v;rw[zc2]
   have hsz:=hbel.size;by_cases hmore:c≠0\/0<k
   ·have HM:Hid (byn n i≠0\/pl n (i+1)≠[]):=by
     show _\/_;rw[<-HC.out];exact hmore.imp id fun h e=>by rw[HK.out,e] at h;simp at h
    have HCELL:Hid (∀(x:World) (g' cap':Nat),x.ownsRow (w.heap.size+1) 5 1 (.slice (some ⟨g',0,none⟩) (k+1+1) cap') (k+1+1) ((pcs n (i+1)).map u8v++[.int .u8 (c:Int)])->x.cell? ⟨g',0,none⟩=some (.int .u8 (95+(k:Int)))/\x.frozen? ⟨g',0,none⟩=false):=fun x g' cap' h=>by
     refine⟨?_,h.frozenAt 0⟩;rw[h.cellAt 0 (by omega),HEAD.out];simp
    have HSTEP:Hid (∀(x:World) (g' cap':Nat),x.ownsRow (w.heap.size+1) 5 1 (.slice (some ⟨g',0,none⟩) (k+1+1) cap') (k+1+1) ((pcs n (i+1)).map u8v++[.int .u8 (c:Int)])->Bys (x.setCell ⟨g',0,none⟩ (.int .u8 (95+(k:Int)+1))) (w.heap.size+1) (.slice (some ⟨g',0,none⟩) (k+1+1) cap') (pcs n i)):=fun x g' cap' h=>by
     have h2:=zmz (w:=x) (w':=x) (g:=g') (cap:=cap') (base:=w.heap.size+1) (by omega) HM.out (by rw[HPL.out,<-HC.out];exact h);rw[HPL.out,<-HK.out] at h2;exact h2
    have hdk:decide (1<(k:Int)+1)=decide (0<k):=by rw[Bool.eq_iff_iff];simp;omega
    by_cases hc0:c=0
    ·have hk0:0<k:=by omega
     subst hc0;go_wp2_with (at_builtin;refine wpList_append_own _ rfl _ _ 26 rfl (w.heap.size+1) 5 i0 (.int .u8 0) 1 1 (by kernel_rfl) hi0 hz0 hz1 hz2 rfl (by decide) _ _ _ rfl (ho2.alloc _) ⟨wr.heap.size,0,none⟩ 1 1 [.int .u8 0] rfl rfl (Ze wr #[.int .u8 0] 5) (by intro u hu;simp at hu;subst hu;rfl) (by unfold maxLen;omega) (by omega) (by simp;omega) ?_;intro v' w1 ho3 hgr _;obtain⟨g',cap',rfl,hg1',hg2',hg3'⟩:=zB ho3 (by omega);obtain⟨hc1,hc2⟩:=HCELL.out w1 g' cap' ho3;have HGR:=ze hgr;have HO3:=ze ho3;clear hgr ho3 hi0 hz0 hz1 hz2 ho ho2)
     have hgr:=HGR.out;have ho3:=HO3.out;have HB2:Hid (Bys (w1.setCell ⟨g',0,none⟩ (.int .u8 (95+(k:Int)+1))) (w.heap.size+1) (.slice (some ⟨g',0,none⟩) (k+1+1) cap') (pcs n i)):=HSTEP.out w1 g' cap' ho3;have hr2:w1.rowIs w.heap.size 24 4 (zj (za n)):=(hr.alloc _).of_block (hgr.block w.heap.size (by simp;omega) (fun e=>by have e2:w.heap.size=g:=Option.some.inj e;omega));have hbel2:Below w.heap.size w w1:=(bal hbel _).grown hgr (by simp;omega) (fun k e=>by have e2:g=k:=Option.some.inj e;omega)
     go_roundw
     case rel=>exact⟨i,by omega,by go_num,hr2.setOther (by simp;omega) _,HB2.out,bset hbel2 (by simp;omega) _⟩
     case measure=>simp[RowKit.intOf]
    ·have hc1:((c:Int) !=0)=true:=by simp;omega
     go_wp2_with (at_builtin;refine wpList_append_own _ rfl _ _ 26 rfl (w.heap.size+1) 5 i0 (.int .u8 0) 1 1 (by kernel_rfl) hi0 hz0 hz1 hz2 rfl (by decide) _ _ _ rfl (ho2.alloc _) ⟨wr.heap.size,0,none⟩ 1 1 [.int .u8 (c:Int)] rfl rfl (Ze wr #[.int .u8 (c:Int)] 5) (by intro u hu;simp at hu;subst hu;rfl) (by unfold maxLen;omega) (by omega) (by simp;omega) ?_;intro v' w1 ho3 hgr _;obtain⟨g',cap',rfl,hg1',hg2',hg3'⟩:=zB ho3 (by omega);obtain⟨hc1,hc2⟩:=HCELL.out w1 g' cap' ho3;have HGR:=ze hgr;have HO3:=ze ho3;clear hgr ho3 hi0 hz0 hz1 hz2 ho ho2)
     have hgr:=HGR.out;have ho3:=HO3.out;have HB2:Hid (Bys (w1.setCell ⟨g',0,none⟩ (.int .u8 (95+(k:Int)+1))) (w.heap.size+1) (.slice (some ⟨g',0,none⟩) (k+1+1) cap') (pcs n i)):=HSTEP.out w1 g' cap' ho3;have hr2:w1.rowIs w.heap.size 24 4 (zj (za n)):=(hr.alloc _).of_block (hgr.block w.heap.size (by simp;omega) (fun e=>by have e2:w.heap.size=g:=Option.some.inj e;omega));have hbel2:Below w.heap.size w w1:=(bal hbel _).grown hgr (by simp;omega) (fun k e=>by have e2:g=k:=Option.some.inj e;omega)
     go_roundw
     case rel=>exact⟨i,by omega,by go_num,hr2.setOther (by simp;omega) _,HB2.out,bset hbel2 (by simp;omega) _⟩
     case measure=>simp[RowKit.intOf]
   ·have hc0:c=0:=by omega
    have hk0:k=0:=by omega
    subst hc0 hk0
    have HB2:Hid (Bys wr (w.heap.size+1) (.slice (some ⟨g,0,none⟩) (0+1) cap) (pcs n i)):=by
     have e:pl n (i+1)=[]:=List.length_eq_zero_iff.1 HK.out.symm
     have e2:pcs n i=pcs n (i+1):=by
      unfold pcs;rw[e,pl_same n i (by omega) HC.out.symm e]
     show Bys _ _ _ _;rw[e2];exact ho
    go_wp2
    go_roundw
    case rel=>exact⟨i,by omega,by go_num,hr,HB2.out,hbel⟩
    case measure=>simp[RowKit.intOf]
theorem Yf:prog.underlying 26=some (.slice 5):=by kernel_rfl
theorem sz_u8:(prog.info? 5).map (·.size)=some 1:=by kernel_rfl
theorem zba (l:List UInt8):∀v∈l.map u8v,v.oneCell'=true:=by
 intro v hv;obtain⟨b,_,rfl⟩:=List.mem_map.1 hv;rfl
theorem u8v_map (s:ByteArray):List.map (fun b:UInt8=>Value.int IntKind.u8 (b.toNat:Int)) s.data.toList=(bl s).map u8v:=rfl
theorem zhA {P:Program} (w:World) (ty g o dLen dCap k:Nat) (s:ByteArray) (cur:Array Value) (t:TypeId) {dT sT elem:TypeId} (hu:P.underlying dT=some (.slice elem)) (hs:(P.info? elem).map (·.size)=some 1)
  (hg:w.heap[g]? =some (.cells cur t (0,0))) (hk:k=Nat.min s.size dLen) (hfit:o+k<=cur.size):
  (Builtin.copy_ #[dT,sT] ty #[.slice (some ⟨g,o,none⟩) dLen dCap,.string s]).run P w=
   .ok (goInt k) (w.setRow g (cur.toList.take o++((bl s).map u8v).take k++cur.toList.drop (o+k)).toArray):=by
 subst hk
 have hlen:(((bl s).map u8v).take (Nat.min s.size dLen)).length=Nat.min s.size dLen:=by
  rw[List.length_take,List.length_map,Yl];exact Nat.min_eq_left (Nat.min_le_left _ _)
 have hst:=run_storeCells_at P g o t (((bl s).map u8v).take (Nat.min s.size dLen)) 0 cur w hg (by rw[hlen];simpa using hfit) (fun v hv=>zba _ v (List.mem_of_mem_take hv));rw[hlen] at hst;simp only[Nat.add_zero] at hst;cases hq:P.info? elem with
 |none=>rw[hq] at hs;cases hs
 |some i=>
  simp[Builtin.copy_,run_underlying hu,Builtin.lenOf,Builtin.firstCells,sizeOf,typeInfo,hq];rw[u8v_map,hst];simp[Result.andThen]
theorem zmA (w:World) (g o dLen dCap k:Nat) (s:ByteArray) (cur:Array Value) (t:TypeId) (hg:w.heap[g]? =some (.cells cur t (0,0))) (hk:k=Nat.min s.size dLen) (hfit:o+k<=cur.size) (ty sT:TypeId):
  (Builtin.copy_ #[26,sT] ty #[.slice (some ⟨g,o,none⟩) dLen dCap,.string s]).run prog w=
   .ok (goInt k) (w.setRow g (cur.toList.take o++((bl s).map u8v).take k++cur.toList.drop (o+k)).toArray):=zhA w ty g o dLen dCap k s cur t Yf sz_u8 hg hk hfit
def zH (s:ByteArray) (p n:Nat):List UInt8:=((bl s).drop p).take n++List.replicate (n - (s.size - p)) 0
theorem zaA (s:ByteArray) (p n:Nat):(zH s p n).length=n:=by
 unfold zH;rw[List.length_append,List.length_take,List.length_drop,List.length_replicate,Yl];omega
theorem ziB (s:ByteArray) (p n:Nat) (h:s.size<=p):zH s p n=List.replicate n 0:=by
 unfold zH;rw[List.drop_of_length_le (by rw[Yl];exact h),List.take_nil,List.nil_append,show n - (s.size - p)=n by omega]
theorem zbA (n:Nat):(madeCells #[.int .u8 0] n).toList=(List.replicate n (0:UInt8)).map u8v:=by
 rw[List.map_replicate,List.eq_replicate_iff];unfold madeCells;refine⟨by simp,fun b hb=> ?_⟩;simp at hb;obtain⟨x,_,rfl⟩:=hb;rw[Nat.mod_one];rfl
theorem zeN (s:ByteArray) (m n k:Nat) (hm:m<=s.size) (hk:k=Nat.min (s.size - m) n):
  ((bl (s.extract m s.size)).map u8v).take k++((List.replicate n (0:UInt8)).map u8v).drop k=(zH s m n).map u8v:=by
 unfold zH;rw[yz,List.take_of_length_le (l:=List.drop m (bl s)) (by rw[List.length_drop,Yl];omega),List.map_append,<-List.map_take,<-List.map_drop,List.drop_replicate,hk];congr 2
 ·by_cases h:s.size - m<=n
  ·rw[show Nat.min (s.size - m) n=s.size - m from Nat.min_eq_left h,List.take_of_length_le (by rw[List.length_drop,Yl];omega),List.take_of_length_le (by rw[List.length_drop,Yl];omega)]
  ·rw[show Nat.min (s.size - m) n=n from Nat.min_eq_right (by omega)]
 ·congr 1;by_cases h:s.size - m<=n
  ·rw[show Nat.min (s.size - m) n=s.size - m from Nat.min_eq_left h]
  ·rw[show Nat.min (s.size - m) n=n from Nat.min_eq_right (by omega)];omega
theorem zi8 {w:World} {base g n:Nat} {l:List UInt8} (hl:l.length=n) (hb:base<=g) (hg:w.heap[g]? =some (.cells (l.map u8v).toArray 5 (0,0))) (hn:n<=100000):Bys w base (.slice (some ⟨g,0,none⟩) n n) l:=by
 subst hl;refine⟨by simp,Or.inr ⟨g,l.length,(l.map u8v).toArray,rfl,hb,hg,Nat.le_refl _, ?_,by simp,by rw[Nat.mul_one];exact List.take_of_length_le (by simp)⟩⟩;unfold maxLen;omega
theorem zkz (s:ByteArray) (p n:Nat) (hs:s.size<=100000) (hn:n<=100000) (w:World):Calls prog 261 #[.string s,wv p,.int .i64 (n:Int)] w fun e w'=>∃v,e=.returned v/\Bys w' w.heap.size v (zH s (p%M) n)/\Below w.heap.size w w':=by
 have hmk:=zaE n (by omega);have hs1:=zJ ((W1.start w p).alloc (.cells (madeCells #[.int .u8 0] n) 5))
 have hg0:Hid (((w.alloc (wc p)).alloc (.cells (madeCells #[.int .u8 0] n) 5)).heap[w.heap.size+1]? =some (.cells (madeCells #[.int .u8 0] n) 5 (0,0))):=by
  have h:=heap_alloc_new (w.alloc (wc p)) (.cells (madeCells #[.int .u8 0] n) 5);rw[show(w.alloc (wc p)).heap.size=w.heap.size+1 by simp] at h;exact h
 by_cases hp:p%M<=s.size
 ·have HU:=zJ (Yd p s.size (by omega) hp);go_enter func261,ntmps261;go_wp2_with fail
  go_at_call 284
  refine(HU.out _).mono ?_;rintro e w1 ⟨m,HMM,rfl,hb1⟩;have hle:m<=s.size:=by rw[HMM.out];exact hp
  obtain⟨k,HK⟩:∃k,Hid (k=Nat.min (s.size - m) n):=⟨_,rfl⟩;have hkn:k<=n:=by rw[HK.out];exact Nat.min_le_right _ _
  have hsz:(s.extract m s.size).size=s.size - m:=by rw[ByteArray.size_extract];omega
  have hg1:w1.heap[w.heap.size+1]? =some (.cells (madeCells #[.int .u8 0] n) 5 (0,0)):=(hb1.block _ (by simp)).trans hg0.out;have hmz:(madeCells #[.int .u8 0] n).size=n:=by rw[<-Array.length_toList,zbA];simp
  have hcp:=zmA w1 (w.heap.size+1) 0 n n k (s.extract m s.size) (madeCells #[.int .u8 0] n) 5 hg1 (by rw[hsz];exact HK.out) (by omega);have HB:=zJ (hs1.out.call hb1).be;have HG:=zJ hg1;clear hg1 hb1 hsz hg0 hs1 HU hp hmk;go_wp2;go_ret;refine⟨_,rfl,zi8 (zaA _ _ _) (by omega) ?_ hn,below_setRow HB.out (by omega) _⟩;rw[setRow_heap _ _ _ _ _ _ HG.out,zbA,zeN s m n k hle HK.out,HMM.out]
 ·have HU:=zJ (YN p s.size (by omega) (by omega));go_enter func261,ntmps261;go_wp2_with fail
  go_at_call 284
  refine(HU.out _).mono ?_;rintro e w1 ⟨rfl,hb1⟩;have hg1:w1.heap[w.heap.size+1]? =some (.cells (madeCells #[.int .u8 0] n) 5 (0,0)):=(hb1.block _ (by simp)).trans hg0.out;have HB:=zJ (hs1.out.call hb1).be;have HG:=zJ hg1;clear hg1 hb1 hg0 hs1 HU hmk;go_wp2;go_ret;refine⟨_,rfl,zi8 (zaA _ _ _) (by omega) ?_ hn,HB.out⟩;rw[ziB _ _ _ (by omega),<-zbA,Array.toArray_toList];exact HG.out
def ofL (l:List UInt8):Nat:=l.foldl (fun a b=>a*256+b.toNat) 0
def Rds (w:World) (v:Value) (l:List UInt8):Prop:=∃(ad:Option Addr) (cap:Nat),v=.slice ad l.length cap/\l.length<=cap/\(l≠[]->∃g o:Nat,ad=some ⟨g,o,none⟩/\g<w.heap.size/\∀i (h:i<l.length),w.cell? ⟨g,o+i,none⟩=some (u8v l[i]))
theorem Bys.rds {w:World} {base:Nat} {v:Value} {l:List UInt8} (h:Bys w base v l):Rds w v l:=by
 rcases h.2 with⟨h1,h2⟩|⟨g,cap,cur,h1,h2,h3,h4,h5,h6,h7⟩
 ·exact⟨none,0,by rw[h1,h2],by omega,fun hl=>absurd (List.length_eq_zero_iff.1 h2) hl⟩
 ·subst h1;refine⟨some ⟨g,0,none⟩,cap,rfl,h4,fun _=>⟨g,0,rfl,lt_of_block h3,fun i hi=> ?_⟩⟩;have hc:=World.ownsRow.cellAt h i (by rw[Nat.mul_one];exact hi);rw[Nat.zero_add,hc,List.getElem?_map,List.getElem?_eq_getElem hi];rfl
theorem zgK (l:List UInt8) (b:UInt8):ofL (l++[b])=ofL l*256+b.toNat:=by unfold ofL;rw[List.foldl_append];rfl
def zd9 (l:List UInt8) (i:Nat):Nat:=ofL (l.take i)*2^(8*(l.length - i))
theorem zkq (l:List UInt8) (i u:Nat) (h:i<l.length) (hu:u=l.length - 1 - i):zd9 l (i+1)=zd9 l i+l[i].toNat*2^(8*u)/\zd9 l i%2^(8*(u+1))=0:=by
 subst hu;unfold zd9;rw[List.take_succ_eq_append_getElem h,zgK,show l.length - (i+1)=l.length - 1 - i by omega,show l.length - i=(l.length - 1 - i)+1 by omega,show 8*(l.length - 1 - i+1)=8*(l.length - 1 - i)+8 by omega,Nat.pow_add];refine⟨?_, ?_⟩
 ·rw[Nat.add_mul,Nat.mul_assoc,Nat.mul_comm 256]
 ·rw[Nat.mul_mod_left]
theorem zle (l:List UInt8):zd9 l l.length=ofL l:=by unfold zd9;rw[List.take_length,Nat.sub_self];simp
theorem zkc (l:List UInt8):zd9 l 0=0:=by unfold zd9;rw[List.take_zero];show 0*_=0;rw[Nat.zero_mul]
theorem or_step (V b u:Nat) (hb:b<256) (hV:V%2^(8*(u+1))=0):V+b*2^(8*u)=V ||| b*2^(8*u):=by
 obtain⟨a,rfl⟩:∃a,V=2^(8*(u+1))*a:=⟨V/2^(8*(u+1)),by have:=Nat.div_add_mod V (2^(8*(u+1)));omega⟩;apply Nat.two_pow_add_eq_or_of_lt;rw[show 8*(u+1)=8+8*u by omega,Nat.pow_add];exact Nat.mul_lt_mul_of_pos_right hb (Nat.two_pow_pos _)
theorem zm5 (b u j:Nat) (hb:b<256):b*2^(8*u)/2^(64*j)%18446744073709551616=if j=u/8 then b*2^(8*(u%8)) else 0:=by
 by_cases h:j=u/8
 ·rw[if_pos h,show 8*u=64*j+8*(u%8) by omega,Nat.pow_add,Nat.mul_left_comm,Nat.mul_div_cancel_left _ (Nat.two_pow_pos _)];apply Nat.mod_eq_of_lt;have h2:2^(8*(u%8))<=2^56:=Nat.pow_le_pow_right (by omega) (by omega);have h3:b*2^(8*(u%8))<=255*2^56:=Nat.mul_le_mul (by omega) h2;omega
 ·rw[if_neg h];by_cases h2:j<u/8
  ·obtain⟨d,hd⟩:∃d,8*u=64*j+(64+d):=⟨8*u - 64*j - 64,by omega⟩;rw[hd,Nat.pow_add,Nat.mul_left_comm,Nat.mul_div_cancel_left _ (Nat.two_pow_pos _),Nat.pow_add,<-Nat.mul_assoc,Nat.mul_comm b,Nat.mul_assoc];exact Nat.mul_mod_right _ _
  ·rw[Nat.div_eq_of_lt];refine Nat.lt_of_lt_of_le (Nat.mul_lt_mul_of_pos_right hb (Nat.two_pow_pos _)) ?_;rw[show(256:Nat)=2^8 from rfl,<-Nat.pow_add];exact Nat.pow_le_pow_right (by omega) (by omega)
theorem zm2 (V b u j:Nat) (hb:b<256) (hV:V%2^(8*(u+1))=0):za (V+b*2^(8*u)) j=if j=u/8 then bits .or .u64 (za V j) ((b*2^(8*(u%8)):Nat):Int) else za V j:=by
 rw[or_step V b u hb hV,<-zaL]
 have e:za (b*2^(8*u)) j=((if j=u/8 then b*2^(8*(u%8)) else 0:Nat):Int):=by
  unfold za;rw[zm5 b u j hb]
 rw[e];by_cases h:j=u/8
 ·rw[if_pos h,if_pos h]
 ·rw[if_neg h,if_neg h];unfold za;rw[bits_or_u64_nat _ _ (Nat.mod_lt _ (by omega)) (by omega),Nat.or_zero]
theorem zdk (l:List UInt8) (hl:l.length<=32) (v:Value) (w:World) (hv:Rds w v l):Calls prog 260 #[v] w fun e w'=>e=.returned (wv (ofL l))/\Below w.heap.size w w':=by
 obtain⟨ad,cap,rfl,hcap,hc⟩:=hv;go_enter func260,ntmps260;go_wp2
 go_loopw [9] (fun t9 wr=>∃i:Nat,i<=l.length/\t9=.int .i64 i/\wr.rowIs w.heap.size 24 4 (zj fun _=>0)/\
   wr.rowIs (w.heap.size+1) 24 4 (zj (za (zd9 l i)))/\Below w.heap.size w wr)
   (fun t9 _=>l.length - (RowKit.intOf t9).toNat)
 case atStart=>
  refine⟨0,by omega,rfl,(zh (fun _=>0) rfl rfl rfl rfl rfl).alloc _, ?_,bal (bal (Below.refl _ _) _) _⟩;rw[zkc];exact zh (za 0) (by simp) (by decide) (by decide) (by decide) (by decide)
 case round=>
  obtain⟨i,hi,rfl,hrz,hra,hbel⟩:=hrel;by_cases hlt:i<l.length
  ·have d:decide ((i:Int)<(l.length:Int))=true:=decide_eq_true (by omega);obtain⟨g,o,rfl,hg,hcell⟩:=hc (by intro e;rw[e] at hlt;cases hlt);have c0:wr.cell? ⟨g,o+i,none⟩=some (u8v l[i]):=(hbel.cell (by exact hg)).trans (hcell i hlt);obtain⟨u,hu⟩:∃u:Nat,(l.length:Int) - 1 - (i:Int)=(u:Int):=⟨l.length - 1 - i,by omega⟩;obtain⟨hst,hz⟩:=zkq l i u hlt (by omega);have hb:l[i].toNat<256:=l[i].toNat_lt;unfold u8v at c0;generalize l[i].toNat=b at*;have hu32:u<32:=by omega
   clear hc hcell;have ca:=hra.cell (i:=u/8) (by omega);have fa:=hra.frozen (u/8);simp only[zj] at ca;go_wp2
   go_region
   all_goals go_wp2
   all_goals go_roundw
   case rel=>
    refine⟨i+1,by omega,by go_num,(hrz.setOther (by simp) _).drew, ?_,(hbel.setCell (by simp) _).drew⟩;refine World.rowIs.drew ((hra.set (u/8) _).congr fun j hj=> ?_);show(if j=u/8 then _ else _)=_;simp only[zj];rw[hst,zm2 _ b u j hb hz];by_cases h:j=u/8
    ·rw[if_pos h,if_pos h,h];congr 2
     have h2:b*2^(8*(u%8))<18446744073709551616:=by
      have h2:2^(8*(u%8))<=2^56:=Nat.pow_le_pow_right (by omega) (by omega);have h3:b*2^(8*(u%8))<=255*2^56:=Nat.mul_le_mul (by omega) h2;omega
     rw[zbd,Nat.mul_comm (u%8) 8,Nat.mod_eq_of_lt h2]
    ·rw[if_neg h,if_neg h]
   case measure=>simp[RowKit.intOf];omega
  ·obtain rfl:i=l.length:=by omega
   rw[zle] at hra;obtain⟨c0,c1,c2,c3⟩:=zb hra;obtain⟨z0,z1,z2,z3⟩:=zb hrz;have f0:=hrz.frozen;go_wp2;obtain⟨q0,q1,q2,q3⟩:=zb (Zw hrz (za (ofL l) 0) (za (ofL l) 1) (za (ofL l) 2) (za (ofL l) 3));simp only[Yy] at q0 q1 q2 q3;refine bodyPost_ret (v:=wv (ofL l)) (by simp[results,results260,go_sem,q0,q1,q2,q3]) rfl ⟨rfl, ?_⟩;exact(((hbel.setCell (by simp) _).setCell (by simp) _).setCell (by simp) _).setCell (by simp) _
section
def zT (n:Nat) (f:Nat->Value):List Value:=(List.range n).map f
theorem zbc (n:Nat) (f:Nat->Value):(zT n f).length=n:=by simp[zT]
theorem zhk {P:Program} {x:World} {b n:Nat} {T':TypeId} {f:Nat->Value} (hr:x.rowIs b T' n f):(loadCells ⟨b,0,none⟩ n).run P x=.ok (zT n f).toArray x:=by
 have h:=run_loadCells_list (P:=P) x ⟨b,0,none⟩ (zT n f) (fun j v hj=>by
  have hj2:j<n:=by
   have:=(List.getElem?_eq_some_iff.1 hj).1;rwa[zbc] at this
  have e:(⟨b,0,none⟩:Addr).add j=⟨b,j,none⟩:=by simp[Addr.add,eq_comm]
  rw[e,hr.cell hj2,<-hj];simp[zT,List.getElem?_map,List.getElem?_range hj2])
 rwa[zbc] at h
variable {s:Act} {x:World} {pos:String} {af:Array Edge} {g:Option (Nat×Bool)} {K:Act->World->Prop} {Q:Exit->Act->World->Prop}
theorem zkJ {T T':TypeId} {n:Nat} {f:Nat->Value} {ty:TypeId} (t d b:Nat) (hA:∀w,(isAgg T).run prog w=.ok true w) (hS:∀w,(sizeOf T).run prog w=.ok n w)
  (he:s.tmps.getD t undef=.pointer (some ⟨b,0,none⟩)) (hr:x.rowIs b T' n f) (hK:K (s.put (some d) (.agg (zT n f).toArray)) x):
  Oper.wp prog ⟨some d,.load T (.tmp t),ty,pos,af,g⟩ s x K Q:=by
 have he2:s.eval (.tmp t)=.pointer (some ⟨b,0,none⟩):=he;have hl:=zhk (P:=prog) hr;unfold Oper.wp;simp only[execOp,he2,Instr.loadAt,Instr.sureAddr,loadVar,Sem.run_bind,Sem.run_pure,Result.andThen_ok,hA,hS,if_true,hl];exact hK
theorem zdU {T T':TypeId} {n:Nat} {f:Nat->Value} {cs:List Value} {ty:TypeId} (t u b:Nat) (hS:∀w,(sizeOf T).run prog w=.ok n w) (hn:cs.length=n) (h1:∀v∈cs,v.oneCell'=true)
  (he:s.tmps.getD t undef=.pointer (some ⟨b,0,none⟩)) (hu:s.tmps.getD u undef=.agg cs.toArray) (hr:x.rowIs b T' n f) (hK:K (s.put none undef) (x.setRow b cs.toArray)):
  Oper.wp prog ⟨none,.store T (.tmp t) (.tmp u),ty,pos,af,g⟩ s x K Q:=by
 have he2:s.eval (.tmp t)=.pointer (some ⟨b,0,none⟩):=he;have hu2:s.eval (.tmp u)=.agg cs.toArray:=hu;obtain⟨c,hb,hc,_⟩:=hr;have hst:=run_storeCells_at prog b 0 T' cs 0 c x hb (by omega) h1;rw[Nat.zero_add,Nat.zero_add,List.take_zero,List.nil_append,List.drop_of_length_le (by rw[Array.length_toList];omega),List.append_nil] at hst;have hcs:(Value.agg cs.toArray).cells=cs.toArray:=rfl;unfold Oper.wp;simp only[execOp,he2,hu2,Instr.storeAt,Instr.sureAddr,storeVar,Sem.run_bind,Sem.run_pure,Result.andThen_ok,hS,hcs,List.size_toArray,hn,ne_eq,not_true_eq_false,if_false,hst];exact hK
theorem zg9 {P:Program} {fn:Func} {ts:Array Value} {a:Nat} {T:TypeId} {ad:Addr} {n:Nat} {cs:Array Value} {W:World} (hr:fn.results=#[.cell a T]) (ha:ts.getD a undef=.pointer (some ad))
  (hA:∀w,(isAgg T).run P w=.ok true w) (hS:∀w,(sizeOf T).run P w=.ok n w) (hl:(loadCells ad n).run P W=.ok cs W):(results fn ts).run P W=.ok (.agg cs) W:=by
 rw[Array.getD_eq_getD_getElem?] at ha;unfold results;rw[hr];simp[ha,asAddr,loadVar,hA,hS,hl]
def arr32 (n:Nat):Value:=.agg ((bys n 0).map u8v).toArray
theorem zbI (n:Nat) (w:World):Calls prog 283 #[wv n] w fun e w'=>e=.returned (arr32 n)/\Below w.heap.size w w':=by
 go_enter func283,ntmps283;go_wp2
 go_loopw [6] (fun t6 wr=>∃i:Nat,i<=32/\t6=.int .i64 i/\wr.rowIs w.heap.size 24 4 (zj (za n))/\wr.rowIs (w.heap.size+1) 298 32 (u8s fun _=>0)/\
   wr.rowIs (w.heap.size+1+1) 298 32 (u8s fun j=>if j<i then byn n (31 - j) else 0)/\Below w.heap.size w wr)
   (fun t6 _=>32 - (RowKit.intOf t6).toNat)
 case atStart=>
  refine⟨0,by omega,rfl,((zh (za n) rfl rfl rfl rfl rfl).alloc _).alloc _, ?_, ?_,bal (bal (bal (Below.refl _ _) _) _) _⟩
  ·refine World.rowIs.alloc ?_ _
   have h:=World.rowIs_alloc (w.alloc (wc n)) (Array.replicate 32 (.int .u8 0)) 298 (u8s fun _=>0) (fun i hi=>by
    have hi2:i<32:=by simpa using hi
    simp[u8s,hi2])
   have e:(w.alloc (wc n)).heap.size=w.heap.size+1:=by simp
   rw[e] at h;exact h
  ·have h:=World.rowIs_alloc ((w.alloc (wc n)).alloc (.cells (Array.replicate 32 (.int .u8 0)) 298)) (Array.replicate 32 (.int .u8 0)) 298 (u8s fun j=>if j<0 then byn n (31 - j) else 0) (fun i hi=>by
    have hi2:i<32:=by simpa using hi
    simp[u8s,hi2])
   have e:((w.alloc (wc n)).alloc (.cells (Array.replicate 32 (.int .u8 0)) 298)).heap.size=w.heap.size+1+1:=by simp
   rw[e] at h;exact h
 case round=>
  obtain⟨i,hi,rfl,hrw,hrz,hra,hbel⟩:=hrel;by_cases hlt:i<32
  ·have d:decide ((i:Int)<32)=true:=decide_eq_true (by omega);obtain⟨u,hu⟩:∃u:Nat,(31:Int) - (i:Int)=(u:Int):=⟨31 - i,by omega⟩;have hu32:u<32:=by omega
   have cw:=hrw.cell (i:=u/8) (by omega);have ca:=hra.cell hlt;have fa:=hra.frozen i;have hby:=ziA n (u/8) (u%8) (by omega);rw[show 8*(u/8)+u%8=u by omega] at hby;simp only[zj,yo] at cw;simp only[u8s] at ca;go_wp2;refine⟨⟨i+1,by omega,by go_num,hrw.setOther (by simp;omega) _,hrz.setOther (by simp) _,(hra.set i _).congr fun j hj=> ?_,hbel.setCell (by simp;omega) _⟩,by simp[RowKit.intOf];omega⟩;show(if j=i then _ else _)=_;simp only[u8s];by_cases h:j=i
   ·rw[if_pos h,if_pos (by omega),show 31 - j=u by omega,<-hby,Nat.mul_comm (u%8) 8];congr 1
   ·rw[if_neg h];by_cases h2:j<i
    ·rw[if_pos h2,if_pos (by omega)]
    ·rw[if_neg h2,if_neg (by omega)]
  ·obtain rfl:i=32:=by omega
   have d:decide (((32:Nat):Int)<32)=false:=by decide
   have hcells:Hid (zT 32 (u8s fun j=>if j<32 then byn n (31 - j) else 0)=(bys n 0).map u8v):=by
    show _=_;unfold zT bys;rw[List.map_map];refine List.map_congr_left fun j hj=> ?_
    have hj2:j<32:=List.mem_range.1 hj;simp only[u8s,if_pos hj2,Function.comp];unfold u8v;rw[Z9]
   go_upto_region 8 with fail
   refine wp_region_lit ?_;refine wpList_plain rfl fun K hK=> ?_
   refine zkJ 3 23 (w.heap.size+1+1) (fun w=>by kernel_rfl) (fun w=>by kernel_rfl) rfl hra (hK _ _ ?_);rw[hcells.out];refine wpList_plain rfl fun K2 hK2=> ?_
   refine zdU (cs:=(bys n 0).map u8v) 2 23 (w.heap.size+1) (fun w=>by kernel_rfl) (by simp[bys]) (zba _) rfl rfl hrz (hK2 _ _ ?_);refine wpList_nil ?_
   have hrow:(wr.setRow (w.heap.size+1) ((bys n 0).map u8v).toArray).heap[w.heap.size+1]? =some (.cells ((bys n 0).map u8v).toArray 298 (0,0)):=by
    obtain⟨c,hb,_⟩:=hrz;exact setRow_heap wr _ _ _ _ _ hb
   have HB:Hid (Below w.heap.size w (wr.setRow (w.heap.size+1) ((bys n 0).map u8v).toArray)):=below_setRow hbel (by omega) _;generalize wr.setRow (w.heap.size+1) ((bys n 0).map u8v).toArray=W at*
   have HR:Hid ((loadCells ⟨w.heap.size+1,0,none⟩ 32).run prog W=.ok ((bys n 0).map u8v).toArray W):=by
    have h:=run_loadCells_list (P:=prog) W ⟨w.heap.size+1,0,none⟩ ((bys n 0).map u8v) (fun j v hj=>by
     have e:(⟨w.heap.size+1,0,none⟩:Addr).add j=⟨w.heap.size+1,j,none⟩:=by simp[Addr.add,eq_comm]
     rw[e];simp only[World.cell?,hrow];simpa using hj)
    rw[show((bys n 0).map u8v).length=32 by simp[bys]] at h;exact h
   clear hrow hra hrz hrw hbel hcells;go_wp2;exact bodyPost_ret (v:=arr32 n) (zg9 results283 rfl (fun w=>by kernel_rfl) (fun w=>by kernel_rfl) HR.out) rfl ⟨rfl,HB.out⟩
theorem zas {P:Program} {T e:TypeId} {n i:Nat} {A:Array Value} {v:Value} (hu:P.underlying T=some (.array n e)) (hS:∀w,(sizeOf e).run P w=.ok 1 w) (hA:∀w,(isAgg e).run P w=.ok false w) (hi:i<n) (ha:A[i]? =some v) (w:World):
  (Instr.index T (.agg A) (.int .i64 (i:Int))).run P w=.ok v w:=by
 have h2:(i:Int)<(n:Int):=by omega
 simp[Instr.index,asIntOf,run_underlying hu,hS,hA,part,h2,ha];intro h;omega
theorem zji:prog.underlying 298=some (.array 32 5):=by kernel_rfl
theorem za5:∀(l:List UInt8) (i:Nat),(∀j (h:j<l.length),j<i->l[j]=0)->(∀h:i<l.length,l[i]≠0)->(l.dropWhile (·==0)).length=l.length - i
 |[],i,_,_=>by simp
 |b::l,0,h1,h2=>by
  have h:=h2 (by simp);have e:(b==0)=false:=by simpa using h
  rw[List.dropWhile_cons,e];rfl
 |b::l,i+1,h1,h2=>by
  have h:=h1 0 (by simp) (by omega);have e:(b==0)=true:=by simpa using h
  rw[List.dropWhile_cons,e,if_pos rfl,za5 l i (fun j hj hi=>h1 (j+1) (by simp;omega) (by omega)) (fun hi=>h2 (by simp;omega)),List.length_cons];omega
theorem zl7 (n j:Nat) (h:j<(bys n 0).length):(bys n 0)[j]=UInt8.ofNat (byn n (31 - j)):=by simp[bys]
theorem pl_at (n i:Nat) (h1:∀j,j<i->byn n (31 - j)=0) (h2:i<32->byn n (31 - i)≠0):(pl n 0).length=32 - i:=by
 have hl:(bys n 0).length=32:=by simp[bys]
 unfold pl;rw[za5 (bys n 0) i,hl]
 ·intro j hj hi;rw[zl7,h1 j hi];rfl
 ·intro hi e;rw[zl7] at e;have:=congrArg UInt8.toNat e;rw[Z9] at this;exact h2 (by omega) this
theorem YI (n:Nat) (w:World):Calls prog 258 #[wv n] w fun e w'=>e=.returned (.int .i64 ((pl n 0).length:Int))/\Below w.heap.size w w':=by
 have HT:=zJ (zbI n);have hs:=W1.start w n;go_enter func258,ntmps258;go_wp2_with fail
 refine(HT.out _).mono ?_;rintro e w1 ⟨rfl,hb1⟩;replace hs:=zJ (hs.call hb1).be;unfold arr32;obtain⟨A,hA⟩:∃A,A=((bys n 0).map u8v).toArray:=⟨_,rfl⟩;rw[<-hA];have hsz:A.size=32:=by rw[hA];simp[bys]
 have hat:Hid (∀i,i<32->A[i]? =some (.int .u8 (byn n (31 - i):Int))):=fun i hi=>by
  rw[hA];simp only[List.getElem?_toArray,bys,List.map_map,List.getElem?_map,List.getElem?_range hi,Option.map_some,Function.comp,u8v,Z9,Nat.sub_zero]
 clear hA hb1 HT;go_wp2
 go_loopw [7] (fun t7 wr=>∃i:Nat,i<=32/\t7=.int .i64 i/\Hid (∀j,j<i->byn n (31 - j)=0)/\Hid (wr=w1))
   (fun t7 _=>32 - (RowKit.intOf t7).toNat)
 case atStart=>exact⟨0,by omega,rfl,fun j hj=>by omega,rfl⟩
 case round=>
  obtain⟨i,hi,rfl,HZ,HW⟩:=hrel;obtain rfl:=HW.out;by_cases hlt:i<32
  ·have d:decide ((i:Int)<32)=true:=decide_eq_true (by omega);have ha:=hat.out i hlt;by_cases hz:byn n (31 - i)=0
   ·rw[hz] at ha
    have HN:Hid (∀j,j<i+1->byn n (31 - j)=0):=fun j hj=>by
     by_cases e:j=i
     ·rw[e];exact hz
     ·exact HZ.out j (by omega)
    have hix:=zas zji (fun w=>by kernel_rfl) (fun w=>by kernel_rfl) hlt ha;clear hz HZ HW;go_wp2;refine⟨⟨i+1,by omega,by go_num,HN,by first|exact rfl|exact trivial⟩,by simp[RowKit.intOf];omega⟩
   ·have d2:((byn n (31 - i):Int) !=0)=true:=by simp;exact hz
    have HR:=zJ (pl_at n i HZ.out (fun _=>hz));have hix:=zas zji (fun w=>by kernel_rfl) (fun w=>by kernel_rfl) hlt ha;clear hz HZ HW;go_wp2;go_ret;refine⟨?_,hs.out⟩;rw[HR.out];exact congrArg (fun z=>Ending.returned (Value.int .i64 z)) (by omega)
  ·obtain rfl:i=32:=by omega
   have d:decide (((32:Nat):Int)<32)=false:=by decide
   have HR:=zJ (pl_at n 32 HZ.out (fun h=>absurd h (by omega)));clear HZ HW;go_wp2;go_ret;exact⟨by rw[HR.out];rfl,hs.out⟩
end
def YL (s:ByteArray):Option Nat:=((lk tabRec (bl s)).orElse fun _=>lk tabCmp (bl s)).orElse fun _=>(lk tabSur (bl s)).orElse fun _=>(lk tabKee (bl s)).orElse fun _=>YA s
theorem zj7 (s:ByteArray) (hs:s.size<=2000) (w:World):Calls prog 143 #[.string s] w fun e w'=>e=.returned (pr (YL s))/\w'=w:=by
 obtain⟨o1,H1⟩:∃o,Hid (o=(lk tabRec (bl s)).orElse fun _=>lk tabCmp (bl s)):=⟨_,rfl⟩;obtain⟨o2,H2⟩:∃o,Hid (o=lk tabSur (bl s)):=⟨_,rfl⟩;obtain⟨o3,H3⟩:∃o,Hid (o=lk tabKee (bl s)):=⟨_,rfl⟩;obtain⟨o4,H4⟩:∃o,Hid (o=YA s):=⟨_,rfl⟩;have HN:Hid (YL s=o1.orElse fun _=>o2.orElse fun _=>o3.orElse fun _=>o4):=by show _=_;rw[H1.out,H2.out,H3.out,H4.out];rfl
 have C1:Hid (∀w,Calls prog 196 #[.string s] w fun e w'=>e=.returned (pr o1)/\w'=w):=fun w=>by rw[H1.out];exact Rec_any s hs w
 have C2:Hid (∀w,Calls prog 197 #[.string s] w fun e w'=>e=.returned (pr o2)/\w'=w):=fun w=>by rw[H2.out];exact Sur_any s hs w
 have C3:Hid (∀w,Calls prog 198 #[.string s] w fun e w'=>e=.returned (pr o3)/\w'=w):=fun w=>by rw[H3.out];exact Kee_any s hs w
 have C4:Hid (∀w,Calls prog 199 #[.string s] w fun e w'=>e=.returned (pr o4)/\w'=w):=fun w=>by rw[H4.out];exact zj3 s hs w
 clear H1 H2 H3 H4;go_enter func143,ntmps143;go_wp2_with fail
 refine(C1.out _).mono ?_;rintro e w' ⟨rfl,rfl⟩;cases o1 with
 |some v=>
  unfold pr;simp only[Option.getD_some,Option.isSome_some];go_wp2;go_ret2;exact⟨by rw[HN.out];rfl,rfl⟩
 |none=>
  unfold pr;simp only[Option.getD_none,Option.isSome_none];go_wp2_with fail
  refine(C2.out _).mono ?_;rintro e w' ⟨rfl,rfl⟩;cases o2 with
  |some v=>
   unfold pr;simp only[Option.getD_some,Option.isSome_some];go_wp2;go_ret2;exact⟨by rw[HN.out];rfl,rfl⟩
  |none=>
   unfold pr;simp only[Option.getD_none,Option.isSome_none];go_wp2_with fail
   refine(C3.out _).mono ?_;rintro e w' ⟨rfl,rfl⟩;cases o3 with
   |some v=>
    unfold pr;simp only[Option.getD_some,Option.isSome_some];go_wp2;go_ret2;exact⟨by rw[HN.out];rfl,rfl⟩
   |none=>
    unfold pr;simp only[Option.getD_none,Option.isSome_none];go_wp2_with fail
    refine(C4.out _).mono ?_;rintro e w' ⟨rfl,rfl⟩;unfold pr;go_wp2;go_ret2;exact⟨by rw[HN.out];rfl,rfl⟩
section
theorem p11 {i:Nat} (h:i<11):i=0\/i=1\/i=2\/i=3\/i=4\/i=5\/i=6\/i=7\/i=8\/i=9\/i=10:=by omega
theorem len11 {vs:List Value} (h:vs.length=11):∃v0 v1 v2 v3 v4 v5 v6 v7 v8 v9 v10:Value,vs=[v0,v1,v2,v3,v4,v5,v6,v7,v8,v9,v10]:=by
 match vs,h with
 |[v0,v1,v2,v3,v4,v5,v6,v7,v8,v9,v10],_=>exact⟨v0,v1,v2,v3,v4,v5,v6,v7,v8,v9,v10,rfl⟩
section
variable {s:Act} {x:World} {pos:String} {af:Array Edge} {g:Option (Nat×Bool)} {K:Act->World->Prop} {Q:Exit->Act->World->Prop}
theorem wrap_s (z:Int) (h0:0<=z) (h1:z<=20000):IntKind.i64.wrap z=z:=by
 rw[IntKind.wrap_i64];omega
theorem zmW (t d k:Nat) (he:s.tmps.getD t undef=.int .i64 (k:Int)) (hK:K (s.put (some d) (.int .i64 ((k%10:Nat):Int))) x) {ty:TypeId}:
  Oper.wp prog ⟨some d,.binOp .rem 3 (.tmp t) (.const (.int .i64 10)) 3,ty,pos,af,g⟩ s x K Q:=by
 have he2:s.eval (.tmp t)=.int .i64 (k:Int):=he;rw[Int.natCast_emod] at hK;go_simp;exact hK
theorem zlg (t d k:Nat) (hk:k<200) (he:s.tmps.getD t undef=.int .i64 (k:Int)) (hK:K (s.put (some d) (.int .i64 (48+(k:Int)))) x) {ty:TypeId}:
  Oper.wp prog ⟨some d,.binOp .add 3 (.const (.int .i64 48)) (.tmp t) 3,ty,pos,af,g⟩ s x K Q:=by
 have he2:s.eval (.tmp t)=.int .i64 (k:Int):=he;have hw:=wrap_s (48+(k:Int)) (by omega) (by omega);go_simp;exact hK
theorem zlF (t d k:Nat) (hk:k<200) (he:s.tmps.getD t undef=.int .i64 (48+(k:Int))) (hK:K (s.put (some d) (.int .u8 (48+(k:Int)))) x) {ty:TypeId}:
  Oper.wp prog ⟨some d,.convert 3 5 (.tmp t),ty,pos,af,g⟩ s x K Q:=by
 have he2:s.eval (.tmp t)=.int .i64 (48+(k:Int)):=he;have hw:IntKind.u8.wrap (48+(k:Int))=48+(k:Int):=by simp[IntKind.wrap,IntKind.bits,IntKind.signed];omega
 go_simp;exact hK
theorem zky (t d:Nat) (c:Int) (he:s.tmps.getD t undef=.int .u8 c) (hK:K (s.put (some d) (.slice (some ⟨x.heap.size,0,none⟩) 1 1)) (x.alloc (.cells #[.int .u8 c] 5))) {ty:TypeId}:
  Oper.wp prog ⟨some d,.buildSlice 26 1 #[(0,.tmp t)],ty,pos,af,g⟩ s x K Q:=by
 have he2:s.eval (.tmp t)=.int .u8 c:=he;have he3:s.tmps[t]?.getD undef=.int .u8 c:=by rw[<-Array.getD_eq_getD_getElem?];exact he
 go_simp;exact hK
def One (c:Int) (v:Value) (x:World):Prop:=∃b,v=.slice (some ⟨b,0,none⟩) 1 1/\x.rowIs b 5 1 (fun _=>.int .u8 c)
theorem One.below {c:Int} {v:Value} {x x':World} (h:One c v x) (hb:Below x.heap.size x x'):One c v x':=by
 obtain⟨b,h1,h2⟩:=h;exact⟨b,h1,zf h2 hb⟩
theorem zkU (t d:Nat) (c:Int) (he:One c (s.tmps.getD t undef) x) (hK:K (s.put (some d) (.string ⟨#[UInt8.ofNat c.toNat]⟩)) x) {ty:TypeId}:
  Oper.wp prog ⟨some d,.convert 26 9 (.tmp t),ty,pos,af,g⟩ s x K Q:=by
 obtain⟨b,he,hr⟩:=he;have he2:s.eval (.tmp t)=.slice (some ⟨b,0,none⟩) 1 1:=he
 have h:=run_convert_bytes_arg (P:=prog) x 26 5 (by kernel_rfl) (by kernel_rfl) b 0 1 1 [c] rfl (fun i hi=>by
  obtain rfl:i=0:=by omega
  exact hr.cell (by omega)) 9 (by kernel_rfl)
 have h2:(convert 26 9 (.slice (some ⟨b,0,none⟩) 1 1)).run prog x=.ok (.string ⟨#[UInt8.ofNat c.toNat]⟩) x:=h;clear h;go_simp;exact hK
theorem st_cat (t u d:Nat) (a b:ByteArray) (ha:a.size<=2000) (hb:b.size<=2000) (he:s.tmps.getD t undef=.string a) (hu:s.tmps.getD u undef=.string b) (hK:K (s.put (some d) (.string (a++b))) x) {ty:TypeId}:
  Oper.wp prog ⟨some d,.binOp .add 9 (.tmp t) (.tmp u) 9,ty,pos,af,g⟩ s x K Q:=by
 have he2:s.eval (.tmp t)=.string a:=he;have hu2:s.eval (.tmp u)=.string b:=hu;go_simp;rw[if_neg (by omega)];exact hK
end
end
def nsA:List ByteArray:=[⟨#[83,84,79,80]⟩,⟨#[65,68,68]⟩,⟨#[77,85,76]⟩,⟨#[83,85,66]⟩,⟨#[68,73,86]⟩,⟨#[83,68,73,86]⟩,⟨#[77,79,68]⟩,⟨#[83,77,79,68]⟩,⟨#[65,68,68,77,79,68]⟩,⟨#[77,85,76,77,79,68]⟩,⟨#[69,88,80]⟩,⟨#[83,73,71,78,69,88,84,69,78,68]⟩]
def nsB:List ByteArray:=[⟨#[76,84]⟩,⟨#[71,84]⟩,⟨#[83,76,84]⟩,⟨#[83,71,84]⟩,⟨#[69,81]⟩,⟨#[73,83,90,69,82,79]⟩,⟨#[65,78,68]⟩,⟨#[79,82]⟩,⟨#[88,79,82]⟩,⟨#[78,79,84]⟩,⟨#[66,89,84,69]⟩,⟨#[83,72,76]⟩,⟨#[83,72,82]⟩,⟨#[83,65,82]⟩]
def nsC:List ByteArray:=[⟨#[65,68,68,82,69,83,83]⟩,⟨#[66,65,76,65,78,67,69]⟩,⟨#[]⟩,⟨#[67,65,76,76,69,82]⟩,⟨#[67,65,76,76,86,65,76,85,69]⟩,⟨#[67,65,76,76,68,65,84,65,76,79,65,68]⟩,⟨#[67,65,76,76,68,65,84,65,83,73,90,69]⟩,⟨#[67,65,76,76,68,65,84,65,67,79,80,89]⟩,⟨#[67,79,68,69,83,73,90,69]⟩,⟨#[67,79,68,69,67,79,80,89]⟩,⟨#[]⟩,⟨#[]⟩,⟨#[]⟩,⟨#[82,69,84,85,82,78,68,65,84,65,83,73,90,69]⟩,⟨#[82,69,84,85,82,78,68,65,84,65,67,79,80,89]⟩]
def nsD:List ByteArray:=[⟨#[80,79,80]⟩,⟨#[77,76,79,65,68]⟩,⟨#[77,83,84,79,82,69]⟩,⟨#[77,83,84,79,82,69,56]⟩,⟨#[83,76,79,65,68]⟩,⟨#[83,83,84,79,82,69]⟩,⟨#[74,85,77,80]⟩,⟨#[74,85,77,80,73]⟩,⟨#[80,67]⟩,⟨#[77,83,73,90,69]⟩,⟨#[71,65,83]⟩,⟨#[74,85,77,80,68,69,83,84]⟩,⟨#[84,76,79,65,68]⟩,⟨#[84,83,84,79,82,69]⟩,⟨#[77,67,79,80,89]⟩]
def tabZ:List (List UInt8×Nat):=[([67,65,76,76],241),([82,69,84,85,82,78],243),([68,69,76,69,71,65,84,69,67,65,76,76],244),([83,84,65,84,73,67,67,65,76,76],250),([82,69,86,69,82,84],253)]
def fnd (ns:List ByteArray) (l:List UInt8):Nat->Nat->Option Nat
 |0,_=>none
 |f+1,i=>if bl (ns.getD i ⟨#[]⟩)=l then some i else fnd ns l f (i+1)
def rowR (l:List UInt8):Nat->Nat->Option Nat
 |0,_=>none
 |f+1,i=>if l=bl ((⟨#[68,85,80]⟩:ByteArray)++dcs i) then some (127+i) else if l=bl ((⟨#[83,87,65,80]⟩:ByteArray)++dcs i) then some (143+i) else if i<=5/\l=bl ((⟨#[76,79,71]⟩:ByteArray)++dcs (i - 1)) then some (159+i) else rowR l f (i+1)
def rnm (s:ByteArray):Int:=match fnd nsA (bl s) 12 0 with
 |some i=>(0:Int)+i
 |none=>match fnd nsB (bl s) 14 0 with
  |some i=>(16:Int)+i
  |none=>match fnd nsC (bl s) 15 0 with
   |some i=>(48:Int)+i
   |none=>match fnd nsD (bl s) 15 0 with
    |some i=>(80:Int)+i
    |none=>match rowR (bl s) 16 1 with
     |some v=>(v:Int)
     |none=>match lk tabZ (bl s) with
      |some v=>(v:Int)
      |none=> -1
def ze5 (l:List UInt8):Option Nat:=((lk tabRec l).orElse fun _=>lk tabCmp l).orElse fun _=>(lk tabSur l).orElse fun _=>(lk tabKee l).orElse fun _=>(zaC l 16 0).orElse fun _=>zbx l 5 0
def rnmL (l:List UInt8):Int:=match fnd nsA l 12 0 with
 |some i=>(0:Int)+i
 |none=>match fnd nsB l 14 0 with
  |some i=>(16:Int)+i
  |none=>match fnd nsC l 15 0 with
   |some i=>(48:Int)+i
   |none=>match fnd nsD l 15 0 with
    |some i=>(80:Int)+i
    |none=>match rowR l 16 1 with
     |some v=>(v:Int)
     |none=>match lk tabZ l with
      |some v=>(v:Int)
      |none=> -1
theorem named_l (s:ByteArray):YL s=ze5 (bl s):=rfl
def orm (o:Option Nat):Int:=match o with
 |some v=>(v:Int)
 |none=> -1
def zb9:List (List UInt8):=((List.range 16).map fun i=>bl (dup i))++(((List.range 16).map fun i=>bl (swp i))++(List.range 5).map fun i=>bl (lgs i))
def keys:List (List UInt8):=(tabRec.map Prod.fst)++((tabCmp.map Prod.fst)++((tabSur.map Prod.fst)++((tabKee.map Prod.fst)++zb9)))
theorem zhz:∀(tab:List (List UInt8×Nat)) (l:List UInt8),(∀p∈tab,p.1≠l)->lk tab l=none
 |[],_,_=>rfl
 |(a,v)::r,l,h=>by
  rw[lk,if_neg (fun e=>h (a,v) List.mem_cons_self e.symm)];exact zhz r l fun p hp=>h p (List.mem_cons_of_mem _ hp)
theorem fnd_out (ns:List ByteArray) (l:List UInt8):∀f i,(∀j,i<=j->j<i+f->bl (ns.getD j ⟨#[]⟩)≠l)->fnd ns l f i=none
 |0,_,_=>rfl
 |f+1,i,h=>by
  rw[fnd,if_neg (h i (by omega) (by omega))];exact fnd_out ns l f (i+1) fun j h1 h2=>h j (by omega) (by omega)
theorem zf9 (l:List UInt8):∀f i,(∀j,i<=j->j<i+f->l≠bl (dup j)/\l≠bl (swp j))->zaC l f i=none
 |0,_,_=>rfl
 |f+1,i,h=>by
  have h0:=h i (by omega) (by omega);rw[zaC,if_neg h0.1,if_neg h0.2];exact zf9 l f (i+1) fun j h1 h2=>h j (by omega) (by omega)
theorem zgp (l:List UInt8):∀f i,(∀j,i<=j->j<i+f->l≠bl (lgs j))->zbx l f i=none
 |0,_,_=>rfl
 |f+1,i,h=>by
  rw[zbx,if_neg (h i (by omega) (by omega))];exact zgp l f (i+1) fun j h1 h2=>h j (by omega) (by omega)
theorem zaW (tab:List (List UInt8×Nat)) (h:(tab.all fun p=>keys.contains p.1)=true) (l:List UInt8) (hl:l∉keys):lk tab l=none:=
 zhz tab l fun p hp e=>hl (by
  have:=List.all_eq_true.1 h p hp;rw[e] at this;simpa using this)
theorem dup_key (j:Nat) (h:j<16):bl (dup j)∈keys:=by
 unfold keys zb9;simp only[List.mem_append,List.mem_map,List.mem_range];exact Or.inr (Or.inr (Or.inr (Or.inr (Or.inl ⟨j,h,rfl⟩))))
theorem swp_key (j:Nat) (h:j<16):bl (swp j)∈keys:=by
 unfold keys zb9;simp only[List.mem_append,List.mem_map,List.mem_range];exact Or.inr (Or.inr (Or.inr (Or.inr (Or.inr (Or.inl ⟨j,h,rfl⟩)))))
theorem lgs_key (j:Nat) (h:j<5):bl (lgs j)∈keys:=by
 unfold keys zb9;simp only[List.mem_append,List.mem_map,List.mem_range];exact Or.inr (Or.inr (Or.inr (Or.inr (Or.inr (Or.inr ⟨j,h,rfl⟩)))))
end cin
end Go.Proofs.YtohoajjdoihekaaGreatDoor
