import Derived.Test.YtohoajjdoihekaaGreatDoorWo
import Derived.RegionTactic
import Derived.Deep.DeepCutAuto
import Derived.Laws.BytesArg
import Derived.Laws.ShiftsVarLaws
import Derived.Laws.CopyRow
import Derived.Laws.CopyOwn
set_option linter.unusedVariables false
set_option linter.unusedSimpArgs false
namespace Go.Proofs.YtohoajjdoihekaaGreatDoor
namespace cin
open Go.RowKit Go.Proofs.Tryz Tryz
set_option maxRecDepth 100000
set_option maxHeartbeats 8000000
section
variable {P:Program} {ops:Array Oper} {Q:Exit->Act->World->Prop}
theorem zaf (s:Act) (d:Nat) (v:Value) (k:Nat) (hd:d<s.tmps.size):(s.put (some d) v).tmps.getD k undef=if k=d then v else s.tmps.getD k undef:=by
 simp only[Act.put,Array.getD_eq_getD_getElem?,Array.getElem?_setIfInBounds];by_cases e:d=k
 ·subst e;simp[hd]
 ·rw[if_neg e,if_neg (fun h=>e h.symm)]
theorem za1 (s:Act) (d:Nat) (v:Value):(s.put (some d) v).tmps.size=s.tmps.size:=by simp[Act.put]
theorem zcz (s:Act) (d:Nat) (v:Value):(s.put (some d) v).defers=s.defers:=rfl
def zF (a:Act) (tab:List (Nat×Value)):Act:=tab.foldl (fun s p=>s.put (some p.1) p.2) a
theorem zdS:∀(tab:List (Nat×Value)) (a:Act),(zF a tab).tmps.size=a.tmps.size
 |[],_=>rfl
 |p::tab,a=>by
  show(zF (a.put (some p.1) p.2) tab).tmps.size=_;rw[zdS tab,za1]
theorem zbP:∀(tab:List (Nat×Value)) (a:Act),(zF a tab).defers=a.defers
 |[],_=>rfl
 |p::tab,a=>by
  show(zF (a.put (some p.1) p.2) tab).defers=_;rw[zbP tab,zcz]
theorem zcV:∀(tab:List (Nat×Value)) (a:Act) (k:Nat),(∀p∈tab,p.1<a.tmps.size)->(∀p∈tab,p.1≠k)->(zF a tab).tmps.getD k undef=a.tmps.getD k undef
 |[],_,_,_,_=>rfl
 |p::tab,a,k,hl,hk=>by
  show(zF (a.put (some p.1) p.2) tab).tmps.getD k undef=_;rw[zcV tab _ k (fun q hq=>by rw[za1];exact hl q (List.mem_cons_of_mem _ hq)) (fun q hq=>hk q (List.mem_cons_of_mem _ hq)),zaf _ _ _ _ (hl p List.mem_cons_self),if_neg (fun h=>hk p List.mem_cons_self h.symm)]
theorem zit:∀(tab:List (Nat×Value)) (a:Act) (d:Nat) (v:Value),(∀p∈tab,p.1<a.tmps.size)->(tab.map Prod.fst).Nodup->(d,v)∈tab->(zF a tab).tmps.getD d undef=v
 |[],_,_,_,_,_,h=>by cases h
 |p::tab,a,d,v,hl,hn,h=>by
  rw[List.map_cons,List.nodup_cons] at hn;show(zF (a.put (some p.1) p.2) tab).tmps.getD d undef=_;rcases List.mem_cons.1 h with rfl|h
  ·rw[zcV tab _ d (fun q hq=>by rw[za1];exact hl q (List.mem_cons_of_mem _ hq)) (fun q hq e=>hn.1 (List.mem_map.2 ⟨q,hq,e⟩)),zaf _ _ _ _ (hl _ List.mem_cons_self),if_pos rfl]
  ·exact zit tab _ d v (fun q hq=>by rw[za1];exact hl q (List.mem_cons_of_mem _ hq)) hn.2 h
theorem zmv {s t:Act} (h1:s.tmps.size=t.tmps.size) (h2:s.defers=t.defers) (h3:∀k,k<t.tmps.size->s.tmps.getD k undef=t.tmps.getD k undef):s=t:=by
 obtain⟨st,sd⟩:=s;obtain⟨tt,td⟩:=t;simp only at h1 h2 h3;subst h2;congr 1;apply Array.ext h1;intro k hk1 hk2;have:=h3 k hk2;simpa[Array.getD_eq_getD_getElem?,hk1,hk2] using this
end
section
theorem zs {ops:Array Oper} {o:Oper} {t:Array Value} (h:o.guard=none):Region.wanted o (yielded ops t)=true:=by unfold Region.wanted;rw[h]
theorem znJ {ops:Array Oper} {o og:Oper} {t:Array Value} {g d:Nat} (h:o.guard=some (g,true)) (hg:ops[g]? =some og) (hd:og.dst=some d) (hv:t.getD d undef=.bool true):Region.wanted o (yielded ops t)=true:=by
 unfold Region.wanted;rw[h];unfold yielded;simp only[hg,Option.bind_some,hd];rw[Array.getD_eq_getD_getElem?] at hv;cases hx:t[d]? with
 |none=>rw[hx] at hv;simp[undef] at hv
 |some v=>rw[hx] at hv;simp only[Option.getD_some] at hv;subst hv;rfl
variable {s:Act} {x:World} {pos:String} {af:Array Edge} {g:Option (Nat×Bool)} {K:Act->World->Prop} {Q:Exit->Act->World->Prop}
theorem YU (t d b n:Nat) (he:s.tmps.getD t undef=.pointer (some ⟨b,0,none⟩)) (hr:x.rowIs b 24 4 (zo (za n))) (hK:K (s.put (some d) (wv n)) x):
  Oper.wp prog ⟨some d,.load 24 (.tmp t),24,pos,af,g⟩ s x K Q:=by
 obtain⟨y0,y1,y2,y3⟩:=ze hr;have he2:s.eval (.tmp t)=.pointer (some ⟨b,0,none⟩):=he;go_simp;exact hK
theorem YY (t d:Nat) (v:Value) (he:s.tmps.getD t undef=v) (hK:K (s.put (some d) v) x) {ty:TypeId}:
  Oper.wp prog ⟨some d,.move (.tmp t),ty,pos,af,g⟩ s x K Q:=by
 have he2:s.eval (.tmp t)=v:=he;go_simp;rw[he] at*;exact hK
theorem zdQ (t d:Nat) (v:Value) (he:s.tmps.getD t undef=v) (hK:K (s.put (some d) v) x) {ty:TypeId}:
  Oper.wp prog ⟨some d,.assign (.tmp t),ty,pos,af,g⟩ s x K Q:=by
 have he2:s.eval (.tmp t)=v:=he;go_simp;rw[he] at*;exact hK
end

section
variable {s:Act} {x:World} {pos:String} {af:Array Edge} {g:Option (Nat×Bool)} {K:Act->World->Prop} {Q:Exit->Act->World->Prop}
end
section
theorem zli {ops:Array Oper} {o og:Oper} {t:Array Value} {g d:Nat} (h:o.guard=some (g,false)) (hg:ops[g]? =some og) (hd:og.dst=some d) (hv:t.getD d undef=.bool false):Region.wanted o (yielded ops t)=true:=by
 unfold Region.wanted;rw[h];unfold yielded;simp only[hg,Option.bind_some,hd];rw[Array.getD_eq_getD_getElem?] at hv;cases hx:t[d]? with
 |none=>rw[hx] at hv;simp[undef] at hv
 |some v=>rw[hx] at hv;simp only[Option.getD_some] at hv;subst hv;rfl
variable {s:Act} {x:World} {pos:String} {af:Array Edge} {g:Option (Nat×Bool)} {K:Act->World->Prop} {Q:Exit->Act->World->Prop}
end
def cym (a b d k:Nat):Nat:=(a%2^(64*k)*b+d)/2^(64*k)
theorem cym0 (a b d:Nat):cym a b d 0=d:=by unfold cym;rw[pw0,Nat.mod_one,Nat.zero_mul,Nat.zero_add,Nat.div_one]
theorem zpL (a b d k:Nat):zO a k*b+cym a b d k=cym a b d (k+1)*18446744073709551616+zO (a*b+d) k:=by
 have hq:zO a k=a/2^(64*k)%18446744073709551616:=rfl;have hr:zO (a*b+d) k=(a*b+d)/2^(64*k)%18446744073709551616:=rfl;have hp:2^(64*(k+1))=2^(64*k)*18446744073709551616:=by rw[Nat.mul_succ,Nat.pow_add]
 unfold cym;rw[hq,hr,hp];obtain⟨P,hP,hP0⟩:∃P,P=2^(64*k)/\0<P:=⟨_,rfl,Nat.two_pow_pos _⟩;rw[<-hP];obtain⟨x,hx⟩:∃x,x=a%P:=⟨_,rfl⟩;obtain⟨h,hh⟩:∃h,h=a/P:=⟨_,rfl⟩;have ha:a=P*h+x:=by rw[hh,hx,Nat.div_add_mod]
 have hxl:x<P:=by rw[hx];exact Nat.mod_lt _ hP0
 obtain⟨q,hqq⟩:∃q,q=h%18446744073709551616:=⟨_,rfl⟩;obtain⟨g,hg⟩:∃g,g=h/18446744073709551616:=⟨_,rfl⟩;have hhg:h=18446744073709551616*g+q:=by rw[hg,hqq,Nat.div_add_mod]
 have e1:a%(P*18446744073709551616)=P*q+x:=by
  rw[Nat.mod_mul,<-hx,<-hh,<-hqq,Nat.add_comm]
 rw[e1,<-hx,<-hh,<-hqq];have e2:(P*q+x)*b+d=P*(q*b)+(x*b+d):=by rw[Nat.add_mul,Nat.mul_assoc,Nat.add_assoc]
 have e3:((P*q+x)*b+d)/(P*18446744073709551616)=(q*b+(x*b+d)/P)/18446744073709551616:=by
  rw[<-Nat.div_div_eq_div_mul,e2,Nat.mul_add_div hP0]
 have e4:(a*b+d)/P=h*b+(x*b+d)/P:=by
  rw[ha,show(P*h+x)*b+d=P*(h*b)+(x*b+d) by rw[Nat.add_mul,Nat.mul_assoc,Nat.add_assoc],Nat.mul_add_div hP0]
 rw[e3,e4];generalize(x*b+d)/P=c;have e5:h*b+c=18446744073709551616*(g*b)+(q*b+c):=by rw[hhg,Nat.add_mul,Nat.mul_assoc,Nat.add_assoc]
 rw[e5,Nat.mul_add_mod];generalize q*b+c=t;omega
theorem cym_lt (a b d k:Nat) (hb:b<100) (hd:d<100):cym a b d k<200:=by
 unfold cym;have hP:0<2^(64*k):=Nat.two_pow_pos _;rw[Nat.div_lt_iff_lt_mul hP];have h1:a%2^(64*k)<2^(64*k):=Nat.mod_lt _ hP;have h2:a%2^(64*k)*b<=2^(64*k)*99:=Nat.mul_le_mul (by omega) (by omega);omega
theorem cym4 (a b d:Nat) (ha:a<M):(cym a b d 4≠0)↔M<=a*b+d:=by
 unfold cym;have e:2^(64*4)=M:=pw4;rw[e,Nat.mod_eq_of_lt ha,Ne,Nat.div_eq_zero_iff];unfold M;omega
theorem zmY {w:World} {b:Nat} {t:TypeId} {n k:Nat} {f g:Nat->Int} (h:w.rowIs b t n (zo fun i=>if i<k then f i else g i)) {x:Int} (hx:x=f k):
  (w.setCell ⟨b,k,none⟩ (.int .u64 x)).rowIs b t n (zo fun i=>if i<k+1 then f i else g i):=Yl h hx
theorem tp_num {q b c hi lo s1 c1 c' r:Nat} (h0:q*b+c=c'*18446744073709551616+r) (hr:r<18446744073709551616) (h1:hi*18446744073709551616+lo=q*b) (h2:s1+c1*18446744073709551616=lo+c) (h3:s1<18446744073709551616):s1=r/\hi+c1=c':=by
 rw[<-h1] at h0;omega
theorem zgq (a b d:Nat) (ha:Hid (a<M)) (hb:b<100) (hd:d<100) (w:World):Calls prog 201 #[wv a,.int .u64 (b:Int),.int .u64 (d:Int)] w fun e w'=>∃r:Nat,Hid (r=(a*b+d)%M)/\e=.returned (.tuple #[wv r,.bool (decide (M<=a*b+d))])/\Below w.heap.size w w':=by
 obtain⟨R,HR⟩:∃R,Hid (R=a*b+d):=⟨_,rfl⟩;go_enter func201,ntmps201;go_wp2
 go_loopw [8,15] (fun t8 t15 wr=>∃k c:Nat,k<=4/\t15=.int .i64 k/\t8=.int .u64 c/\c<200/\Hid (c=cym a b d k)/\wr.rowIs w.heap.size 24 4 (zo fun i=>if i<k then za R i else za a i)/\wr.rowIs (w.heap.size+1) 24 4 (zo fun _=>0)/\Below w.heap.size w wr)
   (fun _ t15 _=>4 - (intOf t15).toNat)
 case atStart=>
  exact⟨0,d,by omega,rfl,rfl,by omega,(cym0 a b d).symm,(zk _ rfl rfl rfl rfl rfl).alloc _,zk (fun _=>0) (by simp) rfl rfl rfl rfl,bal (bal (Below.refl _ _) _) _⟩
 case round=>
  obtain⟨k,c,hk,rfl,rfl,hc,HC,hra,hrz,hbel⟩:=hrel;by_cases hlt:k<4
  ·have hdk:decide ((k:Int)<4)=true:=by simp;omega
   have ca:=hra.cell hlt;have fa:=hra.frozen k;simp only[zo,Nat.lt_irrefl,if_false,Zo] at ca;have hst:=zpL a b d k;rw[<-HC.out,<-HR.out] at hst;have HS:Hid (zO a k*b+c=cym a b d (k+1)*18446744073709551616+zO R k):=hst;have HN:Hid (cym a b d (k+1)<200):=cym_lt a b d (k+1) hb hd;clear hst;go_wp2_with fail
   refine(zjU (zO a k) b (yy _ _) (by omega) _).mono ?_;rintro e w' ⟨hi,lo,h1,l1,l2,rfl,rfl⟩;obtain⟨s1,c1,h2,l3,l4,r1⟩:=zfm lo c;obtain⟨e1,e2⟩:=tp_num HS.out (yy _ _) h1.out h2.out l3;have hsum:hi+c1<200:=by rw[e2];exact HN.out
   have E1:Hid (s1=zO R k):=e1;have E2:Hid (hi+c1=cym a b d (k+1)):=e2;clear l4 l1 l2 l3 e1 e2;go_wp2
   go_roundw
   case rel=>
    exact⟨k+1,hi+c1,by omega,by go_num,by go_num,hsum,E2,zmY hra (by rw[E1.out];rfl),hrz.setOther (by simp) _,bset hbel (by simp) _⟩
   case measure=>simp[intOf];omega
  ·obtain rfl:k=4:=by omega
   have hrow:wr.rowIs w.heap.size 24 4 (zo (za R)):=hra.congr fun i hi=>by simp only[zo];rw[if_pos hi]
   clear hra
   have HB:Hid ((((c:Nat):Int) !=0)=decide (M<=a*b+d)):=by
    show _=_;rw[Bool.eq_iff_iff,decide_eq_true_eq,<-cym4 a b d ha.out,<-HC.out];simp
   obtain⟨c0,c1,c2,c3⟩:=ze hrow;obtain⟨z0,z1,z2,z3⟩:=ze hrz;have f0:=hrz.frozen;go_wp2;obtain⟨q0,q1,q2,q3⟩:=ze (zx hrz (za R) rfl rfl rfl rfl);refine bodyPost_ret (v:=.tuple #[wv R,.bool (((c:Nat):Int) !=0)]) (by simp[results,results201,go_sem,q0,q1,q2,q3]) rfl ⟨(a*b+d)%M,rfl, ?_,zB hbel (by omega) _ _ _ _⟩;rw[HB.out,<-HR.out,zct]
def dgt (r:Nat):Nat:=if 48<=r/\r<=57 then r - 48 else if 97<=r/\r<=102 then r - 87 else 16
theorem dgt_le (r:Nat):dgt r<=16:=by
 unfold dgt;split
 ·omega
 ·split<;>omega
theorem zgE (r:Nat) (hr:r<=2147483647) (w:World):Calls prog 200 #[.int .i32 (r:Int)] w fun e w'=>e=.returned (.int .u64 (dgt r:Int))/\w'=w:=by
 rcases(by omega:r<48\/(48<=r/\r<=57)\/(57<r/\r<97)\/(97<=r/\r<=102)\/102<r) with h|h|h|h|h
 ·have HD:Hid ((dgt r:Int)=16):=by show _=_;unfold dgt;(split<;>first|omega|(split<;>omega))
  have d0:decide (48<=(r:Int))=false:=by simp;omega
  have d1:decide (97<=(r:Int))=false:=by simp;omega
  go_enter func200,ntmps200;go_wp2;go_ret;exact⟨by rw[HD.out];rfl,rfl⟩
 ·have HD:Hid ((dgt r:Int)=(r:Int) - 48):=by show _=_;unfold dgt;(split<;>first|omega|(split<;>omega))
  have d0:decide (48<=(r:Int))=true:=by simp;omega
  have d1:decide ((r:Int)<=57)=true:=by simp;omega
  go_enter func200,ntmps200;go_wp2;go_ret;exact⟨by rw[HD.out];rfl,rfl⟩
 ·have HD:Hid ((dgt r:Int)=16):=by show _=_;unfold dgt;(split<;>first|omega|(split<;>omega))
  have d0:decide (48<=(r:Int))=true:=by simp;omega
  have d1:decide ((r:Int)<=57)=false:=by simp;omega
  have d2:decide (97<=(r:Int))=false:=by simp;omega
  go_enter func200,ntmps200;go_wp2;go_ret;exact⟨by rw[HD.out];rfl,rfl⟩
 ·have HD:Hid ((dgt r:Int)=(r:Int) - 97+10):=by show _=_;unfold dgt;(split<;>first|omega|(split<;>omega))
  have d0:decide (48<=(r:Int))=true:=by simp;omega
  have d1:decide ((r:Int)<=57)=false:=by simp;omega
  have d2:decide (97<=(r:Int))=true:=by simp;omega
  have d3:decide ((r:Int)<=102)=true:=by simp;omega
  go_enter func200,ntmps200;go_wp2;go_ret;exact⟨by rw[HD.out];rfl,rfl⟩
 ·have HD:Hid ((dgt r:Int)=16):=by show _=_;unfold dgt;(split<;>first|omega|(split<;>omega))
  have d0:decide (48<=(r:Int))=true:=by simp;omega
  have d1:decide ((r:Int)<=57)=false:=by simp;omega
  have d2:decide (97<=(r:Int))=true:=by simp;omega
  have d3:decide ((r:Int)<=102)=false:=by simp;omega
  go_enter func200,ntmps200;go_wp2;go_ret;exact⟨by rw[HD.out];rfl,rfl⟩
def Yp (t pre:ByteArray):ByteArray:=if pf t pre then t.extract pre.size t.size else t
theorem zcf (t pre:ByteArray) (ht:t.size<=2000) (hp:pre.size<=2000) (w:World):Calls prog 142 #[.string t,.string pre] w fun e w'=>e=.returned (.tuple #[.string (Yp t pre),.bool (pf t pre)])/\w'=w:=by
 by_cases h:pre.size<=t.size
 ·have HP:pf t pre=((t.extract 0 pre.size).toList==pre.toList):=by unfold pf;rw[decide_eq_true h,Bool.true_and]
  cases hq:((t.extract 0 pre.size).toList==pre.toList)
  ·rw[hq] at HP;have HC:Hid (Yp t pre=t):=by show _=_;unfold Yp;rw[HP];rfl
   have HQ:Hid (pf t pre=false):=HP;clear HP;go_enter func142,ntmps142;go_wp2;go_ret2;exact⟨by rw[HC.out,HQ.out];rfl,rfl⟩
  ·rw[hq] at HP;have HC:Hid (Yp t pre=t.extract pre.size t.size):=by show _=_;unfold Yp;rw[HP];rfl
   have HQ:Hid (pf t pre=true):=HP;clear HP;go_enter func142,ntmps142;go_wp2;go_ret2;exact⟨by rw[HC.out,HQ.out];rfl,rfl⟩
 ·have HP:pf t pre=false:=by unfold pf;rw[decide_eq_false h,Bool.false_and]
  have HC:Hid (Yp t pre=t):=by show _=_;unfold Yp;rw[HP];rfl
  have HQ:Hid (pf t pre=false):=HP;clear HP;go_enter func142,ntmps142;go_wp2;go_ret2;exact⟨by rw[HC.out,HQ.out];rfl,rfl⟩
def sf (t suf:ByteArray):Bool:=decide (suf.size<=t.size)&&((t.extract (t.size - suf.size) t.size).toList==suf.toList)
def zcq (t suf:ByteArray):ByteArray:=if sf t suf then t.extract 0 (t.size - suf.size) else t
theorem zgt (t suf:ByteArray) (ht:t.size<=2000) (hp:suf.size<=2000) (w:World):Calls prog 140 #[.string t,.string suf] w fun e w'=>e=.returned (.tuple #[.string (zcq t suf),.bool (sf t suf)])/\w'=w:=by
 by_cases h:suf.size<=t.size
 ·obtain⟨n,hn⟩:∃n:Nat,(t.size:Int) - (suf.size:Int)=(n:Int):=⟨t.size - suf.size,by omega⟩;have hnn:t.size - suf.size=n:=by omega
  have hnl:n<=t.size:=by omega
  have HP:sf t suf=((t.extract n t.size).toList==suf.toList):=by unfold sf;rw[decide_eq_true h,Bool.true_and,hnn]
  have HK:zcq t suf=if sf t suf then t.extract 0 n else t:=by unfold zcq;rw[hnn]
  clear hnn;cases hq:((t.extract n t.size).toList==suf.toList)
  ·rw[hq] at HP;rw[HP] at HK;have HC:Hid (zcq t suf=t):=HK;have HQ:Hid (sf t suf=false):=HP;clear HP HK;go_enter func140,ntmps140;go_wp2;go_ret2;exact⟨by rw[HC.out,HQ.out];rfl,rfl⟩
  ·rw[hq] at HP;rw[HP] at HK;have HC:Hid (zcq t suf=t.extract 0 n):=HK;have HQ:Hid (sf t suf=true):=HP;clear HP HK;go_enter func140,ntmps140;go_wp2;go_ret2;exact⟨by rw[HC.out,HQ.out];rfl,rfl⟩
 ·have HP:sf t suf=false:=by unfold sf;rw[decide_eq_false h,Bool.false_and]
  have HC:Hid (zcq t suf=t):=by show _=_;unfold zcq;rw[HP];rfl
  have HQ:Hid (sf t suf=false):=HP;clear HP;go_enter func140,ntmps140;go_wp2;go_ret2;exact⟨by rw[HC.out,HQ.out];rfl,rfl⟩
def zd2 (s:ByteArray) (base:Nat):Nat->Nat->Nat->Bool->Option (Nat×Bool)
 |0,_,n,g=>some (n,g)
 |f+1,p,n,g=>if p<s.size then(if dgt (byt s p)<base then zd2 s base f (p+1) ((n*base+dgt (byt s p))%M) (g||decide (M<=n*base+dgt (byt s p))) else none) else some (n,g)
def num (s:ByteArray) (base:Nat):Option (Nat×Bool):=zd2 s base s.size 0 0 false
theorem zpy (s:ByteArray) (base f p n:Nat) (g:Bool) (h:¬p<s.size):zd2 s base f p n g=some (n,g):=by
 cases f with
 |zero=>rfl
 |succ f=>simp[zd2,h]
theorem zp0 {s:ByteArray} {base f p n:Nat} {g:Bool} {c:Option (Nat×Bool)} (hp:p<s.size) (h0:dgt (byt s p)<base) (hf:0<f) (h:zd2 s base f p n g=c):zd2 s base (f - 1) (p+1) ((n*base+dgt (byt s p))%M) (g||decide (M<=n*base+dgt (byt s p)))=c:=by
 obtain⟨k,rfl⟩:∃k,f=k+1:=⟨f - 1,by omega⟩;rw[<-h];simp[zd2,hp,h0]
theorem num_no {s:ByteArray} {base f p n:Nat} {g:Bool} {c:Option (Nat×Bool)} (hp:p<s.size) (h0:¬dgt (byt s p)<base) (hf:0<f) (h:zd2 s base f p n g=c):c=none:=by
 obtain⟨k,rfl⟩:∃k,f=k+1:=⟨f - 1,by omega⟩;rw[<-h];simp[zd2,hp,h0]
def rnum (t:ByteArray) (base:Nat):Nat×Int:=match num t base with
 |none=>(0,2)
 |some (n,g)=>if t.size=0 then(0,2) else if g then(0,4) else(n,0)
def x0:ByteArray:=⟨#[48,120]⟩
def zcK (s:ByteArray):Nat:=if pf s x0 then 16 else 10
def YK (s:ByteArray):Nat×Int:=rnum (Yp s x0) (zcK s)
theorem zk0 (s:ByteArray) (p:Nat):dgt (Utf8.decode s p).1=dgt (byt s p)/\(dgt (byt s p)<16->(Utf8.decode s p).2=1):=by
 by_cases h:byt s p<128
 ·have e:Utf8.decode s p=(byt s p,1):=by rw[yT,zlG _ _ _ _ _ _ h]
  rw[e];exact⟨rfl,fun _=>rfl⟩
 ·have hd:=zgB s.size p (byt s p) (byt s (p+1)) (byt s (p+2)) (byt s (p+3));rw[<-yT] at hd;have h1:¬(Utf8.decode s p).1<=127:=fun k=>h (hd.1 k)
  have e1:dgt (byt s p)=16:=by unfold dgt;rw[if_neg (by omega),if_neg (by omega)]
  have e2:dgt (Utf8.decode s p).1=16:=by unfold dgt;rw[if_neg (by omega),if_neg (by omega)]
  rw[e1,e2];exact⟨rfl,fun k=>by omega⟩
section
open Go.RowKit Go.Lib
structure IT (w:World) (t:ByteArray) (z b k p n:Nat) (x:World):Prop where
 it:x.heap[k]? =some (.stringIter t p)
 rz:x.rowIs z 24 4 (zo fun _=>0)
 rn:x.rowIs b 24 4 (zo (za n))
 hz:w.heap.size<=z
 hzb:z<b
 hbk:b<k
 be:Below w.heap.size w x
theorem IT.call {w:World} {t:ByteArray} {z b k p n:Nat} {x y:World} (h:IT w t z b k p n x) (hb:Below x.heap.size x y):IT w t z b k p n y:=
 ⟨by rw[hb.block k (Array.getElem?_eq_some_iff.1 h.it).1];exact h.it,zg h.rz hb,zg h.rn hb,h.hz,h.hzb,h.hbk,zX h.be hb⟩
theorem IT.next {w:World} {t:ByteArray} {z b k p n:Nat} {x:World} (h:IT w t z b k p n x) (q:Nat):IT w t z b k q n (x.iterAt k t q):=by
 have h1:=h.hz;have h2:=h.hzb;have h3:=h.hbk;exact⟨iterAt_heap x k t p q h.it,h.rz.of_block (iterAt_other x k z t q (by omega)),h.rn.of_block (iterAt_other x k b t q (by omega)),h1,h2,h3,below_iterAt h.be (by omega) t q⟩
theorem zay (x:World) (a:Addr) (v:Value) (k:Nat) (h:k≠a.block):(x.setCell a v).heap[k]? =x.heap[k]? :=Go.Deep.blk_setCell_other x a v k h
theorem IT.put {w:World} {t:ByteArray} {z b k p n:Nat} {x:World} (h:IT w t z b k p n x) (m:Nat):IT w t z b k p m ((((x.setCell ⟨b,0,none⟩ (.int .u64 (za m 0))).setCell ⟨b,1,none⟩ (.int .u64 (za m 1))).setCell ⟨b,2,none⟩ (.int .u64 (za m 2))).setCell ⟨b,3,none⟩ (.int .u64 (za m 3))):=by
 have h1:=h.hz;have h2:=h.hzb;have h3:=h.hbk;refine⟨?_,(((h.rz.setOther (by simp;omega) _).setOther (by simp;omega) _).setOther (by simp;omega) _).setOther (by simp;omega) _,zx h.rn (za m) rfl rfl rfl rfl,h1,h2,h3,zB h.be (by omega) _ _ _ _⟩;rw[zay _ _ _ _ (by simp;omega),zay _ _ _ _ (by simp;omega),zay _ _ _ _ (by simp;omega),zay _ _ _ _ (by simp;omega)];exact h.it
theorem znG {t:ByteArray} {b:Nat} (h:num t b=none):rnum t b=(0,2):=by unfold rnum;rw[h]
theorem zm6 {t:ByteArray} {b n:Nat} {g:Bool} (h:num t b=some (n,g)):rnum t b=if t.size=0 then(0,2) else if g then(0,4) else(n,0):=by unfold rnum;rw[h]
theorem zfS (s:ByteArray) (hs:s.size<=2000) (w:World):Calls prog 144 #[.string s] w fun e w'=>∃r:Nat,∃k:Int,Hid ((r,k)=YK s)/\e=.returned (.tuple #[wv r,.int .i64 k])/\Below w.heap.size w w':=by
 obtain⟨t,Ht⟩:∃t,Hid (t=Yp s x0):=⟨_,rfl⟩;obtain⟨b,Hb⟩:∃b,Hid (b=zcK s):=⟨_,rfl⟩;obtain⟨q,Hq⟩:∃q,Hid (q=pf s x0):=⟨_,rfl⟩
 have hts:t.size<=2000:=by
  rw[Ht.out];unfold Yp;split
  ·rw[ByteArray.size_extract];omega
  ·exact hs
 have HB:Hid (b=if q then 16 else 10):=by show _=_;rw[Hb.out,Hq.out];rfl
 have HT0:Hid (q=false->t=s):=fun h=>by rw[Ht.out];unfold Yp;rw[<-Hq.out,h];rfl
 have HCP:Hid (∀w,Calls prog 142 #[.string s,.string ⟨#[48,120]⟩] w fun e w'=>e=.returned (.tuple #[.string t,.bool q])/\w'=w):=fun w=>by
  have h:=zcf s x0 hs (by decide) w;rw[<-Ht.out,<-Hq.out] at h;exact h
 have hrz:=zk (w:=w) (n:=w.heap.size) (t:=24) (fun _=>0) rfl rfl rfl rfl rfl;have hbel:=bal (Below.refl _ w) (.cells #[.int .u64 0,.int .u64 0,.int .u64 0,.int .u64 0] 24);go_enter func144,ntmps144;go_wp2_with fail
 refine(HCP.out _).mono ?_;rintro e w' ⟨rfl,rfl⟩;go_upto_if 20 with fail
 go_cut [4,5] (fun t4 t5 wx=>t4=.string t/\t5=.int .u64 (b:Int)/\wx.rowIs w.heap.size 24 4 (zo fun _=>0)/\Below w.heap.size w wx/\wx.heap.size=w.heap.size+1)
 case first=>
  cases q
  ·have E1:Hid (t=s):=HT0.out rfl;have E2:Hid (b=10):=HB.out;clear HB HT0;go_wp2_with fail
   go_meet
   case rel=>exact⟨by rw[E1.out],by rw[E2.out];rfl,hrz,hbel,by simp⟩
  ·have E2:Hid (b=16):=HB.out;clear HB HT0;go_wp2_with fail
   go_meet
   case rel=>exact⟨rfl,by rw[E2.out];rfl,hrz,hbel,by simp⟩
 case rest=>
  clear hrz hbel;obtain⟨rfl,rfl,hrz,hbel,hsz⟩:=hcut;have HBL:Hid (b<=16/\10<=b):=by show _/\_;rw[HB.out];split<;>omega
  clear HB HT0 HCP
  have hit:IT w t w.heap.size (w.heap.size+1) (w.heap.size+1+1) 0 0 ((wc.alloc (.cells #[.int .u64 0,.int .u64 0,.int .u64 0,.int .u64 0] 24)).iter t 0):=by
   refine⟨?_,(hrz.alloc _).alloc _,(zk (za 0) hsz.symm (zn 0).symm (zn 1).symm (zn 2).symm (zn 3).symm).alloc _,Nat.le_refl _,by omega,by omega,bal (bal hbel _) _⟩;have h:=World.iter_heap (wc.alloc (.cells #[.int .u64 0,.int .u64 0,.int .u64 0,.int .u64 0] 24)) t 0;rw[<-hsz];simpa using h
  go_wp2
  go_loopw [9] (fun t9 wr=>∃(p f n:Nat) (g:Bool),t9=.bool g/\IT w t w.heap.size (w.heap.size+1) (w.heap.size+1+1) p n wr/\p<=t.size/\t.size<=p+f/\Hid (n<M)/\Hid (zd2 t b f p n g=num t b)) (fun _ wr=>t.size - wr.iterPos (w.heap.size+1+1))
  case atStart=>exact⟨0,t.size,0,false,rfl,hit,by omega,by omega,by show _<_;unfold M;omega,rfl⟩
  case round=>
   clear hit hrz hbel;obtain⟨p,f,n,g,rfl,hs2,hps,hf,HM,HC⟩:=hrel;have hpos:wr.iterPos (w.heap.size+1+1)=p:=by simp[World.iterPos,hs2.it]
   have HPOS:Hid (wr.iterPos (w.heap.size+1+1)=p):=hpos;clear hpos;by_cases hp:p<t.size
   ·have hnx:∀ty,(Instr.next (.pointer (some ⟨w.heap.size+1+1,0,none⟩)) true ty).run prog wr=_:=fun ty=>run_next_any_at wr (w.heap.size+1+1) t p ty hs2.it hp
    have hle:=decode_le t p;obtain⟨hd1,hd2⟩:=zk0 t p;by_cases hdb:dgt (byt t p)<b
    ·have hwd:(Utf8.decode t p).2=1:=hd2 (by have:=HBL.out;omega);rw[hwd] at hnx;have HS:Hid (zd2 t b (f - 1) (p+1) ((n*b+dgt (byt t p))%M) (g||decide (M<=n*b+dgt (byt t p)))=num t b):=zp0 hp hdb (by omega) HC.out;have HDG:Hid (∀w,Calls prog 200 #[.int .i32 ((Utf8.decode t p).1:Int)] w fun e w'=>e=.returned (.int .u64 (dgt (byt t p):Int))/\w'=w):=fun w=>by rw[<-hd1];exact zgE _ hle w
     have HD16:Hid (dgt (byt t p)<=16):=dgt_le _;clear hd1 hd2 hwd;generalize(Utf8.decode t p).1=r at*;generalize dgt (byt t p)=d at*;have hs3:=hs2.next (p+1);have hdd:decide ((b:Int)<=(d:Int))=false:=by simp;omega
     go_wp2_with fail
     refine(HDG.out _).mono ?_;rintro e w' ⟨rfl,rfl⟩;obtain⟨c0,c1,c2,c3⟩:=ze hs3.rn;have hb100:b<100:=by have:=HBL.out;omega
     have hd100:d<100:=by have:=HD16.out;omega
     have HT:Hid (b<100/\d<100):=⟨hb100,hd100⟩;clear hb100 hd100;go_wp2_with fail
     refine(zgq n b d HM HT.out.1 HT.out.2 _).mono ?_;rintro e w3 ⟨m,HMM,rfl,hb2⟩;have hs4:=hs3.call hb2;clear c0 c1 c2 c3 hb2 hs2;obtain⟨c0,c1,c2,c3⟩:=ze hs4.rn;have fz:=hs4.rn.frozen;obtain⟨ov,HO⟩:∃o,Hid (o=decide (M<=n*b+d)):=⟨_,rfl⟩;rw[<-HO.out];have HS2:Hid (zd2 t b (f - 1) (p+1) m (g||ov)=num t b):=by show _=_;rw[HMM.out,HO.out];exact HS.out
     have HM2:Hid (m<M):=by show _<_;rw[HMM.out];exact Nat.mod_lt _ Yn
     have hs5:=hs4.put m;have HPO2:Hid (((((w3.setCell ⟨w.heap.size+1,0,none⟩ (.int .u64 (za m 0))).setCell ⟨w.heap.size+1,1,none⟩ (.int .u64 (za m 1))).setCell ⟨w.heap.size+1,2,none⟩ (.int .u64 (za m 2))).setCell ⟨w.heap.size+1,3,none⟩ (.int .u64 (za m 3))).iterPos (w.heap.size+1+1)=p+1):=by show _=_;simp only[World.iterPos,hs5.it]
     clear hnx;cases g<;>cases ov
     all_goals go_wp2
     all_goals go_roundw
     all_goals first
      |exact⟨p+1,f - 1,m,_,rfl,hs5,by omega,by omega,HM2,HS2⟩
      |(rw[HPO2.out,HPOS.out];omega)
    ·have HR:Hid (num t b=none):=num_no hp hdb (by omega) HC.out;have HDG:Hid (∀w,Calls prog 200 #[.int .i32 ((Utf8.decode t p).1:Int)] w fun e w'=>e=.returned (.int .u64 (dgt (byt t p):Int))/\w'=w):=fun w=>by rw[<-hd1];exact zgE _ hle w
     clear hd1 hd2;have hs3:=hs2.next (p+(Utf8.decode t p).2);generalize(Utf8.decode t p).1=r at*;generalize(Utf8.decode t p).2=v at*;generalize dgt (byt t p)=d at*;have hdd:decide ((b:Int)<=(d:Int))=true:=by simp;omega
     go_wp2_with fail
     refine(HDG.out _).mono ?_;rintro e w' ⟨rfl,rfl⟩;obtain⟨c0,c1,c2,c3⟩:=ze hs3.rz;have fz:=hs3.rz.frozen;clear hnx;go_wp2;obtain⟨q0,q1,q2,q3⟩:=ze (zx hs3.rz (za 0) (zn 0).symm (zn 1).symm (zn 2).symm (zn 3).symm);refine bodyPost_ret (v:=.tuple #[wv 0,.int .i64 2]) (by simp[results,results144,go_sem,q0,q1,q2,q3]) rfl ⟨0,2, ?_,rfl,zB hs3.be (by omega) _ _ _ _⟩;show _=_;unfold YK;rw[<-Ht.out,<-Hb.out,znG HR.out]
   ·have HR:Hid (YK s=if t.size=0 then(0,2) else if g then(0,4) else(n,0)):=by
     show _=_;unfold YK;rw[<-Ht.out,<-Hb.out];exact zm6 (by rw[<-HC.out,zpy t b f p n g hp])
    have hnx:∀ty,(Instr.next (.pointer (some ⟨w.heap.size+1+1,0,none⟩)) true ty).run prog wr=_:=fun ty=>run_next_end_at wr (w.heap.size+1+1) t p ty hs2.it hp
    have hl:t.toList.isEmpty=decide (t.size=0):=by
     rw[Go.ByteArray.toList_eq,Bool.eq_iff_iff,decide_eq_true_eq,List.isEmpty_iff,<-List.length_eq_zero_iff];exact Iff.rfl
    obtain⟨c0,c1,c2,c3⟩:=ze hs2.rz;have fz:=hs2.rz.frozen;by_cases hz:t.size=0
    ·rw[if_pos hz] at HR;have he:t.toList.isEmpty=true:=by rw[hl,decide_eq_true hz]
     clear hl hz;go_wp2;obtain⟨q0,q1,q2,q3⟩:=ze (zx hs2.rz (za 0) (zn 0).symm (zn 1).symm (zn 2).symm (zn 3).symm);exact bodyPost_ret (v:=.tuple #[wv 0,.int .i64 2]) (by simp[results,results144,go_sem,q0,q1,q2,q3]) rfl ⟨0,2,HR.out.symm,rfl,zB hs2.be (by omega) _ _ _ _⟩
    ·rw[if_neg hz] at HR;have he:t.toList.isEmpty=false:=by rw[hl,decide_eq_false hz]
     clear hl hz;cases g
     ·have HR2:Hid (YK s=(n,0)):=HR.out;clear HR;obtain⟨d0,d1,d2,d3⟩:=ze hs2.rn;go_wp2;obtain⟨q0,q1,q2,q3⟩:=ze (zx hs2.rz (za n) rfl rfl rfl rfl);exact bodyPost_ret (v:=.tuple #[wv n,.int .i64 0]) (by simp[results,results144,go_sem,q0,q1,q2,q3]) rfl ⟨n,0,HR2.out.symm,rfl,zB hs2.be (by omega) _ _ _ _⟩
     ·have HR2:Hid (YK s=(0,4)):=HR.out;clear HR;go_wp2;obtain⟨q0,q1,q2,q3⟩:=ze (zx hs2.rz (za 0) (zn 0).symm (zn 1).symm (zn 2).symm (zn 3).symm);exact bodyPost_ret (v:=.tuple #[wv 0,.int .i64 4]) (by simp[results,results144,go_sem,q0,q1,q2,q3]) rfl ⟨0,4,HR2.out.symm,rfl,zB hs2.be (by omega) _ _ _ _⟩
end
section
variable {P:Program} {ops:Array Oper} {Q:Exit->Act->World->Prop}
def valo (s:Act):Option Nat->Value
 |some d=>s.tmps.getD d undef
 |none=>undef
def zipo:List (Option Nat×(Value->World->Prop))->List Value->List (Nat×Value)
 |(some d,_)::l,v::vs=>(d,v)::zipo l vs
 |(none,_)::l,_::vs=>zipo l vs
 |_,_=>[]
end
def lb (n i:Nat):Nat:=n/2^(64*i)%18446744073709551616
theorem zmK (n i:Nat):za n i=(lb n i:Int):=rfl
theorem lb_lt (n i:Nat):lb n i<18446744073709551616:=Nat.mod_lt _ (by decide)
def cb (x y i:Nat):Bool:=decide (2^i<=x%2^i+y%2^i)
def zmz (f:Nat->Bool):Nat->Value:=fun i=>.bool (f i)
def RowOf (w:World) (L n:Nat) (e:Ending) (w':World):Prop:=
 ∃b r:Nat,Hid (r=n)/\e=.returned (.slice (some ⟨b,0,none⟩) L L)/\w.heap.size<=b/\w'.rowIs b 4 L (zmz r.testBit)/\Below w.heap.size w w'
section
variable {s:Act} {x:World} {pos:String} {af:Array Edge} {g:Option (Nat×Bool)} {K:Act->World->Prop} {Q:Exit->Act->World->Prop}
def Own (f:Nat):Prop:=∀args w,(callFunc f args).run prog w=.ok (.enter f args) w
theorem ZK {f d:Nat} {xs:Array Operand} {vs:Array Value} {A:Array TypeId} {ty:TypeId} {Post:Ending->World->Prop} (hf:Own f) (hv:#[]++xs.map s.eval++#[]=vs) (hc:Calls prog f vs x Post)
  (hK:∀e x',Post e x'->∃r,e=.returned r/\K (s.put (some d) r) x'):
  Oper.wp prog ⟨some d,.call ⟨.value (.func f),xs,A⟩,ty,pos,af,g⟩ s x K Q:=by
 unfold Oper.wp;rw[execOp_call_go,hv,hf];rw[Oper.upon_enter];refine hc.mono ?_;intro e y h;obtain⟨r,rfl,h2⟩:=hK e y h;exact h2
theorem ev1 {o1:Operand} {v1:Value} (h1:s.eval o1=v1):#[]++(#[o1]:Array Operand).map s.eval++#[]=#[v1]:=by simp[h1]
theorem ev2 {o1 o2:Operand} {v1 v2:Value} (h1:s.eval o1=v1) (h2:s.eval o2=v2):#[]++(#[o1,o2]:Array Operand).map s.eval++#[]=#[v1,v2]:=by simp[h1,h2]
theorem ev3 {o1 o2 o3:Operand} {v1 v2 v3:Value} (h1:s.eval o1=v1) (h2:s.eval o2=v2) (h3:s.eval o3=v3):#[]++(#[o1,o2,o3]:Array Operand).map s.eval++#[]=#[v1,v2,v3]:=by simp[h1,h2,h3]
def SliceOf (L n:Nat) (v:Value) (x:World):Prop:=∃b r c:Nat,Hid (r=n)/\v=.slice (some ⟨b,0,none⟩) L c/\x.rowIs b 4 L (zmz r.testBit)
theorem yY {t u b n:Nat} {f:Nat->Value} {ty:TypeId} (he:s.tmps.getD t undef=.pointer (some ⟨b,0,none⟩)) (hu:s.tmps.getD u undef=wv n) (hr:x.rowIs b 24 4 f)
  (hK:∀x',x'.rowIs b 24 4 (zo (za n))->x'=(((x.setCell ⟨b,0,none⟩ (.int .u64 (za n 0))).setCell ⟨b,1,none⟩ (.int .u64 (za n 1))).setCell ⟨b,2,none⟩ (.int .u64 (za n 2))).setCell ⟨b,3,none⟩ (.int .u64 (za n 3))->K (s.put none undef) x'):
  Oper.wp prog ⟨none,.store 24 (.tmp t) (.tmp u),ty,pos,af,g⟩ s x K Q:=by
 have he2:s.eval (.tmp t)=.pointer (some ⟨b,0,none⟩):=he;have hu2:s.eval (.tmp u)=wv n:=hu;have x0:=hr.cell (i:=0) (by omega);have x1:=hr.cell (i:=1) (by omega);have x2:=hr.cell (i:=2) (by omega);have x3:=hr.cell (i:=3) (by omega);have fz:=hr.frozen;have hrow:=zx hr (za n) rfl rfl rfl rfl;have h:=hK _ hrow rfl;clear hK hrow hr;go_simp;exact h
end
theorem p5 {i:Nat} (h:i<5):i=0\/i=1\/i=2\/i=3\/i=4:=by omega
theorem p6 {i:Nat} (h:i<6):i=0\/i=1\/i=2\/i=3\/i=4\/i=5:=by omega
structure S1 (w:World) (a:Nat) (x:World):Prop where
 ra:x.rowIs w.heap.size 24 4 (zo (za a))
 rz:x.rowIs (w.heap.size+1) 24 4 (zo fun _=>0)
 be:Below w.heap.size w x
structure Q2 (w:World) (a b:Nat) (x:World):Prop where
 ra:x.rowIs w.heap.size 24 4 (zo (za a))
 rb:x.rowIs (w.heap.size+1) 24 4 (zo (za b))
 rz:∃f,x.rowIs (w.heap.size+1+1) 24 4 f
 be:Below w.heap.size w x
def fint (a m:Nat):Nat:=if a%M<m then a%M else m

def shb (b:Nat) (n:Int) (zF:Bool) (i:Nat):Bool:=if 0<=(i:Int) - n/\(i:Int) - n<256 then b.testBit ((i:Int) - n).toNat else zF
structure PR (w:World) (a b p q r:Nat) (x:World):Prop where
 rp:x.rowIs p 4 256 (zmz a.testBit)
 rq:x.rowIs q 4 256 (zmz b.testBit)
 hp:p<r
 hq:q<r
 hr:w.heap.size<=r
 be:Below w.heap.size w x
theorem p4 {i:Nat} (h:i<4):i=0\/i=1\/i=2\/i=3:=by omega
def nt (s:ByteArray):ByteArray:=if decide (2<s.size)&&((s.extract 0 2).toList==x0.toList) then s.extract 2 s.size else s
def nb (s:ByteArray):Nat:=if decide (2<s.size)&&((s.extract 0 2).toList==x0.toList) then 16 else 10
def dgi (c b:Nat):Int:=if dgt c<b then(dgt c:Int) else -1
def hib (P k:Nat):Bool:=decide (M<=P%2^k)
structure RN (w:World) (z b n:Nat) (x:World):Prop where
 rz:x.rowIs z 24 4 (zo fun _=>0)
 rn:x.rowIs b 24 4 (zo (za n))
 hz:w.heap.size<=z
 hzb:z<b
 be:Below w.heap.size w x
def numO (t:ByteArray) (b:Nat) (e:Ending):Prop:=match num t b with
 |none=>∃r,e=.returned (.tuple #[wv r,.bool false,.bool false])
 |some (n,g)=>e=.returned (.tuple #[wv n,.bool (decide (t.size≠0)),.bool g])
def zdH (t:ByteArray) (b:Nat):Option (Nat×Bool):=match num t b with
 |none=>none
 |some (n,g)=>if t.size=0 then none else some (n,g)
theorem zqk {s t:ByteArray} (h:bl s=bl t):s=t:=by
 obtain⟨⟨a⟩⟩:=s;obtain⟨⟨b⟩⟩:=t;have e:a=b:=h;rw[e]
theorem zmE:x0.size=2:=rfl
theorem zlp (s:ByteArray):zdH (nt s) (nb s)=zdH (Yp s x0) (zcK s):=by
 by_cases h2:2<s.size
 ·have hp:pf s x0=(decide (2<s.size)&&((s.extract 0 2).toList==x0.toList)):=by
   unfold pf;rw[zmE,decide_eq_true (show 2<=s.size by omega),decide_eq_true h2]
  have h1:Yp s x0=nt s:=by unfold Yp nt;rw[hp];rfl
  have h3:zcK s=nb s:=by unfold zcK nb;rw[hp]
  rw[h1,h3]
 ·have hn:nt s=s:=by unfold nt;rw[decide_eq_false h2,Bool.false_and];rfl
  have hb:nb s=10:=by unfold nb;rw[decide_eq_false h2,Bool.false_and];rfl
  cases hp:pf s x0
  ·have h1:Yp s x0=s:=by unfold Yp;rw[hp];rfl
   have h3:zcK s=10:=by unfold zcK;rw[hp];rfl
   rw[h1,h3,hn,hb]
  ·have hpl:=hp;rw[zhm,List.isPrefixOf_iff_prefix] at hpl;have hle:=hpl.length_le;have hsz:(bl s).length=s.size:=rfl;have hx:(bl x0).length=2:=rfl;have he:bl x0=bl s:=hpl.eq_of_length (by omega);have hs:s=x0:=(zqk he).symm;subst hs
   have a1:zdH (nt x0) (nb x0)=none:=by
    rw[hn,hb];unfold zdH;have:num x0 10=none:=by unfold num;simp only[zmE,zd2];decide
    rw[this]
   have a2:zdH (Yp x0 x0) (zcK x0)=none:=by
    have hc:(Yp x0 x0).size=0:=by unfold Yp;rw[hp,if_pos rfl,ByteArray.size_extract];rfl
    unfold zdH;split
    ·rfl
    ·rw[if_pos hc]
   rw[a1,a2]
theorem zm0 (t:ByteArray) (b:Nat):rnum t b=match zdH t b with
 |none=>(0,2)
 |some (n,g)=>if g then(0,4) else(n,0):=by
 unfold rnum zdH;cases num t b with
 |none=>rfl
 |some p=>
  obtain⟨n,g⟩:=p;dsimp only;by_cases h:t.size=0
  ·rw[if_pos h,if_pos h]
  ·rw[if_neg h,if_neg h]
def lk:List (List UInt8×Nat)->List UInt8->Option Nat
 |[],_=>none
 |(a,v)::r,l=>if l=a then some v else lk r l
theorem lk_hit {a l:List UInt8} {v:Nat} {r:List (List UInt8×Nat)} (h:l=a):lk ((a,v)::r) l=some v:=by unfold lk;rw[if_pos h]
theorem lk_miss {a l:List UInt8} {v:Nat} {r:List (List UInt8×Nat)} (h:¬l=a):lk ((a,v)::r) l=lk r l:=by rw[lk,if_neg h]
def pr (o:Option Nat):Value:=.tuple #[.int .u8 ((o.getD 0:Nat):Int),.bool o.isSome]
theorem zqL {s:ByteArray} {l:List UInt8} (h:bl s=l):(s.toList==l)=true:=by rw[Go.ByteArray.toList_eq];exact beq_iff_eq.2 h
theorem zn5 {s:ByteArray} {l:List UInt8} (h:¬bl s=l):(s.toList==l)=false:=by rw[Go.ByteArray.toList_eq];exact beq_eq_false_iff_ne.2 h
def lkP (s:ByteArray) (P:Option Nat->Prop):List (List UInt8×Nat)->Prop
 |[]=>P none
 |(a,v)::r=>((s.toList==a)=true->P (some v))/\((s.toList==a)=false->lkP s P r)
theorem lk_P (s:ByteArray) (P:Option Nat->Prop):∀t,lkP s P t->P (lk t (bl s))
 |[],h=>h
 |(a,v)::r,h=>by
  by_cases e:bl s=a
  ·rw[lk_hit e];exact h.1 (zqL e)
  ·rw[lk_miss e];exact lk_P s P r (h.2 (zn5 e))
def tabCmp:List (List UInt8×Nat):=[([76,84],16),([71,84],17),([83,76,84],18),([83,71,84],19),([69,81],20),([73,83,90,69,82,79],21),([65,78,68],22),([79,82],23),([88,79,82],24),([78,79,84],25),([66,89,84,69],26),([83,72,76],27),([83,72,82],28),([83,65,82],29)]
theorem Cmp_any (s:ByteArray) (hs:s.size<=2000) (w:World):Calls prog 227 #[.string s] w fun e w'=>e=.returned (pr (lk tabCmp (bl s)))/\w'=w:=by
 refine lk_P s (fun o=>Calls prog 227 #[.string s] w fun e w'=>e=.returned (pr o)/\w'=w) tabCmp ?_;simp only[tabCmp,lkP]
 repeat' (with_reducible first|apply And.intro|intro _)
 all_goals as_aux_lemma=>
  go_enter func227,ntmps227;go_wp2;go_ret2;exact⟨rfl,rfl⟩
def tabRec:List (List UInt8×Nat):=[([65,68,68],1),([77,85,76],2),([83,85,66],3),([68,73,86],4),([83,68,73,86],5),([77,79,68],6),([83,77,79,68],7),([65,68,68,77,79,68],8),([77,85,76,77,79,68],9),([69,88,80],10),([83,73,71,78,69,88,84,69,78,68],11)]
theorem Rec_any (s:ByteArray) (hs:s.size<=2000) (w:World):Calls prog 196 #[.string s] w fun e w'=>e=.returned (pr ((lk tabRec (bl s)).orElse fun _=>lk tabCmp (bl s)))/\w'=w:=by
 refine lk_P s (fun o=>Calls prog 196 #[.string s] w fun e w'=>e=.returned (pr (o.orElse fun _=>lk tabCmp (bl s)))/\w'=w) tabRec ?_;simp only[tabRec,lkP]
 repeat' (with_reducible first|apply And.intro|intro _)
 all_goals as_aux_lemma=>
  go_enter func196,ntmps196
  first
  |go_wp2
   go_ret2;exact⟨rfl,rfl⟩
  |go_wp2_with fail
   refine(Cmp_any s hs _).mono ?_;rintro e w' ⟨rfl,rfl⟩;obtain⟨o,HO⟩:∃o,Hid (o=lk tabCmp (bl s)):=⟨_,rfl⟩;rw[<-HO.out];unfold pr;go_wp2;go_ret2;exact⟨by rw[<-HO.out];rfl,rfl⟩
def tabSur:List (List UInt8×Nat):=[([83,84,79,80],0),([65,68,68,82,69,83,83],48),([66,65,76,65,78,67,69],49),([67,65,76,76,69,82],51),([67,65,76,76,86,65,76,85,69],52),([67,65,76,76,68,65,84,65,76,79,65,68],53),([67,65,76,76,68,65,84,65,83,73,90,69],54),([67,65,76,76,68,65,84,65,67,79,80,89],55),([67,79,68,69,83,73,90,69],56),([67,79,68,69,67,79,80,89],57),([82,69,84,85,82,78,68,65,84,65,83,73,90,69],61),([82,69,84,85,82,78,68,65,84,65,67,79,80,89],62),([67,65,76,76],241),([82,69,84,85,82,78],243),([68,69,76,69,71,65,84,69,67,65,76,76],244),([83,84,65,84,73,67,67,65,76,76],250),([82,69,86,69,82,84],253)]
theorem Sur_any (s:ByteArray) (hs:s.size<=2000) (w:World):Calls prog 197 #[.string s] w fun e w'=>e=.returned (pr (lk tabSur (bl s)))/\w'=w:=by
 refine lk_P s (fun o=>Calls prog 197 #[.string s] w fun e w'=>e=.returned (pr o)/\w'=w) tabSur ?_;simp only[tabSur,lkP]
 repeat' (with_reducible first|apply And.intro|intro _)
 all_goals as_aux_lemma=>
  go_enter func197,ntmps197;go_wp2;go_ret2;exact⟨rfl,rfl⟩
def tabKee:List (List UInt8×Nat):=[([80,79,80],80),([77,76,79,65,68],81),([77,83,84,79,82,69],82),([77,83,84,79,82,69,56],83),([83,76,79,65,68],84),([83,83,84,79,82,69],85),([74,85,77,80],86),([74,85,77,80,73],87),([80,67],88),([77,83,73,90,69],89),([71,65,83],90),([74,85,77,80,68,69,83,84],91),([84,76,79,65,68],92),([84,83,84,79,82,69],93),([77,67,79,80,89],94)]
theorem Kee_any (s:ByteArray) (hs:s.size<=2000) (w:World):Calls prog 198 #[.string s] w fun e w'=>e=.returned (pr (lk tabKee (bl s)))/\w'=w:=by
 refine lk_P s (fun o=>Calls prog 198 #[.string s] w fun e w'=>e=.returned (pr o)/\w'=w) tabKee ?_;simp only[tabKee,lkP]
 repeat' (with_reducible first|apply And.intro|intro _)
 all_goals as_aux_lemma=>
  go_enter func198,ntmps198;go_wp2;go_ret2;exact⟨rfl,rfl⟩
def dcs (k:Nat):ByteArray:=if k<10 then⟨#[UInt8.ofNat (48+k)]⟩ else⟨#[49,UInt8.ofNat (38+k)]⟩
theorem itoa0 (w:World):Calls prog 228 #[.int .i64 0] w fun e w'=>e=.returned (.string (dcs 0))/\w'=w:=by
 go_enter func228,ntmps228;go_wp2;go_ret;exact⟨by kernel_rfl,rfl⟩
theorem itoa1 (w:World):Calls prog 228 #[.int .i64 1] w fun e w'=>e=.returned (.string (dcs 1))/\w'=w:=by
 go_enter func228,ntmps228;go_wp2;go_ret;exact⟨by kernel_rfl,rfl⟩
theorem itoa2 (w:World):Calls prog 228 #[.int .i64 2] w fun e w'=>e=.returned (.string (dcs 2))/\w'=w:=by
 go_enter func228,ntmps228;go_wp2;go_ret;exact⟨by kernel_rfl,rfl⟩
theorem itoa3 (w:World):Calls prog 228 #[.int .i64 3] w fun e w'=>e=.returned (.string (dcs 3))/\w'=w:=by
 go_enter func228,ntmps228;go_wp2;go_ret;exact⟨by kernel_rfl,rfl⟩
theorem itoa4 (w:World):Calls prog 228 #[.int .i64 4] w fun e w'=>e=.returned (.string (dcs 4))/\w'=w:=by
 go_enter func228,ntmps228;go_wp2;go_ret;exact⟨by kernel_rfl,rfl⟩
theorem itoa5 (w:World):Calls prog 228 #[.int .i64 5] w fun e w'=>e=.returned (.string (dcs 5))/\w'=w:=by
 go_enter func228,ntmps228;go_wp2;go_ret;exact⟨by kernel_rfl,rfl⟩
theorem itoa6 (w:World):Calls prog 228 #[.int .i64 6] w fun e w'=>e=.returned (.string (dcs 6))/\w'=w:=by
 go_enter func228,ntmps228;go_wp2;go_ret;exact⟨by kernel_rfl,rfl⟩
theorem itoa7 (w:World):Calls prog 228 #[.int .i64 7] w fun e w'=>e=.returned (.string (dcs 7))/\w'=w:=by
 go_enter func228,ntmps228;go_wp2;go_ret;exact⟨by kernel_rfl,rfl⟩
theorem itoa8 (w:World):Calls prog 228 #[.int .i64 8] w fun e w'=>e=.returned (.string (dcs 8))/\w'=w:=by
 go_enter func228,ntmps228;go_wp2;go_ret;exact⟨by kernel_rfl,rfl⟩
theorem itoa9 (w:World):Calls prog 228 #[.int .i64 9] w fun e w'=>e=.returned (.string (dcs 9))/\w'=w:=by
 go_enter func228,ntmps228;go_wp2;go_ret;exact⟨by kernel_rfl,rfl⟩
theorem itoa10 (w:World):Calls prog 228 #[.int .i64 10] w fun e w'=>e=.returned (.string (dcs 10))/\w'=w:=by
 go_enter func228,ntmps228;go_wp2;go_ret;exact⟨by kernel_rfl,rfl⟩
theorem itoa11 (w:World):Calls prog 228 #[.int .i64 11] w fun e w'=>e=.returned (.string (dcs 11))/\w'=w:=by
 go_enter func228,ntmps228;go_wp2;go_ret;exact⟨by kernel_rfl,rfl⟩
theorem itoa12 (w:World):Calls prog 228 #[.int .i64 12] w fun e w'=>e=.returned (.string (dcs 12))/\w'=w:=by
 go_enter func228,ntmps228;go_wp2;go_ret;exact⟨by kernel_rfl,rfl⟩
theorem itoa13 (w:World):Calls prog 228 #[.int .i64 13] w fun e w'=>e=.returned (.string (dcs 13))/\w'=w:=by
 go_enter func228,ntmps228;go_wp2;go_ret;exact⟨by kernel_rfl,rfl⟩
theorem itoa14 (w:World):Calls prog 228 #[.int .i64 14] w fun e w'=>e=.returned (.string (dcs 14))/\w'=w:=by
 go_enter func228,ntmps228;go_wp2;go_ret;exact⟨by kernel_rfl,rfl⟩
theorem itoa15 (w:World):Calls prog 228 #[.int .i64 15] w fun e w'=>e=.returned (.string (dcs 15))/\w'=w:=by
 go_enter func228,ntmps228;go_wp2;go_ret;exact⟨by kernel_rfl,rfl⟩
theorem itoa16 (w:World):Calls prog 228 #[.int .i64 16] w fun e w'=>e=.returned (.string (dcs 16))/\w'=w:=by
 go_enter func228,ntmps228;go_wp2;go_ret;exact⟨by kernel_rfl,rfl⟩
theorem zix (k:Nat) (hk:k<=16) (w:World):Calls prog 228 #[.int .i64 (k:Int)] w fun e w'=>e=.returned (.string (dcs k))/\w'=w:=by
 rcases(by omega:k=0\/k=1\/k=2\/k=3\/k=4\/k=5\/k=6\/k=7\/k=8\/k=9\/k=10\/k=11\/k=12\/k=13\/k=14\/k=15\/k=16) with rfl|rfl|rfl|rfl|rfl|rfl|rfl|rfl|rfl|rfl|rfl|rfl|rfl|rfl|rfl|rfl|rfl
 ·exact itoa0 w
 ·exact itoa1 w
 ·exact itoa2 w
 ·exact itoa3 w
 ·exact itoa4 w
 ·exact itoa5 w
 ·exact itoa6 w
 ·exact itoa7 w
 ·exact itoa8 w
 ·exact itoa9 w
 ·exact itoa10 w
 ·exact itoa11 w
 ·exact itoa12 w
 ·exact itoa13 w
 ·exact itoa14 w
 ·exact itoa15 w
 ·exact itoa16 w
theorem zjY (k:Nat):(dcs k).size<=2:=by
 unfold dcs;split
 ·show 1<=2;omega
 ·show 2<=2;omega
def dup (i:Nat):ByteArray:=⟨#[68,85,80]⟩++dcs (i+1)
def swp (i:Nat):ByteArray:=⟨#[83,87,65,80]⟩++dcs (i+1)
def lgs (i:Nat):ByteArray:=⟨#[76,79,71]⟩++dcs i
def zd7 (l:List UInt8):Nat->Nat->Option Nat
 |0,_=>none
 |f+1,i=>if l=bl (dup i) then some (128+i) else if l=bl (swp i) then some (144+i) else zd7 l f (i+1)
def ze9 (l:List UInt8):Nat->Nat->Option Nat
 |0,_=>none
 |f+1,i=>if l=bl (lgs i) then some (160+i) else ze9 l f (i+1)
def zbC (s:ByteArray):Option Nat:=(zd7 (bl s) 16 0).orElse fun _=>ze9 (bl s) 5 0
theorem ze3 {s t:ByteArray} (h:bl s=bl t):(s.toList==t.toList)=true:=by rw[Go.ByteArray.toList_eq,Go.ByteArray.toList_eq];exact beq_iff_eq.2 h
theorem zd4 {s t:ByteArray} (h:¬bl s=bl t):(s.toList==t.toList)=false:=by rw[Go.ByteArray.toList_eq,Go.ByteArray.toList_eq];exact beq_eq_false_iff_ne.2 h
theorem znZ (s:ByteArray) (hs:s.size<=2000) (w:World):Calls prog 199 #[.string s] w fun e w'=>e=.returned (pr (zbC s))/\w'=w:=by
 go_enter func199,ntmps199;go_wp2
 go_loopw [7] (fun t7 wr=>∃i:Nat,i<=16/\t7=.int .i64 i/\Hid (zd7 (bl s) (16 - i) i=zd7 (bl s) 16 0)/\Hid (wr=w)) (fun t7 _=>16 - (intOf t7).toNat)
 case atStart=>exact⟨0,by omega,rfl,rfl,rfl⟩
 case round=>
  obtain⟨i,hi,rfl,HA,HW⟩:=hrel;by_cases hlt:i<16
  ·have hdi:decide ((i:Int)<16)=true:=by simp;omega
   have HIT:Hid (∀w,Calls prog 228 #[.int .i64 ((i:Int)+1)] w fun e w'=>e=.returned (.string (dcs (i+1)))/\w'=w):=fun w=>by have h:=zix (i+1) (by omega) w;rw[Int.natCast_add] at h;exact h
   have hsz:=zjY (i+1);obtain⟨f,hf⟩:∃f,16 - i=f+1:=⟨15 - i,by omega⟩;have HF:Hid (f=16 - (i+1)):=by show _=_;omega
   have hA:=HA.out;rw[hf] at hA;clear hf;go_wp2_with fail
   refine(HIT.out _).mono ?_;rintro e w' ⟨rfl,rfl⟩;by_cases h1:bl s=bl (dup i)
   ·have HR:Hid (zbC s=some (128+i)):=by show _=_;unfold zbC;rw[<-hA];simp[zd7,h1]
    have e1:(s.toList==((⟨#[68,85,80]⟩:ByteArray)++dcs (i+1)).toList)=true:=ze3 h1;clear h1 hA;generalize dcs (i+1)=dc at*;go_wp2;go_ret2;exact⟨by rw[HR.out];simp[pr],HW.out⟩
   ·have e1:(s.toList==((⟨#[68,85,80]⟩:ByteArray)++dcs (i+1)).toList)=false:=zd4 h1;by_cases h2:bl s=bl (swp i)
    ·have HR:Hid (zbC s=some (144+i)):=by show _=_;unfold zbC;rw[<-hA];simp only[zd7,if_neg h1,if_pos h2];rfl
     have e2:(s.toList==((⟨#[83,87,65,80]⟩:ByteArray)++dcs (i+1)).toList)=true:=ze3 h2;clear h1 h2 hA;generalize dcs (i+1)=dc at*;go_wp2;go_ret2;exact⟨by rw[HR.out];simp[pr],HW.out⟩
    ·have e2:(s.toList==((⟨#[83,87,65,80]⟩:ByteArray)++dcs (i+1)).toList)=false:=zd4 h2
     have HA2:Hid (zd7 (bl s) (16 - (i+1)) (i+1)=zd7 (bl s) 16 0):=by
      show _=_;rw[<-hA,<-HF.out];simp only[zd7,if_neg h1,if_neg h2]
     clear h1 h2 hA;generalize dcs (i+1)=dc at*;go_wp2
     go_roundw
     case rel=>exact⟨i+1,by omega,by go_num,HA2,HW⟩
     case measure=>simp[intOf];omega
  ·obtain rfl:i=16:=by omega
   have HN:Hid (zd7 (bl s) 16 0=none):=by show _=_;rw[<-HA.out];rfl
   clear HA;rw[show((16:Nat):Int)=16 from rfl];go_wp2
   go_loopw [29] (fun t29 wq=>∃i:Nat,i<=5/\t29=.int .i64 i/\Hid (ze9 (bl s) (5 - i) i=ze9 (bl s) 5 0)/\Hid (wq=w)) (fun t29 _=>5 - (intOf t29).toNat)
   case atStart=>exact⟨0,by omega,rfl,rfl,HW⟩
   case round=>
    clear HW;obtain⟨i,hi,rfl,HA,HW⟩:=hrel;by_cases hlt:i<5
    ·have hdi:decide ((i:Int)<5)=true:=by simp;omega
     have HIT:Hid (∀w,Calls prog 228 #[.int .i64 (i:Int)] w fun e w'=>e=.returned (.string (dcs i))/\w'=w):=fun w=>zix i (by omega) w
     have hsz:=zjY i;obtain⟨f,hf⟩:∃f,5 - i=f+1:=⟨4 - i,by omega⟩;have HF:Hid (f=5 - (i+1)):=by show _=_;omega
     have hA:=HA.out;rw[hf] at hA;clear hf;go_wp2_with fail
     refine(HIT.out _).mono ?_;rintro e w' ⟨rfl,rfl⟩;by_cases h1:bl s=bl (lgs i)
     ·have HR:Hid (zbC s=some (160+i)):=by show _=_;unfold zbC;rw[HN.out,<-hA];simp[ze9,h1]
      have e1:(s.toList==((⟨#[76,79,71]⟩:ByteArray)++dcs i).toList)=true:=ze3 h1;clear h1 hA;generalize dcs i=dc at*;go_wp2;go_ret2;exact⟨by rw[HR.out];simp[pr],HW.out⟩
     ·have e1:(s.toList==((⟨#[76,79,71]⟩:ByteArray)++dcs i).toList)=false:=zd4 h1
      have HA2:Hid (ze9 (bl s) (5 - (i+1)) (i+1)=ze9 (bl s) 5 0):=by
       show _=_;rw[<-hA,<-HF.out];simp only[ze9,if_neg h1]
      clear h1 hA;generalize dcs i=dc at*;go_wp2
      go_roundw
      case rel=>exact⟨i+1,by omega,by go_num,HA2,HW⟩
      case measure=>simp[intOf];omega
    ·obtain rfl:i=5:=by omega
     have HR:Hid (zbC s=none):=by show _=_;unfold zbC;rw[HN.out,<-HA.out];rfl
     go_wp2;go_ret2;exact⟨by rw[HR.out];rfl,HW.out⟩

def u8s (f:Nat->Nat):Nat->Value:=fun i=>.int .u8 (f i:Int)
def byn (n m:Nat):Nat:=n/2^(8*m)%256
theorem zpq (n i k:Nat) (hk:k<8):lb n i/2^(8*k)%256=byn n (8*i+k):=by
 unfold lb byn;have e:(256:Nat)=2^8:=rfl;rw[ziN,e,show 8*(8*i+k)=64*i+8*k by omega];apply Nat.eq_of_testBit_eq;intro j;simp only[Nat.testBit_mod_two_pow,Nat.testBit_div_two_pow];by_cases hj:j<8
 ·rw[decide_eq_true hj,Bool.true_and,Bool.true_and,decide_eq_true (by omega),Bool.true_and];congr 1;omega
 ·rw[decide_eq_false hj,Bool.false_and,Bool.false_and]
theorem ze6 (n:Nat) (hn:n<=281474976710656) (w:World):(Instr.makeSlice 26 (.int .i64 (n:Int)) (.int .i64 (n:Int))).run prog w=.ok (.slice (some ⟨w.heap.size,0,none⟩) n n) (w.alloc (.cells (madeCells #[.int .u8 0] n) 5)):=
 run_make_row' 26 5 (.int .u8 0) 1 (by kernel_rfl) (by kernel_rfl) rfl .i64 .i64 n (by omega) (by omega) w
def by32 (n:Nat):ByteArray:=strOfNums ((List.range 32).map fun j=>((byn n (31 - j):Nat):Int))
def lst (s:ByteArray):ByteArray:=⟨((bl s).dropWhile (·==0)).toArray⟩
theorem byt0 {s:ByteArray} (h:0<s.size):∃(c:UInt8) (r:List UInt8),bl s=c::r/\c.toNat=byt s 0:=by
 match hm:bl s with
 |[]=>have:(bl s).length=s.size:=rfl;rw[hm] at this;simp at this;omega
 |c::r=>exact⟨c,r,rfl,by rw[zdV,hm];rfl⟩
def strSize:Value->Nat
 |.string t=>t.size
 |_=>0
def u8v (b:UInt8):Value:=.int .u8 (b.toNat:Int)
def Bys (w:World) (base:Nat) (v:Value) (l:List UInt8):Prop:=w.ownsRow base 5 1 v l.length (l.map u8v)
theorem zb {p:Prop} (h:p):Hid p:=h
theorem zV (w:World) (cs:Array Value) (t:TypeId):∀j u,cs.toList[j]? =some u->(w.alloc (.cells cs t)).cell? ((⟨w.heap.size,0,none⟩:Addr).add j)=some u:=fun j u h=>by
 have e:(⟨w.heap.size,0,none⟩:Addr).add j=⟨w.heap.size,j,none⟩:=by simp[Addr.add,eq_comm]
 rw[e,cell_of_row _ w.heap.size j cs t (0,0) (heap_alloc_new w _)];simpa using h
theorem zeX:(prog.info? 5).map (fun i=>(i.zero,i.size,i.bytes))=some (some (.int .u8 0),1,1):=by kernel_rfl
theorem zI {w:World} {base e size:Nat} {v:Value} {n:Nat} {xs:List Value} (h:w.ownsRow base e size v n xs) (hn:n≠0):∃g cap:Nat,v=.slice (some ⟨g,0,none⟩) n cap/\base<=g/\g<w.heap.size/\n<=cap:=by
 rcases h.2 with⟨_,h0⟩|⟨g,cap,cur,hv,hb,hg,hnc,_⟩
 ·exact absurd h0 hn
 ·exact⟨g,cap,hv,hb,lt_of_block hg,hnc⟩
def bys (n m:Nat):List UInt8:=(List.range (32 - m)).map fun j=>UInt8.ofNat (byn n (31 - j))
def pl (n m:Nat):List UInt8:=(bys n m).dropWhile (·==0)
theorem zjJ (n i:Nat) (hi:i<32):bys n i=bys n (i+1)++[UInt8.ofNat (byn n i)]:=by
 unfold bys;rw[show 32 - i=(32 - (i+1))+1 by omega,List.range_succ,List.map_append,List.map_cons,List.map_nil,show 31 - (32 - (i+1))=i by omega]
theorem zpB (n i:Nat):byn n i<256:=Nat.mod_lt _ (by omega)
theorem zaN (n i:Nat):(UInt8.ofNat (byn n i)).toNat=byn n i:=UInt8.toNat_ofNat_of_lt' (zpB n i)
theorem zl3 (n i:Nat) (hi:i<32) (h:byn n i≠0\/pl n (i+1)≠[]):pl n i=pl n (i+1)++[UInt8.ofNat (byn n i)]:=by
 unfold pl at*;rw[zjJ n i hi,List.dropWhile_append];by_cases he:(bys n (i+1)).dropWhile (·==0)=[]
 ·rw[he] at h⊢;have h0:byn n i≠0:=h.resolve_right (fun k=>k rfl)
  have:(UInt8.ofNat (byn n i)==0)=false:=by
   rw[beq_eq_false_iff_ne];intro e;have:=congrArg UInt8.toNat e;rw[zaN] at this;exact h0 this
  rw[List.isEmpty_nil,if_pos rfl,List.dropWhile_cons,this];rfl
 ·rw[if_neg];rw[List.isEmpty_iff];exact he
theorem pl_same (n i:Nat) (hi:i<32) (h0:byn n i=0) (he:pl n (i+1)=[]):pl n i=[]:=by
 unfold pl at*;rw[zjJ n i hi,List.dropWhile_append,he,h0];rfl
theorem ze7 (n m:Nat):(pl n m).length<=32:=by
 unfold pl bys;have h1:=(List.dropWhile_suffix (fun x:UInt8=>x==0) (l:=(List.range (32 - m)).map fun j=>UInt8.ofNat (byn n (31 - j)))).length_le;rw[List.length_map,List.length_range] at h1;omega
def pcs (n m:Nat):List UInt8:=UInt8.ofNat (95+(pl n m).length)::pl n m
def zck (n:Nat):List UInt8:=pcs n 0
theorem zi3 (n m:Nat):(UInt8.ofNat (95+(pl n m).length)).toNat=95+(pl n m).length:=by
 have h:=ze7 n m;exact UInt8.toNat_ofNat_of_lt' (by show _<256;omega)
theorem Bys.mono {w:World} {b c:Nat} {v:Value} {l:List UInt8} (h:Bys w b v l) (hc:c<=b):Bys w c v l:=
 ⟨h.1,h.2.imp id fun⟨g,cap,cur,a1,a2,a3⟩=>⟨g,cap,cur,a1,Nat.le_trans hc a2,a3⟩⟩
theorem Bys.len {w:World} {b n:Nat} {v:Value} {l:List UInt8} (h:Bys w b v l) (hl:l.length=n):w.ownsRow b 5 1 v n (l.map u8v):=by subst hl;exact h
theorem Bys.alloc {w:World} {base:Nat} {v:Value} {l:List UInt8} (h:Bys w base v l) (o:Obj):Bys (w.alloc o) base v l:=World.ownsRow.alloc h o
theorem zqp {w w':World} {base:Nat} {g n i cap:Nat} (hi:i<32) (h:byn n i≠0\/pl n (i+1)≠[]) (ho:w.ownsRow base 5 1 (.slice (some ⟨g,0,none⟩) ((pcs n (i+1)).length+1) cap) ((pcs n (i+1)).length+1) ((pcs n (i+1)).map u8v++[.int .u8 (byn n i:Int)])):
  Bys (w.setCell ⟨g,0,none⟩ (.int .u8 ((95+(pl n (i+1)).length:Nat)+1:Int))) base (.slice (some ⟨g,0,none⟩) ((pcs n (i+1)).length+1) cap) (pcs n i):=by
 have hs:=(ho.stored 0 (.int .u8 ((95+(pl n (i+1)).length:Nat)+1:Int))).1;have e1:pcs n i=UInt8.ofNat (95+(pl n i).length)::(pl n (i+1)++[UInt8.ofNat (byn n i)]):=by unfold pcs;rw[zl3 n i hi h]
 have hl:(pl n i).length=(pl n (i+1)).length+1:=by rw[zl3 n i hi h,List.length_append];rfl
 have e2:(pcs n i).length=(pcs n (i+1)).length+1:=by unfold pcs;rw[List.length_cons,List.length_cons,hl]
 unfold Bys;rw[e2]
 have e3:(pcs n i).map u8v=((pcs n (i+1)).map u8v++[Value.int .u8 (byn n i:Int)]).set 0 (.int .u8 ((95+(pl n (i+1)).length:Nat)+1:Int)):=by
  rw[e1];unfold pcs;rw[List.map_cons,List.map_cons,List.cons_append,List.set_cons_zero,List.map_append];congr 1
  ·unfold u8v;rw[zi3,hl];congr 1
  ·unfold u8v;rw[List.map_cons,List.map_nil,zaN]
 rw[e3];exact hs
theorem zqr (n:Nat) (w:World):Calls prog 145 #[wv n] w fun e w'=>∃v,e=.returned v/\Bys w' w.heap.size v (zck n)/\Below w.heap.size w w':=by
 obtain⟨i0,hi0,hz0,hz1,hz2⟩:=info_parts zeX;have hr0:(w.alloc (.cells #[.int .u64 (za n 0),.int .u64 (za n 1),.int .u64 (za n 2),.int .u64 (za n 3)] 24)).rowIs w.heap.size 24 4 (zo (za n)):=zk (za n) rfl rfl rfl rfl rfl;go_enter func145,ntmps145;go_wp2
 go_loopw [3,4] (fun t3 t4 wr=>∃m:Nat,m<=32/\t4=.int .i64 ((m:Int) - 1)/\wr.rowIs w.heap.size 24 4 (zo (za n))/\Bys wr (w.heap.size+1) t3 (pcs n m)/\Below w.heap.size w wr)
   (fun _ t4 _=>(intOf t4+1).toNat)
 case atStart=>
  refine⟨32,by omega,rfl,hr0.alloc _, ?_,bal (bal (Below.refl _ _) _) _⟩;have h:=World.ownsRow_lit (base:=w.heap.size+1) (e:=5) (size:=1) (w.alloc (.cells #[.int .u64 (za n 0),.int .u64 (za n 1),.int .u64 (za n 2),.int .u64 (za n 3)] 24)) #[.int .u8 95] 1 (by simp) (by decide) rfl;simp at h;exact h
 case round=>
  obtain⟨m,hm,ht4,hr,ho,hbel⟩:=hrel;by_cases h0:m=0
  ·subst h0;obtain⟨g,cap,rfl,hg1,hg2,hg3⟩:=zI ho (by unfold pcs;simp);rw[show((0:Nat):Int) - 1= -1 from rfl] at ht4;subst ht4;go_wp2;go_ret;exact⟨_,rfl,ho.mono (by omega),hbel⟩
  ·obtain⟨i,rfl⟩:∃i,m=i+1:=⟨m - 1,by omega⟩;rw[show((i+1:Nat):Int) - 1=(i:Int) by omega] at ht4;subst ht4;have hq4:i/8<4:=by omega
   have ca:=hr.cell hq4;simp only[zo,zmK] at ca;have hbyte:=zpq n (i/8) (i%8) (by omega);rw[show 8*(i/8)+i%8=i by omega] at hbyte;obtain⟨q,hq⟩:∃q,i/8=q:=⟨_,rfl⟩;obtain⟨r,hr8⟩:∃r,i%8=r:=⟨_,rfl⟩;rw[hq] at hbyte ca hq4;rw[hr8] at hbyte;have hqi:(i:Int)/8=(q:Int):=by omega
   have hri:(i:Int)%8=(r:Int):=by omega
   have hr7:r<8:=by omega
   clear hq hr8;have hll:=lb_lt n q;generalize lb n q=v at*;obtain⟨c,HC⟩:∃c,Hid (c=byn n i):=⟨_,rfl⟩
   have hval:(v:Int)/2^(r*8)%256=(c:Int):=by
    rw[HC.out,<-hbyte,Nat.mul_comm 8 r]
    push_cast
    rfl
   have hc256:c<256:=by rw[HC.out];exact zpB n i
   obtain⟨k,HK⟩:∃k,Hid (k=(pl n (i+1)).length):=⟨_,rfl⟩;have hk32:k<=32:=by rw[HK.out];exact ze7 n _
   have HPL:Hid ((pcs n (i+1)).length=k+1):=by show _=_;unfold pcs;rw[List.length_cons,HK.out]
   have ho2:=ho.len HPL.out;obtain⟨g,cap,rfl,hg1,hg2,hg3⟩:=zI ho2 (by omega)
   have HEAD:Hid ((pcs n (i+1)).map u8v=.int .u8 ((95+k:Nat):Int)::(pl n (i+1)).map u8v):=by
    show _=_;unfold pcs;rw[List.map_cons,HK.out];unfold u8v;rw[zi3]
   have hsz:=hbel.size;by_cases hmore:c≠0\/0<k
   ·have HM:Hid (byn n i≠0\/pl n (i+1)≠[]):=by
     show _\/_;rw[<-HC.out];exact hmore.imp id fun h e=>by rw[HK.out,e] at h;simp at h
    have HCELL:Hid (∀(x:World) (g' cap':Nat),x.ownsRow (w.heap.size+1) 5 1 (.slice (some ⟨g',0,none⟩) (k+1+1) cap') (k+1+1) ((pcs n (i+1)).map u8v++[.int .u8 (c:Int)])->x.cell? ⟨g',0,none⟩=some (.int .u8 (95+(k:Int)))/\x.frozen? ⟨g',0,none⟩=false):=fun x g' cap' h=>by
     refine⟨?_,h.frozenAt 0⟩;rw[h.cellAt 0 (by omega),HEAD.out];simp
    have HSTEP:Hid (∀(x:World) (g' cap':Nat),x.ownsRow (w.heap.size+1) 5 1 (.slice (some ⟨g',0,none⟩) (k+1+1) cap') (k+1+1) ((pcs n (i+1)).map u8v++[.int .u8 (c:Int)])->Bys (x.setCell ⟨g',0,none⟩ (.int .u8 (95+(k:Int)+1))) (w.heap.size+1) (.slice (some ⟨g',0,none⟩) (k+1+1) cap') (pcs n i)):=fun x g' cap' h=>by
     have h2:=zqp (w:=x) (w':=x) (g:=g') (cap:=cap') (base:=w.heap.size+1) (by omega) HM.out (by rw[HPL.out,<-HC.out];exact h);rw[HPL.out,<-HK.out] at h2;exact h2
    have hdk:decide (1<(k:Int)+1)=decide (0<k):=by rw[Bool.eq_iff_iff];simp;omega
    by_cases hc0:c=0
    ·have hk0:0<k:=by omega
     subst hc0;go_wp2_with (at_builtin;refine wpList_append_own _ rfl _ _ 26 rfl (w.heap.size+1) 5 i0 (.int .u8 0) 1 1 (by kernel_rfl) hi0 hz0 hz1 hz2 rfl (by decide) _ _ _ rfl (ho2.alloc _) ⟨wr.heap.size,0,none⟩ 1 1 [.int .u8 0] rfl rfl (zV wr #[.int .u8 0] 5) (by intro u hu;simp at hu;subst hu;rfl) (by unfold maxLen;omega) (by omega) (by simp;omega) ?_;intro v' w1 ho3 hgr _;obtain⟨g',cap',rfl,hg1',hg2',hg3'⟩:=zI ho3 (by omega);obtain⟨hc1,hc2⟩:=HCELL.out w1 g' cap' ho3;have HGR:=zb hgr;have HO3:=zb ho3;clear hgr ho3 hi0 hz0 hz1 hz2 ho ho2)
     have hgr:=HGR.out;have ho3:=HO3.out;have HB2:Hid (Bys (w1.setCell ⟨g',0,none⟩ (.int .u8 (95+(k:Int)+1))) (w.heap.size+1) (.slice (some ⟨g',0,none⟩) (k+1+1) cap') (pcs n i)):=HSTEP.out w1 g' cap' ho3;have hr2:w1.rowIs w.heap.size 24 4 (zo (za n)):=(hr.alloc _).of_block (hgr.block w.heap.size (by simp;omega) (fun e=>by have e2:w.heap.size=g:=Option.some.inj e;omega));have hbel2:Below w.heap.size w w1:=(bal hbel _).grown hgr (by simp;omega) (fun k e=>by have e2:g=k:=Option.some.inj e;omega)
     go_roundw
     case rel=>exact⟨i,by omega,by go_num,hr2.setOther (by simp;omega) _,HB2.out,bset hbel2 (by simp;omega) _⟩
     case measure=>simp[intOf]
    ·have hc1:((c:Int) !=0)=true:=by simp;omega
     go_wp2_with (at_builtin;refine wpList_append_own _ rfl _ _ 26 rfl (w.heap.size+1) 5 i0 (.int .u8 0) 1 1 (by kernel_rfl) hi0 hz0 hz1 hz2 rfl (by decide) _ _ _ rfl (ho2.alloc _) ⟨wr.heap.size,0,none⟩ 1 1 [.int .u8 (c:Int)] rfl rfl (zV wr #[.int .u8 (c:Int)] 5) (by intro u hu;simp at hu;subst hu;rfl) (by unfold maxLen;omega) (by omega) (by simp;omega) ?_;intro v' w1 ho3 hgr _;obtain⟨g',cap',rfl,hg1',hg2',hg3'⟩:=zI ho3 (by omega);obtain⟨hc1,hc2⟩:=HCELL.out w1 g' cap' ho3;have HGR:=zb hgr;have HO3:=zb ho3;clear hgr ho3 hi0 hz0 hz1 hz2 ho ho2)
     have hgr:=HGR.out;have ho3:=HO3.out;have HB2:Hid (Bys (w1.setCell ⟨g',0,none⟩ (.int .u8 (95+(k:Int)+1))) (w.heap.size+1) (.slice (some ⟨g',0,none⟩) (k+1+1) cap') (pcs n i)):=HSTEP.out w1 g' cap' ho3;have hr2:w1.rowIs w.heap.size 24 4 (zo (za n)):=(hr.alloc _).of_block (hgr.block w.heap.size (by simp;omega) (fun e=>by have e2:w.heap.size=g:=Option.some.inj e;omega));have hbel2:Below w.heap.size w w1:=(bal hbel _).grown hgr (by simp;omega) (fun k e=>by have e2:g=k:=Option.some.inj e;omega)
     go_roundw
     case rel=>exact⟨i,by omega,by go_num,hr2.setOther (by simp;omega) _,HB2.out,bset hbel2 (by simp;omega) _⟩
     case measure=>simp[intOf]
   ·have hc0:c=0:=by omega
    have hk0:k=0:=by omega
    subst hc0 hk0
    have HB2:Hid (Bys wr (w.heap.size+1) (.slice (some ⟨g,0,none⟩) (0+1) cap) (pcs n i)):=by
     have e:pl n (i+1)=[]:=List.length_eq_zero_iff.1 HK.out.symm
     have e2:pcs n i=pcs n (i+1):=by
      unfold pcs;rw[e,pl_same n i (by omega) HC.out.symm e]
     show Bys _ _ _ _;rw[e2];exact ho
    go_wp2
    go_roundw
    case rel=>exact⟨i,by omega,by go_num,hr,HB2.out,hbel⟩
    case measure=>simp[intOf]
theorem Yw:prog.underlying 26=some (.slice 5):=by kernel_rfl
theorem zmP:(prog.info? 5).map (·.size)=some 1:=by kernel_rfl
theorem zb6 (l:List UInt8):∀v∈l.map u8v,v.oneCell'=true:=by
 intro v hv;obtain⟨b,_,rfl⟩:=List.mem_map.1 hv;rfl
theorem u8v_map (s:ByteArray):List.map (fun b:UInt8=>Value.int IntKind.u8 (b.toNat:Int)) s.data.toList=(bl s).map u8v:=rfl
theorem zkW {P:Program} (w:World) (ty g o dLen dCap k:Nat) (s:ByteArray) (cur:Array Value) (t:TypeId) {dT sT elem:TypeId} (hu:P.underlying dT=some (.slice elem)) (hs:(P.info? elem).map (·.size)=some 1)
  (hg:w.heap[g]? =some (.cells cur t (0,0))) (hk:k=Nat.min s.size dLen) (hfit:o+k<=cur.size):
  (Builtin.copy_ #[dT,sT] ty #[.slice (some ⟨g,o,none⟩) dLen dCap,.string s]).run P w=
   .ok (goInt k) (w.setRow g (cur.toList.take o++((bl s).map u8v).take k++cur.toList.drop (o+k)).toArray):=by
 subst hk
 have hlen:(((bl s).map u8v).take (Nat.min s.size dLen)).length=Nat.min s.size dLen:=by
  rw[List.length_take,List.length_map,zaH];exact Nat.min_eq_left (Nat.min_le_left _ _)
 have hst:=run_storeCells_at P g o t (((bl s).map u8v).take (Nat.min s.size dLen)) 0 cur w hg (by rw[hlen];simpa using hfit) (fun v hv=>zb6 _ v (List.mem_of_mem_take hv));rw[hlen] at hst;simp only[Nat.add_zero] at hst;cases hq:P.info? elem with
 |none=>rw[hq] at hs;cases hs
 |some i=>
  simp[Builtin.copy_,run_underlying hu,Builtin.lenOf,Builtin.firstCells,sizeOf,typeInfo,hq];rw[u8v_map,hst];simp[Result.andThen]
theorem zjd (w:World) (g o dLen dCap k:Nat) (s:ByteArray) (cur:Array Value) (t:TypeId) (hg:w.heap[g]? =some (.cells cur t (0,0))) (hk:k=Nat.min s.size dLen) (hfit:o+k<=cur.size) (ty sT:TypeId):
  (Builtin.copy_ #[26,sT] ty #[.slice (some ⟨g,o,none⟩) dLen dCap,.string s]).run prog w=
   .ok (goInt k) (w.setRow g (cur.toList.take o++((bl s).map u8v).take k++cur.toList.drop (o+k)).toArray):=zkW w ty g o dLen dCap k s cur t Yw zmP hg hk hfit
def zN (s:ByteArray) (p n:Nat):List UInt8:=((bl s).drop p).take n++List.replicate (n - (s.size - p)) 0
theorem YB (s:ByteArray) (p n:Nat):(zN s p n).length=n:=by
 unfold zN;rw[List.length_append,List.length_take,List.length_drop,List.length_replicate,zaH];omega
theorem zls (s:ByteArray) (p n:Nat) (h:s.size<=p):zN s p n=List.replicate n 0:=by
 unfold zN;rw[List.drop_of_length_le (by rw[zaH];exact h),List.take_nil,List.nil_append,show n - (s.size - p)=n by omega]
theorem zdG (n:Nat):(madeCells #[.int .u8 0] n).toList=(List.replicate n (0:UInt8)).map u8v:=by
 rw[List.map_replicate,List.eq_replicate_iff];unfold madeCells;refine⟨by simp,fun b hb=> ?_⟩;simp at hb;obtain⟨x,_,rfl⟩:=hb;rw[Nat.mod_one];rfl
theorem zhZ (s:ByteArray) (m n k:Nat) (hm:m<=s.size) (hk:k=Nat.min (s.size - m) n):
  ((bl (s.extract m s.size)).map u8v).take k++((List.replicate n (0:UInt8)).map u8v).drop k=(zN s m n).map u8v:=by
 unfold zN;rw[zgg,List.take_of_length_le (l:=List.drop m (bl s)) (by rw[List.length_drop,zaH];omega),List.map_append,<-List.map_take,<-List.map_drop,List.drop_replicate,hk];congr 2
 ·by_cases h:s.size - m<=n
  ·rw[show Nat.min (s.size - m) n=s.size - m from Nat.min_eq_left h,List.take_of_length_le (by rw[List.length_drop,zaH];omega),List.take_of_length_le (by rw[List.length_drop,zaH];omega)]
  ·rw[show Nat.min (s.size - m) n=n from Nat.min_eq_right (by omega)]
 ·congr 1;by_cases h:s.size - m<=n
  ·rw[show Nat.min (s.size - m) n=s.size - m from Nat.min_eq_left h]
  ·rw[show Nat.min (s.size - m) n=n from Nat.min_eq_right (by omega)];omega
theorem zlV {w:World} {base g n:Nat} {l:List UInt8} (hl:l.length=n) (hb:base<=g) (hg:w.heap[g]? =some (.cells (l.map u8v).toArray 5 (0,0))) (hn:n<=100000):Bys w base (.slice (some ⟨g,0,none⟩) n n) l:=by
 subst hl;refine⟨by simp,Or.inr ⟨g,l.length,(l.map u8v).toArray,rfl,hb,hg,Nat.le_refl _, ?_,by simp,by rw[Nat.mul_one];exact List.take_of_length_le (by simp)⟩⟩;unfold maxLen;omega
theorem zdR (s:ByteArray) (p n:Nat) (hs:s.size<=100000) (hn:n<=100000) (w:World):Calls prog 261 #[.string s,wv p,.int .i64 (n:Int)] w fun e w'=>∃v,e=.returned v/\Bys w' w.heap.size v (zN s (p%M) n)/\Below w.heap.size w w':=by
 have hmk:=ze6 n (by omega);have hs1:=Zm ((W1.start w p).alloc (.cells (madeCells #[.int .u8 0] n) 5))
 have hg0:Hid (((w.alloc (wc p)).alloc (.cells (madeCells #[.int .u8 0] n) 5)).heap[w.heap.size+1]? =some (.cells (madeCells #[.int .u8 0] n) 5 (0,0))):=by
  have h:=heap_alloc_new (w.alloc (wc p)) (.cells (madeCells #[.int .u8 0] n) 5);rw[show(w.alloc (wc p)).heap.size=w.heap.size+1 by simp] at h;exact h
 by_cases hp:p%M<=s.size
 ·have HU:=Zm (zaD p s.size (by omega) hp);go_enter func261,ntmps261;go_wp2_with fail
  go_at_call 284
  refine(HU.out _).mono ?_;rintro e w1 ⟨m,HMM,rfl,hb1⟩;have hle:m<=s.size:=by rw[HMM.out];exact hp
  obtain⟨k,HK⟩:∃k,Hid (k=Nat.min (s.size - m) n):=⟨_,rfl⟩;have hkn:k<=n:=by rw[HK.out];exact Nat.min_le_right _ _
  have hsz:(s.extract m s.size).size=s.size - m:=by rw[ByteArray.size_extract];omega
  have hg1:w1.heap[w.heap.size+1]? =some (.cells (madeCells #[.int .u8 0] n) 5 (0,0)):=(hb1.block _ (by simp)).trans hg0.out;have hmz:(madeCells #[.int .u8 0] n).size=n:=by rw[<-Array.length_toList,zdG];simp
  have hcp:=zjd w1 (w.heap.size+1) 0 n n k (s.extract m s.size) (madeCells #[.int .u8 0] n) 5 hg1 (by rw[hsz];exact HK.out) (by omega);have HB:=Zm (hs1.out.call hb1).be;have HG:=Zm hg1;clear hg1 hb1 hsz hg0 hs1 HU hp hmk;go_wp2;go_ret;refine⟨_,rfl,zlV (YB _ _ _) (by omega) ?_ hn,below_setRow HB.out (by omega) _⟩;rw[setRow_heap _ _ _ _ _ _ HG.out,zdG,zhZ s m n k hle HK.out,HMM.out]
 ·have HU:=Zm (zaV p s.size (by omega) (by omega));go_enter func261,ntmps261;go_wp2_with fail
  go_at_call 284
  refine(HU.out _).mono ?_;rintro e w1 ⟨rfl,hb1⟩;have hg1:w1.heap[w.heap.size+1]? =some (.cells (madeCells #[.int .u8 0] n) 5 (0,0)):=(hb1.block _ (by simp)).trans hg0.out;have HB:=Zm (hs1.out.call hb1).be;have HG:=Zm hg1;clear hg1 hb1 hg0 hs1 HU hmk;go_wp2;go_ret;refine⟨_,rfl,zlV (YB _ _ _) (by omega) ?_ hn,HB.out⟩;rw[zls _ _ _ (by omega),<-zdG,Array.toArray_toList];exact HG.out
def ofL (l:List UInt8):Nat:=l.foldl (fun a b=>a*256+b.toNat) 0
def Rds (w:World) (v:Value) (l:List UInt8):Prop:=∃(ad:Option Addr) (cap:Nat),v=.slice ad l.length cap/\l.length<=cap/\(l≠[]->∃g o:Nat,ad=some ⟨g,o,none⟩/\g<w.heap.size/\∀i (h:i<l.length),w.cell? ⟨g,o+i,none⟩=some (u8v l[i]))
theorem Rds.below {w x:World} {v:Value} {l:List UInt8} (h:Rds w v l) (hb:Below w.heap.size w x):Rds x v l:=by
 obtain⟨ad,cap,h1,h2,h3⟩:=h;refine⟨ad,cap,h1,h2,fun hl=> ?_⟩;obtain⟨g,o,e,hg,hc⟩:=h3 hl;exact⟨g,o,e,Nat.lt_of_lt_of_le hg hb.size,fun i hi=>(hb.cell (by exact hg)).trans (hc i hi)⟩
theorem Bys.rds {w:World} {base:Nat} {v:Value} {l:List UInt8} (h:Bys w base v l):Rds w v l:=by
 rcases h.2 with⟨h1,h2⟩|⟨g,cap,cur,h1,h2,h3,h4,h5,h6,h7⟩
 ·exact⟨none,0,by rw[h1,h2],by omega,fun hl=>absurd (List.length_eq_zero_iff.1 h2) hl⟩
 ·subst h1;refine⟨some ⟨g,0,none⟩,cap,rfl,h4,fun _=>⟨g,0,rfl,lt_of_block h3,fun i hi=> ?_⟩⟩;have hc:=World.ownsRow.cellAt h i (by rw[Nat.mul_one];exact hi);rw[Nat.zero_add,hc,List.getElem?_map,List.getElem?_eq_getElem hi];rfl
theorem zpo (l:List UInt8) (b:UInt8):ofL (l++[b])=ofL l*256+b.toNat:=by unfold ofL;rw[List.foldl_append];rfl
def zhe (l:List UInt8) (i:Nat):Nat:=ofL (l.take i)*2^(8*(l.length - i))
theorem znR (l:List UInt8) (i u:Nat) (h:i<l.length) (hu:u=l.length - 1 - i):zhe l (i+1)=zhe l i+l[i].toNat*2^(8*u)/\zhe l i%2^(8*(u+1))=0:=by
 subst hu;unfold zhe;rw[List.take_succ_eq_append_getElem h,zpo,show l.length - (i+1)=l.length - 1 - i by omega,show l.length - i=(l.length - 1 - i)+1 by omega,show 8*(l.length - 1 - i+1)=8*(l.length - 1 - i)+8 by omega,Nat.pow_add];refine⟨?_, ?_⟩
 ·rw[Nat.add_mul,Nat.mul_assoc,Nat.mul_comm 256]
 ·rw[Nat.mul_mod_left]
theorem zos (l:List UInt8):zhe l l.length=ofL l:=by unfold zhe;rw[List.take_length,Nat.sub_self];simp
theorem zm1 (l:List UInt8):zhe l 0=0:=by unfold zhe;rw[List.take_zero];show 0*_=0;rw[Nat.zero_mul]
theorem or_step (V b u:Nat) (hb:b<256) (hV:V%2^(8*(u+1))=0):V+b*2^(8*u)=V ||| b*2^(8*u):=by
 obtain⟨a,rfl⟩:∃a,V=2^(8*(u+1))*a:=⟨V/2^(8*(u+1)),by have:=Nat.div_add_mod V (2^(8*(u+1)));omega⟩;apply Nat.two_pow_add_eq_or_of_lt;rw[show 8*(u+1)=8+8*u by omega,Nat.pow_add];exact Nat.mul_lt_mul_of_pos_right hb (Nat.two_pow_pos _)
theorem zoC (b u j:Nat) (hb:b<256):b*2^(8*u)/2^(64*j)%18446744073709551616=if j=u/8 then b*2^(8*(u%8)) else 0:=by
 by_cases h:j=u/8
 ·rw[if_pos h,show 8*u=64*j+8*(u%8) by omega,Nat.pow_add,Nat.mul_left_comm,Nat.mul_div_cancel_left _ (Nat.two_pow_pos _)];apply Nat.mod_eq_of_lt;have h2:2^(8*(u%8))<=2^56:=Nat.pow_le_pow_right (by omega) (by omega);have h3:b*2^(8*(u%8))<=255*2^56:=Nat.mul_le_mul (by omega) h2;omega
 ·rw[if_neg h];by_cases h2:j<u/8
  ·obtain⟨d,hd⟩:∃d,8*u=64*j+(64+d):=⟨8*u - 64*j - 64,by omega⟩;rw[hd,Nat.pow_add,Nat.mul_left_comm,Nat.mul_div_cancel_left _ (Nat.two_pow_pos _),Nat.pow_add,<-Nat.mul_assoc,Nat.mul_comm b,Nat.mul_assoc];exact Nat.mul_mod_right _ _
  ·rw[Nat.div_eq_of_lt];refine Nat.lt_of_lt_of_le (Nat.mul_lt_mul_of_pos_right hb (Nat.two_pow_pos _)) ?_;rw[show(256:Nat)=2^8 from rfl,<-Nat.pow_add];exact Nat.pow_le_pow_right (by omega) (by omega)
theorem zq6 (V b u j:Nat) (hb:b<256) (hV:V%2^(8*(u+1))=0):za (V+b*2^(8*u)) j=if j=u/8 then bits .or .u64 (za V j) ((b*2^(8*(u%8)):Nat):Int) else za V j:=by
 rw[or_step V b u hb hV,<-zdt]
 have e:za (b*2^(8*u)) j=((if j=u/8 then b*2^(8*(u%8)) else 0:Nat):Int):=by
  unfold za;rw[zoC b u j hb]
 rw[e];by_cases h:j=u/8
 ·rw[if_pos h,if_pos h]
 ·rw[if_neg h,if_neg h];unfold za;rw[bits_or_u64_nat _ _ (Nat.mod_lt _ (by omega)) (by omega),Nat.or_zero]
theorem zaM (l:List UInt8) (hl:l.length<=32) (v:Value) (w:World) (hv:Rds w v l):Calls prog 260 #[v] w fun e w'=>e=.returned (wv (ofL l))/\Below w.heap.size w w':=by
 obtain⟨ad,cap,rfl,hcap,hc⟩:=hv;go_enter func260,ntmps260;go_wp2
 go_loopw [9] (fun t9 wr=>∃i:Nat,i<=l.length/\t9=.int .i64 i/\wr.rowIs w.heap.size 24 4 (zo fun _=>0)/\
   wr.rowIs (w.heap.size+1) 24 4 (zo (za (zhe l i)))/\Below w.heap.size w wr)
   (fun t9 _=>l.length - (intOf t9).toNat)
 case atStart=>
  refine⟨0,by omega,rfl,(zk (fun _=>0) rfl rfl rfl rfl rfl).alloc _, ?_,bal (bal (Below.refl _ _) _) _⟩;rw[zm1];exact zk (za 0) (by simp) (by decide) (by decide) (by decide) (by decide)
 case round=>
  obtain⟨i,hi,rfl,hrz,hra,hbel⟩:=hrel;by_cases hlt:i<l.length
  ·have d:decide ((i:Int)<(l.length:Int))=true:=decide_eq_true (by omega);obtain⟨g,o,rfl,hg,hcell⟩:=hc (by intro e;rw[e] at hlt;cases hlt);have c0:wr.cell? ⟨g,o+i,none⟩=some (u8v l[i]):=(hbel.cell (by exact hg)).trans (hcell i hlt);obtain⟨u,hu⟩:∃u:Nat,(l.length:Int) - 1 - (i:Int)=(u:Int):=⟨l.length - 1 - i,by omega⟩;obtain⟨hst,hz⟩:=znR l i u hlt (by omega);have hb:l[i].toNat<256:=l[i].toNat_lt;unfold u8v at c0;generalize l[i].toNat=b at*;have hu32:u<32:=by omega
   clear hc hcell;have ca:=hra.cell (i:=u/8) (by omega);have fa:=hra.frozen (u/8);simp only[zo] at ca;go_wp2
   go_region
   all_goals go_wp2
   all_goals go_roundw
   case rel=>
    refine⟨i+1,by omega,by go_num,(hrz.setOther (by simp) _).drew, ?_,(hbel.setCell (by simp) _).drew⟩;refine World.rowIs.drew ((hra.set (u/8) _).congr fun j hj=> ?_);show(if j=u/8 then _ else _)=_;simp only[zo];rw[hst,zq6 _ b u j hb hz];by_cases h:j=u/8
    ·rw[if_pos h,if_pos h,h];congr 2
     have h2:b*2^(8*(u%8))<18446744073709551616:=by
      have h2:2^(8*(u%8))<=2^56:=Nat.pow_le_pow_right (by omega) (by omega);have h3:b*2^(8*(u%8))<=255*2^56:=Nat.mul_le_mul (by omega) h2;omega
     rw[zcO,Nat.mul_comm (u%8) 8,Nat.mod_eq_of_lt h2]
    ·rw[if_neg h,if_neg h]
   case measure=>simp[intOf];omega
  ·obtain rfl:i=l.length:=by omega
   rw[zos] at hra;obtain⟨c0,c1,c2,c3⟩:=ze hra;obtain⟨z0,z1,z2,z3⟩:=ze hrz;have f0:=hrz.frozen;go_wp2;obtain⟨q0,q1,q2,q3⟩:=ze (yl hrz (za (ofL l) 0) (za (ofL l) 1) (za (ofL l) 2) (za (ofL l) 3));simp only[zbp] at q0 q1 q2 q3;refine bodyPost_ret (v:=wv (ofL l)) (by simp[results,results260,go_sem,q0,q1,q2,q3]) rfl ⟨rfl, ?_⟩;exact(((hbel.setCell (by simp) _).setCell (by simp) _).setCell (by simp) _).setCell (by simp) _
section
def ZE (n:Nat) (f:Nat->Value):List Value:=(List.range n).map f
theorem zdo (n:Nat) (f:Nat->Value):(ZE n f).length=n:=by simp[ZE]
theorem zjC {P:Program} {x:World} {b n:Nat} {T':TypeId} {f:Nat->Value} (hr:x.rowIs b T' n f):(loadCells ⟨b,0,none⟩ n).run P x=.ok (ZE n f).toArray x:=by
 have h:=run_loadCells_list (P:=P) x ⟨b,0,none⟩ (ZE n f) (fun j v hj=>by
  have hj2:j<n:=by
   have:=(List.getElem?_eq_some_iff.1 hj).1;rwa[zdo] at this
  have e:(⟨b,0,none⟩:Addr).add j=⟨b,j,none⟩:=by simp[Addr.add,eq_comm]
  rw[e,hr.cell hj2,<-hj];simp[ZE,List.getElem?_map,List.getElem?_range hj2])
 rwa[zdo] at h
variable {s:Act} {x:World} {pos:String} {af:Array Edge} {g:Option (Nat×Bool)} {K:Act->World->Prop} {Q:Exit->Act->World->Prop}
theorem zoE {T T':TypeId} {n:Nat} {f:Nat->Value} {ty:TypeId} (t d b:Nat) (hA:∀w,(isAgg T).run prog w=.ok true w) (hS:∀w,(sizeOf T).run prog w=.ok n w)
  (he:s.tmps.getD t undef=.pointer (some ⟨b,0,none⟩)) (hr:x.rowIs b T' n f) (hK:K (s.put (some d) (.agg (ZE n f).toArray)) x):
  Oper.wp prog ⟨some d,.load T (.tmp t),ty,pos,af,g⟩ s x K Q:=by
 have he2:s.eval (.tmp t)=.pointer (some ⟨b,0,none⟩):=he;have hl:=zjC (P:=prog) hr;unfold Oper.wp;simp only[execOp,he2,Instr.loadAt,Instr.sureAddr,loadVar,Sem.run_bind,Sem.run_pure,Result.andThen_ok,hA,hS,if_true,hl];exact hK
theorem zgQ {T T':TypeId} {n:Nat} {f:Nat->Value} {cs:List Value} {ty:TypeId} (t u b:Nat) (hS:∀w,(sizeOf T).run prog w=.ok n w) (hn:cs.length=n) (h1:∀v∈cs,v.oneCell'=true)
  (he:s.tmps.getD t undef=.pointer (some ⟨b,0,none⟩)) (hu:s.tmps.getD u undef=.agg cs.toArray) (hr:x.rowIs b T' n f) (hK:K (s.put none undef) (x.setRow b cs.toArray)):
  Oper.wp prog ⟨none,.store T (.tmp t) (.tmp u),ty,pos,af,g⟩ s x K Q:=by
 have he2:s.eval (.tmp t)=.pointer (some ⟨b,0,none⟩):=he;have hu2:s.eval (.tmp u)=.agg cs.toArray:=hu;obtain⟨c,hb,hc,_⟩:=hr;have hst:=run_storeCells_at prog b 0 T' cs 0 c x hb (by omega) h1;rw[Nat.zero_add,Nat.zero_add,List.take_zero,List.nil_append,List.drop_of_length_le (by rw[Array.length_toList];omega),List.append_nil] at hst;have hcs:(Value.agg cs.toArray).cells=cs.toArray:=rfl;unfold Oper.wp;simp only[execOp,he2,hu2,Instr.storeAt,Instr.sureAddr,storeVar,Sem.run_bind,Sem.run_pure,Result.andThen_ok,hS,hcs,List.size_toArray,hn,ne_eq,not_true_eq_false,if_false,hst];exact hK
theorem zjx {P:Program} {fn:Func} {ts:Array Value} {a:Nat} {T:TypeId} {ad:Addr} {n:Nat} {cs:Array Value} {W:World} (hr:fn.results=#[.cell a T]) (ha:ts.getD a undef=.pointer (some ad))
  (hA:∀w,(isAgg T).run P w=.ok true w) (hS:∀w,(sizeOf T).run P w=.ok n w) (hl:(loadCells ad n).run P W=.ok cs W):(results fn ts).run P W=.ok (.agg cs) W:=by
 rw[Array.getD_eq_getD_getElem?] at ha;unfold results;rw[hr];simp[ha,asAddr,loadVar,hA,hS,hl]
def arr32 (n:Nat):Value:=.agg ((bys n 0).map u8v).toArray
theorem zee (n:Nat) (w:World):Calls prog 283 #[wv n] w fun e w'=>e=.returned (arr32 n)/\Below w.heap.size w w':=by
 go_enter func283,ntmps283;go_wp2
 go_loopw [6] (fun t6 wr=>∃i:Nat,i<=32/\t6=.int .i64 i/\wr.rowIs w.heap.size 24 4 (zo (za n))/\wr.rowIs (w.heap.size+1) 298 32 (u8s fun _=>0)/\
   wr.rowIs (w.heap.size+1+1) 298 32 (u8s fun j=>if j<i then byn n (31 - j) else 0)/\Below w.heap.size w wr)
   (fun t6 _=>32 - (intOf t6).toNat)
 case atStart=>
  refine⟨0,by omega,rfl,((zk (za n) rfl rfl rfl rfl rfl).alloc _).alloc _, ?_, ?_,bal (bal (bal (Below.refl _ _) _) _) _⟩
  ·refine World.rowIs.alloc ?_ _
   have h:=World.rowIs_alloc (w.alloc (wc n)) (Array.replicate 32 (.int .u8 0)) 298 (u8s fun _=>0) (fun i hi=>by
    have hi2:i<32:=by simpa using hi
    simp[u8s,hi2])
   have e:(w.alloc (wc n)).heap.size=w.heap.size+1:=by simp
   rw[e] at h;exact h
  ·have h:=World.rowIs_alloc ((w.alloc (wc n)).alloc (.cells (Array.replicate 32 (.int .u8 0)) 298)) (Array.replicate 32 (.int .u8 0)) 298 (u8s fun j=>if j<0 then byn n (31 - j) else 0) (fun i hi=>by
    have hi2:i<32:=by simpa using hi
    simp[u8s,hi2])
   have e:((w.alloc (wc n)).alloc (.cells (Array.replicate 32 (.int .u8 0)) 298)).heap.size=w.heap.size+1+1:=by simp
   rw[e] at h;exact h
 case round=>
  obtain⟨i,hi,rfl,hrw,hrz,hra,hbel⟩:=hrel;by_cases hlt:i<32
  ·have d:decide ((i:Int)<32)=true:=decide_eq_true (by omega);obtain⟨u,hu⟩:∃u:Nat,(31:Int) - (i:Int)=(u:Int):=⟨31 - i,by omega⟩;have hu32:u<32:=by omega
   have cw:=hrw.cell (i:=u/8) (by omega);have ca:=hra.cell hlt;have fa:=hra.frozen i;have hby:=zpq n (u/8) (u%8) (by omega);rw[show 8*(u/8)+u%8=u by omega] at hby;simp only[zo,zmK] at cw;simp only[u8s] at ca;go_wp2;refine⟨⟨i+1,by omega,by go_num,hrw.setOther (by simp;omega) _,hrz.setOther (by simp) _,(hra.set i _).congr fun j hj=> ?_,hbel.setCell (by simp;omega) _⟩,by simp[intOf];omega⟩;show(if j=i then _ else _)=_;simp only[u8s];by_cases h:j=i
   ·rw[if_pos h,if_pos (by omega),show 31 - j=u by omega,<-hby,Nat.mul_comm (u%8) 8];congr 1
   ·rw[if_neg h];by_cases h2:j<i
    ·rw[if_pos h2,if_pos (by omega)]
    ·rw[if_neg h2,if_neg (by omega)]
  ·obtain rfl:i=32:=by omega
   have d:decide (((32:Nat):Int)<32)=false:=by decide
   have hcells:Hid (ZE 32 (u8s fun j=>if j<32 then byn n (31 - j) else 0)=(bys n 0).map u8v):=by
    show _=_;unfold ZE bys;rw[List.map_map];refine List.map_congr_left fun j hj=> ?_
    have hj2:j<32:=List.mem_range.1 hj;simp only[u8s,if_pos hj2,Function.comp];unfold u8v;rw[zaN]
   go_upto_region 8 with fail
   refine wp_region_lit ?_;refine wpList_plain rfl fun K hK=> ?_
   refine zoE 3 23 (w.heap.size+1+1) (fun w=>by kernel_rfl) (fun w=>by kernel_rfl) rfl hra (hK _ _ ?_);rw[hcells.out];refine wpList_plain rfl fun K2 hK2=> ?_
   refine zgQ (cs:=(bys n 0).map u8v) 2 23 (w.heap.size+1) (fun w=>by kernel_rfl) (by simp[bys]) (zb6 _) rfl rfl hrz (hK2 _ _ ?_);refine wpList_nil ?_
   have hrow:(wr.setRow (w.heap.size+1) ((bys n 0).map u8v).toArray).heap[w.heap.size+1]? =some (.cells ((bys n 0).map u8v).toArray 298 (0,0)):=by
    obtain⟨c,hb,_⟩:=hrz;exact setRow_heap wr _ _ _ _ _ hb
   have HB:Hid (Below w.heap.size w (wr.setRow (w.heap.size+1) ((bys n 0).map u8v).toArray)):=below_setRow hbel (by omega) _;generalize wr.setRow (w.heap.size+1) ((bys n 0).map u8v).toArray=W at*
   have HR:Hid ((loadCells ⟨w.heap.size+1,0,none⟩ 32).run prog W=.ok ((bys n 0).map u8v).toArray W):=by
    have h:=run_loadCells_list (P:=prog) W ⟨w.heap.size+1,0,none⟩ ((bys n 0).map u8v) (fun j v hj=>by
     have e:(⟨w.heap.size+1,0,none⟩:Addr).add j=⟨w.heap.size+1,j,none⟩:=by simp[Addr.add,eq_comm]
     rw[e];simp only[World.cell?,hrow];simpa using hj)
    rw[show((bys n 0).map u8v).length=32 by simp[bys]] at h;exact h
   clear hrow hra hrz hrw hbel hcells;go_wp2;exact bodyPost_ret (v:=arr32 n) (zjx results283 rfl (fun w=>by kernel_rfl) (fun w=>by kernel_rfl) HR.out) rfl ⟨rfl,HB.out⟩
theorem zch {P:Program} {T e:TypeId} {n i:Nat} {A:Array Value} {v:Value} (hu:P.underlying T=some (.array n e)) (hS:∀w,(sizeOf e).run P w=.ok 1 w) (hA:∀w,(isAgg e).run P w=.ok false w) (hi:i<n) (ha:A[i]? =some v) (w:World):
  (Instr.index T (.agg A) (.int .i64 (i:Int))).run P w=.ok v w:=by
 have h2:(i:Int)<(n:Int):=by omega
 simp[Instr.index,asIntOf,run_underlying hu,hS,hA,part,h2,ha];intro h;omega
theorem zmJ:prog.underlying 298=some (.array 32 5):=by kernel_rfl
theorem zdv:∀(l:List UInt8) (i:Nat),(∀j (h:j<l.length),j<i->l[j]=0)->(∀h:i<l.length,l[i]≠0)->(l.dropWhile (·==0)).length=l.length - i
 |[],i,_,_=>by simp
 |b::l,0,h1,h2=>by
  have h:=h2 (by simp);have e:(b==0)=false:=by simpa using h
  rw[List.dropWhile_cons,e];rfl
 |b::l,i+1,h1,h2=>by
  have h:=h1 0 (by simp) (by omega);have e:(b==0)=true:=by simpa using h
  rw[List.dropWhile_cons,e,if_pos rfl,zdv l i (fun j hj hi=>h1 (j+1) (by simp;omega) (by omega)) (fun hi=>h2 (by simp;omega)),List.length_cons];omega
theorem zq5 (n j:Nat) (h:j<(bys n 0).length):(bys n 0)[j]=UInt8.ofNat (byn n (31 - j)):=by simp[bys]
theorem pl_at (n i:Nat) (h1:∀j,j<i->byn n (31 - j)=0) (h2:i<32->byn n (31 - i)≠0):(pl n 0).length=32 - i:=by
 have hl:(bys n 0).length=32:=by simp[bys]
 unfold pl;rw[zdv (bys n 0) i,hl]
 ·intro j hj hi;rw[zq5,h1 j hi];rfl
 ·intro hi e;rw[zq5] at e;have:=congrArg UInt8.toNat e;rw[zaN] at this;exact h2 (by omega) this
theorem zbJ (n:Nat) (w:World):Calls prog 258 #[wv n] w fun e w'=>e=.returned (.int .i64 ((pl n 0).length:Int))/\Below w.heap.size w w':=by
 have HT:=Zm (zee n);have hs:=W1.start w n;go_enter func258,ntmps258;go_wp2_with fail
 refine(HT.out _).mono ?_;rintro e w1 ⟨rfl,hb1⟩;replace hs:=Zm (hs.call hb1).be;unfold arr32;obtain⟨A,hA⟩:∃A,A=((bys n 0).map u8v).toArray:=⟨_,rfl⟩;rw[<-hA];have hsz:A.size=32:=by rw[hA];simp[bys]
 have hat:Hid (∀i,i<32->A[i]? =some (.int .u8 (byn n (31 - i):Int))):=fun i hi=>by
  rw[hA];simp only[List.getElem?_toArray,bys,List.map_map,List.getElem?_map,List.getElem?_range hi,Option.map_some,Function.comp,u8v,zaN,Nat.sub_zero]
 clear hA hb1 HT;go_wp2
 go_loopw [7] (fun t7 wr=>∃i:Nat,i<=32/\t7=.int .i64 i/\Hid (∀j,j<i->byn n (31 - j)=0)/\Hid (wr=w1))
   (fun t7 _=>32 - (intOf t7).toNat)
 case atStart=>exact⟨0,by omega,rfl,fun j hj=>by omega,rfl⟩
 case round=>
  obtain⟨i,hi,rfl,HZ,HW⟩:=hrel;obtain rfl:=HW.out;by_cases hlt:i<32
  ·have d:decide ((i:Int)<32)=true:=decide_eq_true (by omega);have ha:=hat.out i hlt;by_cases hz:byn n (31 - i)=0
   ·rw[hz] at ha
    have HN:Hid (∀j,j<i+1->byn n (31 - j)=0):=fun j hj=>by
     by_cases e:j=i
     ·rw[e];exact hz
     ·exact HZ.out j (by omega)
    have hix:=zch zmJ (fun w=>by kernel_rfl) (fun w=>by kernel_rfl) hlt ha;clear hz HZ HW;go_wp2;refine⟨⟨i+1,by omega,by go_num,HN,by first|exact rfl|exact trivial⟩,by simp[intOf];omega⟩
   ·have d2:((byn n (31 - i):Int) !=0)=true:=by simp;exact hz
    have HR:=Zm (pl_at n i HZ.out (fun _=>hz));have hix:=zch zmJ (fun w=>by kernel_rfl) (fun w=>by kernel_rfl) hlt ha;clear hz HZ HW;go_wp2;go_ret;refine⟨?_,hs.out⟩;rw[HR.out];exact congrArg (fun z=>Ending.returned (Value.int .i64 z)) (by omega)
  ·obtain rfl:i=32:=by omega
   have d:decide (((32:Nat):Int)<32)=false:=by decide
   have HR:=Zm (pl_at n 32 HZ.out (fun h=>absurd h (by omega)));clear HZ HW;go_wp2;go_ret;exact⟨by rw[HR.out];rfl,hs.out⟩
end
def zcT (s:ByteArray):Option Nat:=((lk tabRec (bl s)).orElse fun _=>lk tabCmp (bl s)).orElse fun _=>(lk tabSur (bl s)).orElse fun _=>(lk tabKee (bl s)).orElse fun _=>zbC s
theorem znx (s:ByteArray) (hs:s.size<=2000) (w:World):Calls prog 143 #[.string s] w fun e w'=>e=.returned (pr (zcT s))/\w'=w:=by
 obtain⟨o1,H1⟩:∃o,Hid (o=(lk tabRec (bl s)).orElse fun _=>lk tabCmp (bl s)):=⟨_,rfl⟩;obtain⟨o2,H2⟩:∃o,Hid (o=lk tabSur (bl s)):=⟨_,rfl⟩;obtain⟨o3,H3⟩:∃o,Hid (o=lk tabKee (bl s)):=⟨_,rfl⟩;obtain⟨o4,H4⟩:∃o,Hid (o=zbC s):=⟨_,rfl⟩;have HN:Hid (zcT s=o1.orElse fun _=>o2.orElse fun _=>o3.orElse fun _=>o4):=by show _=_;rw[H1.out,H2.out,H3.out,H4.out];rfl
 have C1:Hid (∀w,Calls prog 196 #[.string s] w fun e w'=>e=.returned (pr o1)/\w'=w):=fun w=>by rw[H1.out];exact Rec_any s hs w
 have C2:Hid (∀w,Calls prog 197 #[.string s] w fun e w'=>e=.returned (pr o2)/\w'=w):=fun w=>by rw[H2.out];exact Sur_any s hs w
 have C3:Hid (∀w,Calls prog 198 #[.string s] w fun e w'=>e=.returned (pr o3)/\w'=w):=fun w=>by rw[H3.out];exact Kee_any s hs w
 have C4:Hid (∀w,Calls prog 199 #[.string s] w fun e w'=>e=.returned (pr o4)/\w'=w):=fun w=>by rw[H4.out];exact znZ s hs w
 clear H1 H2 H3 H4;go_enter func143,ntmps143;go_wp2_with fail
 refine(C1.out _).mono ?_;rintro e w' ⟨rfl,rfl⟩;cases o1 with
 |some v=>
  unfold pr;simp only[Option.getD_some,Option.isSome_some];go_wp2;go_ret2;exact⟨by rw[HN.out];rfl,rfl⟩
 |none=>
  unfold pr;simp only[Option.getD_none,Option.isSome_none];go_wp2_with fail
  refine(C2.out _).mono ?_;rintro e w' ⟨rfl,rfl⟩;cases o2 with
  |some v=>
   unfold pr;simp only[Option.getD_some,Option.isSome_some];go_wp2;go_ret2;exact⟨by rw[HN.out];rfl,rfl⟩
  |none=>
   unfold pr;simp only[Option.getD_none,Option.isSome_none];go_wp2_with fail
   refine(C3.out _).mono ?_;rintro e w' ⟨rfl,rfl⟩;cases o3 with
   |some v=>
    unfold pr;simp only[Option.getD_some,Option.isSome_some];go_wp2;go_ret2;exact⟨by rw[HN.out];rfl,rfl⟩
   |none=>
    unfold pr;simp only[Option.getD_none,Option.isSome_none];go_wp2_with fail
    refine(C4.out _).mono ?_;rintro e w' ⟨rfl,rfl⟩;unfold pr;go_wp2;go_ret2;exact⟨by rw[HN.out];rfl,rfl⟩
section
section
variable {s:Act} {x:World} {pos:String} {af:Array Edge} {g:Option (Nat×Bool)} {K:Act->World->Prop} {Q:Exit->Act->World->Prop}
def One (c:Int) (v:Value) (x:World):Prop:=∃b,v=.slice (some ⟨b,0,none⟩) 1 1/\x.rowIs b 5 1 (fun _=>.int .u8 c)
end
end
def nsA:List ByteArray:=[⟨#[83,84,79,80]⟩,⟨#[65,68,68]⟩,⟨#[77,85,76]⟩,⟨#[83,85,66]⟩,⟨#[68,73,86]⟩,⟨#[83,68,73,86]⟩,⟨#[77,79,68]⟩,⟨#[83,77,79,68]⟩,⟨#[65,68,68,77,79,68]⟩,⟨#[77,85,76,77,79,68]⟩,⟨#[69,88,80]⟩,⟨#[83,73,71,78,69,88,84,69,78,68]⟩]
def nsB:List ByteArray:=[⟨#[76,84]⟩,⟨#[71,84]⟩,⟨#[83,76,84]⟩,⟨#[83,71,84]⟩,⟨#[69,81]⟩,⟨#[73,83,90,69,82,79]⟩,⟨#[65,78,68]⟩,⟨#[79,82]⟩,⟨#[88,79,82]⟩,⟨#[78,79,84]⟩,⟨#[66,89,84,69]⟩,⟨#[83,72,76]⟩,⟨#[83,72,82]⟩,⟨#[83,65,82]⟩]
def nsC:List ByteArray:=[⟨#[65,68,68,82,69,83,83]⟩,⟨#[66,65,76,65,78,67,69]⟩,⟨#[]⟩,⟨#[67,65,76,76,69,82]⟩,⟨#[67,65,76,76,86,65,76,85,69]⟩,⟨#[67,65,76,76,68,65,84,65,76,79,65,68]⟩,⟨#[67,65,76,76,68,65,84,65,83,73,90,69]⟩,⟨#[67,65,76,76,68,65,84,65,67,79,80,89]⟩,⟨#[67,79,68,69,83,73,90,69]⟩,⟨#[67,79,68,69,67,79,80,89]⟩,⟨#[]⟩,⟨#[]⟩,⟨#[]⟩,⟨#[82,69,84,85,82,78,68,65,84,65,83,73,90,69]⟩,⟨#[82,69,84,85,82,78,68,65,84,65,67,79,80,89]⟩]
def nsD:List ByteArray:=[⟨#[80,79,80]⟩,⟨#[77,76,79,65,68]⟩,⟨#[77,83,84,79,82,69]⟩,⟨#[77,83,84,79,82,69,56]⟩,⟨#[83,76,79,65,68]⟩,⟨#[83,83,84,79,82,69]⟩,⟨#[74,85,77,80]⟩,⟨#[74,85,77,80,73]⟩,⟨#[80,67]⟩,⟨#[77,83,73,90,69]⟩,⟨#[71,65,83]⟩,⟨#[74,85,77,80,68,69,83,84]⟩,⟨#[84,76,79,65,68]⟩,⟨#[84,83,84,79,82,69]⟩,⟨#[77,67,79,80,89]⟩]
def tabZ:List (List UInt8×Nat):=[([67,65,76,76],241),([82,69,84,85,82,78],243),([68,69,76,69,71,65,84,69,67,65,76,76],244),([83,84,65,84,73,67,67,65,76,76],250),([82,69,86,69,82,84],253)]
def fnd (ns:List ByteArray) (l:List UInt8):Nat->Nat->Option Nat
 |0,_=>none
 |f+1,i=>if bl (ns.getD i ⟨#[]⟩)=l then some i else fnd ns l f (i+1)
def rowR (l:List UInt8):Nat->Nat->Option Nat
 |0,_=>none
 |f+1,i=>if l=bl ((⟨#[68,85,80]⟩:ByteArray)++dcs i) then some (127+i) else if l=bl ((⟨#[83,87,65,80]⟩:ByteArray)++dcs i) then some (143+i) else if i<=5/\l=bl ((⟨#[76,79,71]⟩:ByteArray)++dcs (i - 1)) then some (159+i) else rowR l f (i+1)
def rnm (s:ByteArray):Int:=match fnd nsA (bl s) 12 0 with
 |some i=>(0:Int)+i
 |none=>match fnd nsB (bl s) 14 0 with
  |some i=>(16:Int)+i
  |none=>match fnd nsC (bl s) 15 0 with
   |some i=>(48:Int)+i
   |none=>match fnd nsD (bl s) 15 0 with
    |some i=>(80:Int)+i
    |none=>match rowR (bl s) 16 1 with
     |some v=>(v:Int)
     |none=>match lk tabZ (bl s) with
      |some v=>(v:Int)
      |none=> -1
def zhh (l:List UInt8):Option Nat:=((lk tabRec l).orElse fun _=>lk tabCmp l).orElse fun _=>(lk tabSur l).orElse fun _=>(lk tabKee l).orElse fun _=>(zd7 l 16 0).orElse fun _=>ze9 l 5 0
def rnmL (l:List UInt8):Int:=match fnd nsA l 12 0 with
 |some i=>(0:Int)+i
 |none=>match fnd nsB l 14 0 with
  |some i=>(16:Int)+i
  |none=>match fnd nsC l 15 0 with
   |some i=>(48:Int)+i
   |none=>match fnd nsD l 15 0 with
    |some i=>(80:Int)+i
    |none=>match rowR l 16 1 with
     |some v=>(v:Int)
     |none=>match lk tabZ l with
      |some v=>(v:Int)
      |none=> -1
theorem named_l (s:ByteArray):zcT s=zhh (bl s):=rfl
def orm (o:Option Nat):Int:=match o with
 |some v=>(v:Int)
 |none=> -1
def zeD:List (List UInt8):=((List.range 16).map fun i=>bl (dup i))++(((List.range 16).map fun i=>bl (swp i))++(List.range 5).map fun i=>bl (lgs i))
def keys:List (List UInt8):=(tabRec.map Prod.fst)++((tabCmp.map Prod.fst)++((tabSur.map Prod.fst)++((tabKee.map Prod.fst)++zeD)))
theorem zp5:∀(tab:List (List UInt8×Nat)) (l:List UInt8),(∀p∈tab,p.1≠l)->lk tab l=none
 |[],_,_=>rfl
 |(a,v)::r,l,h=>by
  rw[lk,if_neg (fun e=>h (a,v) List.mem_cons_self e.symm)];exact zp5 r l fun p hp=>h p (List.mem_cons_of_mem _ hp)
theorem fnd_out (ns:List ByteArray) (l:List UInt8):∀f i,(∀j,i<=j->j<i+f->bl (ns.getD j ⟨#[]⟩)≠l)->fnd ns l f i=none
 |0,_,_=>rfl
 |f+1,i,h=>by
  rw[fnd,if_neg (h i (by omega) (by omega))];exact fnd_out ns l f (i+1) fun j h1 h2=>h j (by omega) (by omega)
theorem zi2 (l:List UInt8):∀f i,(∀j,i<=j->j<i+f->l≠bl (dup j)/\l≠bl (swp j))->zd7 l f i=none
 |0,_,_=>rfl
 |f+1,i,h=>by
  have h0:=h i (by omega) (by omega);rw[zd7,if_neg h0.1,if_neg h0.2];exact zi2 l f (i+1) fun j h1 h2=>h j (by omega) (by omega)
theorem zjW (l:List UInt8):∀f i,(∀j,i<=j->j<i+f->l≠bl (lgs j))->ze9 l f i=none
 |0,_,_=>rfl
 |f+1,i,h=>by
  rw[ze9,if_neg (h i (by omega) (by omega))];exact zjW l f (i+1) fun j h1 h2=>h j (by omega) (by omega)
theorem zcL (tab:List (List UInt8×Nat)) (h:(tab.all fun p=>keys.contains p.1)=true) (l:List UInt8) (hl:l∉keys):lk tab l=none:=
 zp5 tab l fun p hp e=>hl (by
  have:=List.all_eq_true.1 h p hp;rw[e] at this;simpa using this)
theorem dup_key (j:Nat) (h:j<16):bl (dup j)∈keys:=by
 unfold keys zeD;simp only[List.mem_append,List.mem_map,List.mem_range];exact Or.inr (Or.inr (Or.inr (Or.inr (Or.inl ⟨j,h,rfl⟩))))
theorem swp_key (j:Nat) (h:j<16):bl (swp j)∈keys:=by
 unfold keys zeD;simp only[List.mem_append,List.mem_map,List.mem_range];exact Or.inr (Or.inr (Or.inr (Or.inr (Or.inr (Or.inl ⟨j,h,rfl⟩)))))
theorem lgs_key (j:Nat) (h:j<5):bl (lgs j)∈keys:=by
 unfold keys zeD;simp only[List.mem_append,List.mem_map,List.mem_range];exact Or.inr (Or.inr (Or.inr (Or.inr (Or.inr (Or.inr ⟨j,h,rfl⟩)))))
theorem zqE (z i z' i' b0 b1 b2 b3 c1 c2 c3 n:Nat) (h0:b0<256) (h1:b1<256) (h2:b2<256) (h3:b3<256) (k1:c1<256) (k2:c2<256) (k3:c3<256)
  (h:wid z i b0 b1 b2 b3=n) (hn:n≠0) (hz:i'+n<=z') (e1:2<=n->c1=b1) (e2:3<=n->c2=b2) (e3:4<=n->c3=b3):wid z' i' b0 c1 c2 c3=n:=by
 by_cases hA:b0<128
 ·rw[wid_a _ _ _ _ _ _ hA] at h⊢;exact h
 ·by_cases hZ:b0<194\/245<=b0
  ·rw[wid_z _ _ _ _ _ _ (by omega) h0 hZ h1 h2 h3] at h;exact absurd h.symm hn
  ·have t2:b0<224->wid z' i' b0 c1 c2 c3=n:=fun hb=>by
    rw[wid_2 _ _ _ _ _ _ (by omega) hb h1] at h;rw[wid_2 _ _ _ _ _ _ (by omega) hb k1];split at h
    ·subst h;rw[if_pos];have:=e1 (by omega);omega
    ·exact absurd h.symm hn
   have t3:∀lo hi:Nat,((b0=224/\lo=160/\hi=191)\/(225<=b0/\b0<237/\lo=128/\hi=191)\/(b0=237/\lo=128/\hi=159)\/(238<=b0/\b0<240/\lo=128/\hi=191))->wid z' i' b0 c1 c2 c3=n:=fun lo hi hc=>by
    rw[wid_3 _ _ _ _ _ _ lo hi h1 h2 hc] at h;rw[wid_3 _ _ _ _ _ _ lo hi k1 k2 hc];split at h
    ·subst h;rw[if_pos];have:=e1 (by omega);have:=e2 (by omega);omega
    ·exact absurd h.symm hn
   have t4:∀lo hi:Nat,((b0=240/\lo=144/\hi=191)\/(241<=b0/\b0<244/\lo=128/\hi=191)\/(b0=244/\lo=128/\hi=143))->wid z' i' b0 c1 c2 c3=n:=fun lo hi hc=>by
    rw[wid_4 _ _ _ _ _ _ lo hi h1 h2 h3 hc] at h;rw[wid_4 _ _ _ _ _ _ lo hi k1 k2 k3 hc];split at h
    ·subst h;rw[if_pos];have:=e1 (by omega);have:=e2 (by omega);have:=e3 (by omega);omega
    ·exact absurd h.symm hn
   rcases(by omega:b0<224\/b0=224\/(225<=b0/\b0<237)\/b0=237\/(238<=b0/\b0<240)\/b0=240\/(241<=b0/\b0<244)\/b0=244) with h|h|h|h|h|h|h|h
   ·exact t2 h
   ·exact t3 160 191 (by omega)
   ·exact t3 128 191 (by omega)
   ·exact t3 128 159 (by omega)
   ·exact t3 128 191 (by omega)
   ·exact t4 144 191 (by omega)
   ·exact t4 128 191 (by omega)
   ·exact t4 128 143 (by omega)
theorem ziU (z i b0 b1 b2 b3 n:Nat) (h0:b0<256) (h1:b1<256) (h2:b2<256) (h3:b3<256) (h:wid z i b0 b1 b2 b3=n) (hn:n≠0):(n=1/\b0<128)\/(n=2/\128<=b0/\128<=b1)\/(n=3/\128<=b0/\128<=b2)\/(n=4/\128<=b0/\128<=b3):=by
 by_cases hA:b0<128
 ·rw[wid_a _ _ _ _ _ _ hA] at h;omega
 ·by_cases hZ:b0<194\/245<=b0
  ·rw[wid_z _ _ _ _ _ _ (by omega) h0 hZ h1 h2 h3] at h;exact absurd h.symm hn
  ·have t2:b0<224->(n=2/\128<=b0/\128<=b1):=fun hb=>by
    rw[wid_2 _ _ _ _ _ _ (by omega) hb h1] at h;split at h
    ·omega
    ·exact absurd h.symm hn
   have t3:∀lo hi:Nat,((b0=224/\lo=160/\hi=191)\/(225<=b0/\b0<237/\lo=128/\hi=191)\/(b0=237/\lo=128/\hi=159)\/(238<=b0/\b0<240/\lo=128/\hi=191))->(n=3/\128<=b0/\128<=b2):=fun lo hi hc=>by
    rw[wid_3 _ _ _ _ _ _ lo hi h1 h2 hc] at h;split at h
    ·omega
    ·exact absurd h.symm hn
   have t4:∀lo hi:Nat,((b0=240/\lo=144/\hi=191)\/(241<=b0/\b0<244/\lo=128/\hi=191)\/(b0=244/\lo=128/\hi=143))->(n=4/\128<=b0/\128<=b3):=fun lo hi hc=>by
    rw[wid_4 _ _ _ _ _ _ lo hi h1 h2 h3 hc] at h;split at h
    ·omega
    ·exact absurd h.symm hn
   rcases(by omega:b0<224\/b0=224\/(225<=b0/\b0<237)\/b0=237\/(238<=b0/\b0<240)\/b0=240\/(241<=b0/\b0<244)\/b0=244) with h|h|h|h|h|h|h|h
   ·exact Or.inr (Or.inl (t2 h))
   ·exact Or.inr (Or.inr (Or.inl (t3 160 191 (by omega))))
   ·exact Or.inr (Or.inr (Or.inl (t3 128 191 (by omega))))
   ·exact Or.inr (Or.inr (Or.inl (t3 128 159 (by omega))))
   ·exact Or.inr (Or.inr (Or.inl (t3 128 191 (by omega))))
   ·exact Or.inr (Or.inr (Or.inr (t4 144 191 (by omega))))
   ·exact Or.inr (Or.inr (Or.inr (t4 128 191 (by omega))))
   ·exact Or.inr (Or.inr (Or.inr (t4 128 143 (by omega))))
theorem zeO (s:ByteArray) (b e p:Nat) (h:p<e - b):byt (s.extract b e) p=byt s (b+p):=by
 rw[zdV,zdV,zgg,List.getD_eq_getElem?_getD,List.getD_eq_getElem?_getD,List.getElem?_take,if_pos h,List.getElem?_drop]
theorem nx_sub (s:ByteArray) (b e p:Nat) (he:e<=s.size) (h0:nx s (b+p)≠0) (h:b+p+nx s (b+p)<=e):nx (s.extract b e) p=nx s (b+p):=by
 rw[zcx,zcx];rw[zcx] at h0 h;have hs:(s.extract b e).size=e - b:=by rw[ByteArray.size_extract];omega
 have hl:=ziU _ _ _ _ _ _ _ (ZQ _ _) (ZQ _ _) (ZQ _ _) (ZQ _ _) (Eq.refl (wid s.size (b+p) (byt s (b+p)) (byt s (b+p+1)) (byt s (b+p+2)) (byt s (b+p+3)))) h0;have hb0:byt (s.extract b e) p=byt s (b+p):=zeO s b e p (by omega);rw[hb0,hs];refine zqE _ _ _ _ _ _ _ _ _ _ _ _ (ZQ _ _) (ZQ _ _) (ZQ _ _) (ZQ _ _) (ZQ _ _) (ZQ _ _) (ZQ _ _) rfl h0 (by omega) (fun k=> ?_) (fun k=> ?_) (fun k=> ?_)
 ·rw[zeO s b e (p+1) (by omega)];rfl
 ·rw[zeO s b e (p+2) (by omega)];rfl
 ·rw[zeO s b e (p+3) (by omega)];rfl
def RunN (s:ByteArray) (b:Nat):Nat->Nat->Prop
 |0,e=>e=b
 |n+1,e=>∃c,RunN s b n c/\c<s.size/\nx s c≠0/\e=c+nx s c
def Run (s:ByteArray) (b e:Nat):Prop:=∃n,RunN s b n e
theorem Run.here {s:ByteArray} {b:Nat}:Run s b b:=⟨0,rfl⟩
theorem Run.step {s:ByteArray} {b e:Nat} (h:Run s b e) (hp:e<s.size) (h0:nx s e≠0):Run s b (e+nx s e):=by
 obtain⟨n,h⟩:=h;exact⟨n+1,e,h,hp,h0,rfl⟩
theorem Run.rec' {s:ByteArray} {b:Nat} {C:Nat->Prop} (h0:C b) (h1:∀e,Run s b e->e<s.size->nx s e≠0->C e->C (e+nx s e)) {e:Nat} (h:Run s b e):C e:=by
 obtain⟨n,h⟩:=h
 induction n generalizing e with
 |zero=>rw[show e=b from h];exact h0
 |succ n ih=>
  obtain⟨c,hr,hp,hx,rfl⟩:=h;exact h1 c ⟨n,hr⟩ hp hx (ih hr)
theorem Run.le {s:ByteArray} {b e:Nat} (h:Run s b e):b<=e:=Run.rec' (C:=fun e=>b<=e) (Nat.le_refl _) (fun _ _ _ _ ih=>Nat.le_trans ih (Nat.le_add_right _ _)) h
theorem Run.sub {s:ByteArray} {b e c:Nat} (h:Run s b e) (hc:c<=s.size) (he:e<=c):Run (s.extract b c) 0 (e - b):=by
 refine Run.rec' (C:=fun e=>e<=c->Run (s.extract b c) 0 (e - b)) (fun _=>by rw[Nat.sub_self];exact Run.here) (fun e hr hp h0 ih he=> ?_) h he
 ·have hb:=hr.le;have hs:(s.extract b c).size=c - b:=by rw[ByteArray.size_extract];omega
  have e1:b+(e - b)=e:=by omega
  have hn:=nx_sub s b c (e - b) hc (by rw[e1];exact h0) (by rw[e1];exact he);rw[e1] at hn;have h2:=Run.step (ih (by omega)) (by omega) (by rw[hn];exact h0);rw[hn] at h2;rw[show e+nx s e - b=e - b+nx s e by omega];exact h2
theorem Run.cnt {s:ByteArray} {e:Nat} (h:Run s 0 e) (he:e<=s.size):∃f k:Nat,s.size<=e+f/\YW s f e k=cin.cnt s:=by
 refine Run.rec' (C:=fun e=>e<=s.size->∃f k:Nat,s.size<=e+f/\YW s f e k=cin.cnt s) (fun _=>⟨s.size,0,by omega,rfl⟩) (fun e hr hp h0 ih he=> ?_) h he
 ·obtain⟨f,k,h1,h2⟩:=ih (by omega);exact⟨f - 1,k+1,by omega,zeZ hp h0 (by omega) h2⟩
def Whole (s:ByteArray):Prop:=Run s 0 s.size
theorem Whole.cnt {s:ByteArray} (h:Whole s):(cin.cnt s).2=true:=by
 obtain⟨f,k,_,h2⟩:=Run.cnt h (Nat.le_refl _);rw[<-h2,ziM s f s.size k (by omega)]
theorem Run.whole {s:ByteArray} {b e:Nat} (h:Run s b e) (he:e<=s.size):Whole (s.extract b e):=by
 have h2:=h.sub he (Nat.le_refl _);unfold Whole;rw[ByteArray.size_extract,Nat.min_eq_left he];exact h2
theorem Run.behind {s:ByteArray} {b e:Nat} (h:Run s b e):e=b\/Run s (b+nx s b) e:=by
 refine Run.rec' (C:=fun e=>e=b\/Run s (b+nx s b) e) (Or.inl rfl) (fun e hr hp h0 ih=> ?_) h;rcases ih with rfl|ih
 ·exact Or.inr Run.here
 ·exact Or.inr (ih.step hp h0)
theorem Run.last {s:ByteArray} {b e:Nat} (h:Run s b e):e=b\/∃c,Run s b c/\c<s.size/\nx s c≠0/\e=c+nx s c:=by
 obtain⟨n,h⟩:=h;cases n with
 |zero=>exact Or.inl h
 |succ n=>
  obtain⟨c,hr,hp,h0,e⟩:=h;exact Or.inr ⟨c,⟨n,hr⟩,hp,h0,e⟩
theorem Whole.butLast {s:ByteArray} (h:Whole s) (hs:0<s.size) (hc:byt s (s.size - 1)<128):Whole (s.extract 0 (s.size - 1)):=by
 rcases Run.last h with h0|⟨c,hr,hp,h0,he⟩
 ·omega
 ·have hl:=ziU _ _ _ _ _ _ _ (ZQ _ _) (ZQ _ _) (ZQ _ _) (ZQ _ _) (zcx s c).symm h0
  have h1:nx s c=1:=by
   rcases hl with⟨h,_⟩|⟨h,_,h2⟩|⟨h,_,h2⟩|⟨h,_,h2⟩
   ·exact h
   ·rw[show c+1=s.size - 1 by omega] at h2;omega
   ·rw[show c+2=s.size - 1 by omega] at h2;omega
   ·rw[show c+3=s.size - 1 by omega] at h2;omega
  obtain rfl:c=s.size - 1:=by omega
  exact hr.whole (by omega)
theorem zjh (s:ByteArray) (p:Nat) (h:byt s p<128):nx s p=1:=by rw[zcx,wid_a _ _ _ _ _ _ h]
theorem Whole.butFirst {s:ByteArray} (h:Whole s) (hs:0<s.size) (hc:byt s 0<128):Whole (s.extract 1 s.size):=by
 rcases Run.behind h with h0|h1
 ·omega
 ·rw[zjh s 0 hc] at h1;exact h1.whole (Nat.le_refl _)
theorem zjb {s:ByteArray}:∀(f p k:Nat),Run s 0 p->p<=s.size->s.size<=p+f->(YW s f p k).2=true->Whole s
 |0,p,k,hr,hp,hf,h=>by
  obtain rfl:p=s.size:=by omega
  exact hr
 |f+1,p,k,hr,hp,hf,h=>by
  by_cases hlt:p<s.size
  ·obtain⟨h0,h2⟩:=zeC hlt (by omega) h;have hle:=zfo s p hlt h0;exact zjb f (p+nx s p) (k+1) (hr.step hlt h0) hle (by omega) h2
  ·obtain rfl:p=s.size:=by omega
   exact hr
theorem znP {s:ByteArray} (h:(cin.cnt s).2=true):Whole s:=zjb s.size 0 0 Run.here (by omega) (by omega) h
-- names of instructions
theorem znD (l:List UInt8) (h:l∉keys):zhh l=none:=by
 have hd:∀j,j<16->l≠bl (dup j):=fun j hj e=>h (e▸dup_key j hj)
 have hsw:∀j,j<16->l≠bl (swp j):=fun j hj e=>h (e▸swp_key j hj)
 have hg:∀j,j<5->l≠bl (lgs j):=fun j hj e=>h (e▸lgs_key j hj)
 unfold zhh;rw[zcL tabRec (by kernel_rfl) l h,zcL tabCmp (by kernel_rfl) l h,zcL tabSur (by kernel_rfl) l h,zcL tabKee (by kernel_rfl) l h,zi2 l 16 0 (fun j _ hj=>⟨hd j (by omega),hsw j (by omega)⟩),zjW l 5 0 (fun j _ hj=>hg j (by omega))];rfl
def keyOk (l:List UInt8):Bool:=decide (65<=(l.getD 0 0).toNat)&&decide ((l.getD 0 0).toNat<=90)&&decide ((zhh l).getD 0<256)
theorem keys_ok:(keys.all keyOk)=true:=by kernel_rfl
theorem zoh {s:ByteArray} {v:Nat} (h:zcT s=some v):65<=byt s 0/\byt s 0<=90/\v<256:=by
 rw[named_l] at h
 have hk:bl s∈keys:=by
  refine Decidable.byContradiction fun hn=> ?_
  rw[znD _ hn] at h;cases h
 have h2:=List.all_eq_true.1 keys_ok _ hk;unfold keyOk at h2;simp only[Bool.and_eq_true,decide_eq_true_eq] at h2;rw[h] at h2;rw[zdV];exact⟨h2.1.1,h2.1.2,h2.2⟩
-- an item
def col:ByteArray:=⟨#[58]⟩
def att:ByteArray:=⟨#[64]⟩
structure It where
 k:Nat
 nm:ByteArray
 cd:List UInt8
 fl:Nat
def itN (s:ByteArray):It:=match zcT s with
 |some v=>⟨0,⟨#[]⟩,[UInt8.ofNat v],0⟩
 |none=>match zdH (nt s) (nb s) with
  |none=>⟨0,⟨#[]⟩,[],2⟩
  |some (n,g)=>if g then⟨0,⟨#[]⟩,[],4⟩ else⟨0,⟨#[]⟩,zck n,0⟩
def isL (s:ByteArray):Bool:=sf s col&&nm (zcq s col)
def isA (s:ByteArray):Bool:=pf s att&&nm (Yp s att)
def itm (s:ByteArray):It:=if isL s then⟨1,zcq s col,[91],0⟩ else if isA s then⟨2,Yp s att,[97,0,0],0⟩ else itN s
theorem sf_col (s:ByteArray):sf s col=(decide (1<=s.size)&&decide (byt s (s.size - 1)=58)):=by
 unfold sf;show(decide (1<=s.size)&&_)=_;by_cases h:1<=s.size
 ·rw[decide_eq_true h,Bool.true_and,Bool.true_and,Go.ByteArray.toList_eq,Go.ByteArray.toList_eq];show(bl (s.extract (s.size - 1) s.size)==[58])=_;have hl:(bl s).length=s.size:=rfl;rw[zgg,zdV]
  have hd:(bl s).drop (s.size - 1)=[(bl s).getD (s.size - 1) 0]:=by
   rw[List.drop_eq_getElem_cons (by omega),List.drop_of_length_le (by omega),List.getD_eq_getElem?_getD,List.getElem?_eq_getElem (by omega)];rfl
  rw[hd,show s.size - (s.size - 1)=1 by omega,Bool.eq_iff_iff,beq_iff_eq,decide_eq_true_eq];generalize(bl s).getD (s.size - 1) 0=c;constructor
  ·intro e;have e2:c=58:=by injection e
   rw[e2];rfl
  ·intro e;have e2:c=58:=UInt8.toNat_inj.1 e;rw[e2];rfl
 ·rw[decide_eq_false h,Bool.false_and,Bool.false_and]
theorem pf_att (s:ByteArray) (h:0<s.size):pf s att=decide (byt s 0=64):=by
 obtain⟨c,r,e,hc⟩:=byt0 h;rw[zhm,e,<-hc];show(([64]:List UInt8).isPrefixOf (c::r))=_;rw[Bool.eq_iff_iff,decide_eq_true_eq];simp only[List.isPrefixOf,Bool.and_true,beq_iff_eq];constructor
 ·intro e;rw[<-e];rfl
 ·intro e;exact(UInt8.toNat_inj.1 e).symm
theorem cut_col {s:ByteArray} (h:sf s col=true):zcq s col=s.extract 0 (s.size - 1):=by unfold zcq;rw[h];rfl
theorem cut_att {s:ByteArray} (h:pf s att=true):Yp s att=s.extract 1 s.size:=by unfold Yp;rw[h];rfl
theorem zqo {s:ByteArray} {v:Nat} (h:zcT s=some v):itN s=⟨0,⟨#[]⟩,[UInt8.ofNat v],0⟩:=by unfold itN;rw[h]
theorem zoO {s:ByteArray} (h:zcT s=none):itN s=match zdH (nt s) (nb s) with
  |none=>⟨0,⟨#[]⟩,[],2⟩
  |some (n,g)=>if g then⟨0,⟨#[]⟩,[],4⟩ else⟨0,⟨#[]⟩,zck n,0⟩:=by unfold itN;rw[h]
theorem znv (n:Nat):(zck n).length<=33:=by have:=ze7 n 0;unfold zck pcs;rw[List.length_cons];omega
def zdr (c:Nat):Bool:=decide (c=32\/c=9\/c=10\/c=59)
def rmk (rm:Bool) (c:Nat):Bool:=decide (c=59)||(rm&&decide (c≠10))
def fin (s:ByteArray) (p:Nat) (cur:Option (Nat×Nat)):List (ByteArray×Nat):=match cur with
 |some (b,a)=>[(s.extract b p,a)]
 |none=>[]
def zcc (s:ByteArray):Nat->Nat->Nat->Bool->Option (Nat×Nat)->List (ByteArray×Nat)
 |0,p,_,_,cur=>fin s p cur
 |f+1,p,k,rm,cur=>if p<s.size then
   (if (rm||zdr (byt s p)) then fin s p cur++zcc s f (p+nx s p) (k+1) (rmk rm (byt s p)) none
    else zcc s f (p+nx s p) (k+1) (rmk rm (byt s p)) (some (cur.getD (p,k))))
  else fin s p cur
def spl (s:ByteArray):List (ByteArray×Nat):=zcc s s.size 0 0 false none
theorem spl_end (s:ByteArray) (f p k:Nat) (rm:Bool) (cur:Option (Nat×Nat)) (h:¬p<s.size):zcc s f p k rm cur=fin s p cur:=by
 cases f with
 |zero=>rfl
 |succ f=>rw[zcc,if_neg h]
theorem spl_out {s:ByteArray} {f p k:Nat} {rm:Bool} {cur:Option (Nat×Nat)} {acc T:List (ByteArray×Nat)} (hp:p<s.size) (hf:0<f) (ho:(rm||zdr (byt s p))=true) (h:acc++zcc s f p k rm cur=T):
  (acc++fin s p cur)++zcc s (f - 1) (p+nx s p) (k+1) (rmk rm (byt s p)) none=T:=by
 obtain⟨g,rfl⟩:∃g,f=g+1:=⟨f - 1,by omega⟩;rw[zcc,if_pos hp,ho,if_pos rfl] at h;rw[List.append_assoc];exact h
theorem spl_in {s:ByteArray} {f p k:Nat} {rm:Bool} {cur:Option (Nat×Nat)} {acc T:List (ByteArray×Nat)} (hp:p<s.size) (hf:0<f) (ho:(rm||zdr (byt s p))=false) (h:acc++zcc s f p k rm cur=T):
  acc++zcc s (f - 1) (p+nx s p) (k+1) (rmk rm (byt s p)) (some (cur.getD (p,k)))=T:=by
 obtain⟨g,rfl⟩:∃g,f=g+1:=⟨f - 1,by omega⟩;rw[zcc,if_pos hp,ho,if_neg (by decide)] at h;exact h
theorem zot {s:ByteArray} {b p:Nat} (hp:p<=s.size):(s.extract b p).size=p - b:=by rw[ByteArray.size_extract];omega
def Fit (s:ByteArray) (x:ByteArray×Nat):Prop:=Whole x.1/\0<x.1.size/\x.1.size<=s.size/\x.2<=s.size
theorem zh8 {s:ByteArray} {p:Nat} {cur:Option (Nat×Nat)} (hp:p<=s.size) (hc:∀b a,cur=some (b,a)->Run s b p/\b<p/\a<=s.size):∀x∈fin s p cur,Fit s x:=by
 intro x hx
 match cur with
 |none=>cases hx
 |some (b,a)=>
  obtain⟨h1,h2,h3⟩:=hc b a rfl;have:x=(s.extract b p,a):=List.mem_singleton.1 hx;subst this;have:=zot (b:=b) hp;exact⟨h1.whole hp,by show 0<(s.extract b p).size;omega,by show(s.extract b p).size<=_;omega,h3⟩
theorem zfO {s:ByteArray}:∀(f p k:Nat) (rm:Bool) (cur:Option (Nat×Nat)),p<=s.size->k<=p->s.size<=p+f->(YW s f p k).2=true->(∀b a,cur=some (b,a)->Run s b p/\b<p/\a<=s.size)->∀x∈zcc s f p k rm cur,Fit s x
 |0,p,k,rm,cur,hp,hk,hf,hv,hc=>zh8 hp hc
 |f+1,p,k,rm,cur,hp,hk,hf,hv,hc=>by
  intro x hx;rw[zcc] at hx;by_cases hlt:p<s.size
  ·rw[if_pos hlt] at hx;obtain⟨h0,hv2⟩:=zeC hlt (by omega) hv;have hle:=zfo s p hlt h0;split at hx
   ·rcases List.mem_append.1 hx with h|h
    ·exact zh8 hp hc x h
    ·exact zfO f _ _ _ none hle (by omega) (by omega) hv2 (fun b a e=>by cases e) x h
   ·refine zfO f _ _ _ _ hle (by omega) (by omega) hv2 (fun b a e=> ?_) x hx
    match cur with
    |none=>
     have e2:(p,k)=(b,a):=by injection e
     injection e2 with h1 h2
     subst h1 h2;exact⟨Run.here.step hlt h0,by omega,by omega⟩
    |some (b',a')=>
     have e2:(b',a')=(b,a):=by injection e
     injection e2 with h1 h2
     subst h1 h2;obtain⟨g1,g2,g3⟩:=hc b' a' rfl;exact⟨g1.step hlt h0,by omega,g3⟩
  ·rw[if_neg hlt] at hx;exact zh8 hp hc x hx
theorem zlK {s:ByteArray} (h:Whole s):∀x∈spl s,Fit s x:=zfO s.size 0 0 false none (by omega) (by omega) (by omega) h.cnt (fun b a e=>by cases e)
theorem zmf (s:ByteArray) (p:Nat) (cur:Option (Nat×Nat)):(fin s p cur).length<=1:=by
 match cur with
 |none=>exact Nat.zero_le _
 |some (b,a)=>exact Nat.le_refl _
theorem zfX (s:ByteArray):∀(f p k:Nat) (rm:Bool) (cur:Option (Nat×Nat)),(zcc s f p k rm cur).length<=f+1
 |0,p,k,rm,cur=>zmf s p cur
 |f+1,p,k,rm,cur=>by
  have h1:=zmf s p cur;rw[zcc];split
  ·split
   ·rw[List.length_append];have:=zfX s f (p+nx s p) (k+1) (rmk rm (byt s p)) none;omega
   ·have:=zfX s f (p+nx s p) (k+1) (rmk rm (byt s p)) (some (cur.getD (p,k)));omega
  ·omega
theorem zil (s:ByteArray):(spl s).length<=s.size+1:=zfX s _ _ _ _ _
-- one rune of a text
theorem zeG (s:ByteArray) (p x:Nat) (hx:x<128) (h0:nx s p≠0):(Utf8.decode s p).1=x↔byt s p=x:=by
 obtain⟨h1,h2⟩:=zfZ s p h0;constructor
 ·intro e;have h:=h1.1 (by omega);rw[<-h2 h,e]
 ·intro e;rw[h2 (zjh s p (by omega)),e]
def zaK (l:List (ByteArray×Nat)):List Value:=l.flatMap fun x=>[.string x.1,.int .i64 (x.2:Int)]
theorem yb (l:List (ByteArray×Nat)) (t:ByteArray) (a:Nat):zaK (l++[(t,a)])=zaK l++[.string t,.int .i64 (a:Int)]:=by
 unfold zaK;rw[List.flatMap_append];rfl
theorem zg5 (l:List (ByteArray×Nat)) (i:Nat) (h:i<l.length):(zaK l)[i*2]? =some (.string (l[i]).1)/\(zaK l)[i*2+1]? =some (.int .i64 ((l[i]).2:Int)):=by
 induction l generalizing i with
 |nil=>exact absurd h (Nat.not_lt_zero _)
 |cons x r ih=>
  have e:zaK (x::r)=.string x.1::.int .i64 (x.2:Int)::zaK r:=by unfold zaK;rw[List.flatMap_cons];rfl
  rw[e];cases i with
  |zero=>exact⟨rfl,rfl⟩
  |succ i=>
   have h2:=ih i (by simpa using h);rw[show(i+1)*2=i*2+2 by omega];exact h2
def laidV (i:It):Value:=.tuple #[.string ⟨i.cd.toArray⟩,.string (if i.k=1 then i.nm else⟨#[]⟩),.string (if i.k=2 then i.nm else⟨#[]⟩),.int .i64 (if i.fl=0 then 0 else if i.fl=2 then 1 else 2)]
def numN (o:Option (Nat×Bool)) (e:Ending):Prop:=match o with
 |none=>∃r g,e=.returned (.tuple #[wv r,.bool false,.bool g])
 |some (n,g)=>e=.returned (.tuple #[wv n,.bool true,.bool g])
def six (a b c d e f:Value):Nat->Value:=fun i=>if i=0 then a else if i=1 then b else if i=2 then c else if i=3 then d else if i=4 then e else f
theorem k6 {i:Nat} (h:i<6):i=0\/i=1\/i=2\/i=3\/i=4\/i=5:=by omega
theorem zf5 {w:World} {n:Nat} {t:TypeId} (a b c d e f:Value) (hn:n=w.heap.size):(w.alloc (.cells #[a,b,c,d,e,f] t)).rowIs n t 6 (six a b c d e f):=by
 subst hn;refine World.rowIs_alloc w _ t _ fun i hi=> ?_
 rcases k6 hi with rfl|rfl|rfl|rfl|rfl|rfl<;>rfl
theorem ZG {w:World} {p:Nat} {t:TypeId} {a b c d e f:Value} (h:w.rowIs p t 6 (six a b c d e f)):
  w.cell? ⟨p,0,none⟩=some a/\w.cell? ⟨p,1,none⟩=some b/\w.cell? ⟨p,2,none⟩=some c/\w.cell? ⟨p,3,none⟩=some d/\w.cell? ⟨p,4,none⟩=some e/\w.cell? ⟨p,5,none⟩=some f:=
 ⟨h.cell (i:=0) (by omega),h.cell (i:=1) (by omega),h.cell (i:=2) (by omega),h.cell (i:=3) (by omega),h.cell (i:=4) (by omega),h.cell (i:=5) (by omega)⟩
theorem zbv {w:World} {p:Nat} {t:TypeId} {g:Nat->Value} (h:w.rowIs p t 6 g) (a b c d e f:Value):
  ((((((w.setCell ⟨p,0,none⟩ a).setCell ⟨p,1,none⟩ b).setCell ⟨p,2,none⟩ c).setCell ⟨p,3,none⟩ d).setCell ⟨p,4,none⟩ e).setCell ⟨p,5,none⟩ f).rowIs p t 6 (six a b c d e f):=by
 refine((((((h.set 0 _).set 1 _).set 2 _).set 3 _).set 4 _).set 5 _).congr fun i hi=> ?_
 rcases k6 hi with rfl|rfl|rfl|rfl|rfl|rfl<;>rfl
theorem zal {w w':World} (h:Below w.heap.size w w') {p:Nat} (hp:w.heap.size<=p) (a b c d e f:Value):
  Below w.heap.size w ((((((w'.setCell ⟨p,0,none⟩ a).setCell ⟨p,1,none⟩ b).setCell ⟨p,2,none⟩ c).setCell ⟨p,3,none⟩ d).setCell ⟨p,4,none⟩ e).setCell ⟨p,5,none⟩ f):=
 (((((h.setCell hp _).setCell hp _).setCell hp _).setCell hp _).setCell hp _).setCell hp _
theorem Yb {w:World} {base e size n:Nat} {v:Value} {xs:List Value} (h:w.ownsRow base e size v n xs) {p:Addr} (hp:p.block<base) (u:Value):(w.setCell p u).ownsRow base e size v n xs:=by
 refine⟨h.1,h.2.imp id fun⟨g,cap,cur,h1,h2,h3,h4⟩=>⟨g,cap,cur,h1,h2, ?_,h4⟩⟩;rw[Below.heap_setCell w p u g (by omega)];exact h3
theorem Bys.put6 {x:World} {base:Nat} {v:Value} {l:List UInt8} (h:Bys x base v l) {p:Nat} (hp:p<base) (a b c d e f:Value):
  Bys ((((((x.setCell ⟨p,0,none⟩ a).setCell ⟨p,1,none⟩ b).setCell ⟨p,2,none⟩ c).setCell ⟨p,3,none⟩ d).setCell ⟨p,4,none⟩ e).setCell ⟨p,5,none⟩ f) base v l:=
 Yb (Yb (Yb (Yb (Yb (Yb h hp _) hp _) hp _) hp _) hp _) hp _
theorem zj {w w':World} {base e size n:Nat} {v:Value} {xs:List Value} (h:w.ownsRow base e size v n xs) (hb:Below w.heap.size w w'):w'.ownsRow base e size v n xs:=by
 refine⟨h.1,h.2.imp id fun⟨g,cap,cur,h1,h2,h3,h4⟩=>⟨g,cap,cur,h1,h2, ?_,h4⟩⟩;rw[hb.block g (lt_of_block h3)];exact h3
theorem zeR (w:World) (base:Nat) (hb:base<=w.heap.size) (l:List UInt8) (hl:l.length<=40):Bys (w.alloc (.cells (l.map u8v).toArray 5)) base (.slice (some ⟨w.heap.size,0,none⟩) l.length l.length) l:=by
 have h:=World.ownsRow_lit (base:=base) (e:=5) (size:=1) w (l.map u8v).toArray l.length hb (by unfold maxLen;omega) (by simp);have e:(l.map u8v).toArray.toList=l.map u8v:=rfl;rw[e] at h;exact h
def itV (i:It) (v:Value) (a p:Nat):Value:=.agg #[.int .i64 (i.k:Int),.string i.nm,v,.int .i64 (i.fl:Int),.int .i64 (a:Int),.int .i64 (p:Int)]
structure RI (w x:World):Prop where
 r:x.rowIs w.heap.size 122 6 (six (.int .i64 0) (.string ⟨#[]⟩) (.slice none 0 0) (.int .i64 0) (.int .i64 0) (.int .i64 0))
 be:Below w.heap.size w x
theorem RI.call {w x y:World} (h:RI w x) (hb:Below x.heap.size x y):RI w y:=⟨zg h.r hb,zX h.be hb⟩
def Got (s:ByteArray) (w:World) (e:Ending) (w':World):Prop:=∃v,e=.returned (itV (itm s) v 0 0)/\Bys w' w.heap.size v (itm s).cd/\Below w.heap.size w w'
theorem zhD (s:ByteArray) (hs:s.size<=2000) (hv:Hid (Whole s)) (h0:0<s.size) (w:World):Calls prog 79 #[.string s] w fun e w'=>Got s w e w':=by
 obtain⟨t,HT⟩:∃t,Hid (t=zcq s col):=⟨_,rfl⟩;obtain⟨q,HQ⟩:∃q,Hid (q=sf s col):=⟨_,rfl⟩
 have HCS:Hid (∀w,Calls prog 140 #[.string s,.string ⟨#[58]⟩] w fun e w'=>e=.returned (.tuple #[.string t,.bool q])/\w'=w):=fun w=>by
  have h:=zgt s col hs (by decide) w;rw[<-HT.out,<-HQ.out] at h;exact h
 have HPN:Hid (q=true->∀w,Calls prog 141 #[.string t] w fun e w'=>e=.returned (.bool (isL s))/\Below w.heap.size w w'):=fun hq w=>by
  have hsf:sf s col=true:=by rw[<-HQ.out,hq]
  have ht:t=s.extract 0 (s.size - 1):=by rw[HT.out,cut_col hsf]
  have hb:byt s (s.size - 1)=58:=by
   rw[sf_col,Bool.and_eq_true,decide_eq_true_eq,decide_eq_true_eq] at hsf;exact hsf.2
  have hw:Whole t:=by rw[ht];exact hv.out.butLast h0 (by omega)
  have h:=zem t (by rw[ht,ByteArray.size_extract];omega) hw.cnt w;have e:isL s=nm t:=by unfold isL;rw[hsf,Bool.true_and,HT.out]
  rw[e];exact h
 have HFL:Hid (q=false->isL s=false):=fun hq=>by unfold isL;rw[<-HQ.out,hq];rfl
 have hri:RI w (w.alloc (.cells #[.int .i64 0,.string ⟨#[]⟩,.slice none 0 0,.int .i64 0,.int .i64 0,.int .i64 0] 122)):=⟨zf5 _ _ _ _ _ _ rfl,bal (Below.refl _ _) _⟩;go_enter func79,ntmps79;go_wp2_with fail
 refine(HCS.out _).mono ?_;rintro e w' ⟨rfl,rfl⟩
 go_upto_region 2 with fail
 go_cut [20] (fun t20 wx=>t20=.bool (isL s)/\RI w wx)
 case first=>
  cases q
  ·have E:=HFL.out rfl;go_wp2_with fail
   go_meet
   case rel=>exact⟨by rw[E],hri⟩
  ·have HP2:=zb (HPN.out rfl);clear HPN HFL;go_wp2_with fail
   refine(HP2.out _).mono ?_;rintro e w2 ⟨rfl,hb2⟩;go_wp2_with fail
   go_meet
   case rel=>exact⟨rfl,hri.call hb2⟩
 case rest=>
  clear HPN HFL hri;obtain⟨rfl,hri⟩:=hcut;cases hL:isL s
  ·obtain⟨t2,HT2⟩:∃t,Hid (t=Yp s att):=⟨_,rfl⟩;obtain⟨q2,HQ2⟩:∃q,Hid (q=pf s att):=⟨_,rfl⟩
   have HCP:Hid (∀w,Calls prog 142 #[.string s,.string ⟨#[64]⟩] w fun e w'=>e=.returned (.tuple #[.string t2,.bool q2])/\w'=w):=fun w=>by
    have h:=zcf s att hs (by decide) w;rw[<-HT2.out,<-HQ2.out] at h;exact h
   have HPN:Hid (q2=true->∀w,Calls prog 141 #[.string t2] w fun e w'=>e=.returned (.bool (isA s))/\Below w.heap.size w w'):=fun hq w=>by
    have hsf:pf s att=true:=by rw[<-HQ2.out,hq]
    have ht:t2=s.extract 1 s.size:=by rw[HT2.out,cut_att hsf]
    have hb:byt s 0=64:=by
     rw[pf_att s h0,decide_eq_true_eq] at hsf;exact hsf
    have hw:Whole t2:=by rw[ht];exact hv.out.butFirst h0 (by omega)
    have h:=zem t2 (by rw[ht,ByteArray.size_extract];omega) hw.cnt w;have e:isA s=nm t2:=by unfold isA;rw[hsf,Bool.true_and,HT2.out]
    rw[e];exact h
   have HFL:Hid (q2=false->isA s=false):=fun hq=>by unfold isA;rw[<-HQ2.out,hq];rfl
   go_wp2_with fail
   refine(HCP.out _).mono ?_;rintro e w' ⟨rfl,rfl⟩
   go_upto_region 5 with fail
   go_cut [33] (fun t33 wx=>t33=.bool (isA s)/\RI w wx)
   case first=>
    cases q2
    ·have E:=HFL.out rfl;go_wp2_with fail
     go_meet
     case rel=>exact⟨by rw[E],hri⟩
    ·have HP2:=zb (HPN.out rfl);clear HPN HFL;go_wp2_with fail
     refine(HP2.out _).mono ?_;rintro e w2 ⟨rfl,hb2⟩;go_wp2_with fail
     go_meet
     case rel=>exact⟨rfl,hri.call hb2⟩
   case rest=>
    clear HPN HFL hri;obtain⟨rfl,hri⟩:=hcut;cases hA:isA s
    ·have HIN:Hid (itm s=itN s):=by show _=_;unfold itm;rw[hL,hA];rfl
     clear hL hA;obtain⟨o,HO⟩:∃o,Hid (o=zcT s):=⟨_,rfl⟩;go_wp2_with fail
     refine(znx s hs _).mono ?_;rintro e w' ⟨rfl,rfl⟩;rw[<-HO.out];cases o with
     |some b=>
      have HI:Hid (itm s=⟨0,⟨#[]⟩,[UInt8.ofNat b],0⟩):=by show _=_;rw[HIN.out,zqo HO.out.symm]
      have hb256:=(zoh HO.out.symm).2.2;unfold pr;simp only[Option.getD_some,Option.isSome_some];have hr2:=hri.r.alloc (.cells #[.int .u8 (b:Int)] 5);have hlt:=hri.r.lt
      have hby:Bys (w'.alloc (.cells #[.int .u8 (b:Int)] 5)) (w.heap.size+1) (.slice (some ⟨w'.heap.size,0,none⟩) 1 1) [UInt8.ofNat b]:=by
       have h:=zeR w' (w.heap.size+1) (by omega) [UInt8.ofNat b] (by show 1<=40;omega);have e:u8v (UInt8.ofNat b)=.int .u8 (b:Int):=by unfold u8v;rw[UInt8.toNat_ofNat_of_lt' hb256]
       rw[<-e];exact h
      have hbe2:=bal hri.be (.cells #[.int .u8 (b:Int)] 5);have HY:=zb hby;have HLT:=zb hlt;obtain⟨c0,c1,c2,c3,c4,c5⟩:=ZG hr2;have fz:=hr2.frozen;clear hby hlt;go_wp2;have hby:=HY.out;obtain⟨q0,q1,q2,q3,q4,q5⟩:=ZG (zbv hr2 (.int .i64 0) (.string ⟨#[]⟩) ((.slice (some ⟨w'.heap.size,0,none⟩) 1 1)) (.int .i64 0) (.int .i64 0) (.int .i64 0));refine bodyPost_ret (v:=itV (itm s) ((.slice (some ⟨w'.heap.size,0,none⟩) 1 1)) 0 0) ?_ rfl ⟨_,rfl, ?_,zal hbe2 (Nat.le_refl _) _ _ _ _ _ _⟩
      ·rw[HI.out];simp[results,results79,go_sem,q0,q1,q2,q3,q4,q5];rfl
      ·rw[HI.out];exact(Bys.put6 hby (by have:=HLT.out;omega) _ _ _ _ _ _).mono (by have:=HLT.out;omega)
     |none=>
      have hnd:zcT s=none:=HO.out.symm
      have HRN:YK s=match zdH (nt s) (nb s) with
        |none=>(0,2)
        |some (n,g)=>if g then(0,4) else(n,0):=by unfold YK;rw[zm0,zlp]<;>cases zdH (Yp s x0) (zcK s)<;>rfl
      have HIN2:=zoO hnd;rw[<-HIN.out] at HIN2;unfold pr;simp only[Option.getD_none,Option.isSome_none];clear HIN hnd
      have HX:Hid (∃(n:Nat) (k:Nat),YK s=(n,(k:Int))/\((k≠0/\(k=2\/k=4)/\itm s=⟨0,⟨#[]⟩,[],k⟩)\/(k=0/\itm s=⟨0,⟨#[]⟩,zck n,0⟩))):=by
       cases hr:zdH (nt s) (nb s) with
       |none=>rw[hr] at HRN HIN2;exact⟨0,2,HRN,Or.inl ⟨by omega,Or.inl rfl,HIN2⟩⟩
       |some p=>
        obtain⟨n,g⟩:=p;rw[hr] at HRN HIN2;cases g
        ·exact⟨n,0,HRN,Or.inr ⟨rfl,HIN2⟩⟩
        ·exact⟨0,4,HRN,Or.inl ⟨by omega,Or.inr rfl,HIN2⟩⟩
      clear HRN HIN2;obtain⟨n,k,hrn,hX⟩:=HX.out;have HRN2:Hid (YK s=(n,(k:Int))):=hrn;clear hrn HX;have HX2:=zb hX;clear hX;have HRI:=zb hri;clear hri;go_wp2_with fail
      refine(zfS s hs _).mono ?_;rintro e w1 ⟨r,k2,HR,rfl,hb1⟩;have hrk:(r,k2)=(n,(k:Int)):=HR.out.trans HRN2.out;obtain⟨rfl,rfl⟩:r=n/\k2=(k:Int):=by injection hrk with h1 h2;exact⟨h1,h2⟩
      have hri1:=HRI.out.call hb1;have hri:RI w (w1.alloc (.cells #[.int .u64 (za r 0),.int .u64 (za r 1),.int .u64 (za r 2),.int .u64 (za r 3)] 24)):=⟨hri1.r.alloc _,bal hri1.be _⟩;have hlt:=hri1.r.lt;have HLT:=zb hlt;clear hrk HR HRN2 hb1 hri1 HRI hlt;rcases HX2.out with⟨hk0,hk24,hI⟩|⟨rfl,hI⟩
      ·have HI:=zb hI;clear HX2 hI;have hd:((k:Int) !=0)=true:=by simp;omega
       have hr2:=hri.r;have hbe2:=hri.be;have HY:Hid (Bys (w1.alloc (.cells #[.int .u64 (za r 0),.int .u64 (za r 1),.int .u64 (za r 2),.int .u64 (za r 3)] 24)) (w.heap.size+1) (.slice none 0 0) []):=World.ownsRow_nil _ _ _ _;obtain⟨c0,c1,c2,c3,c4,c5⟩:=ZG hr2;have fz:=hr2.frozen;go_wp2;have hby:=HY.out;obtain⟨q0,q1,q2,q3,q4,q5⟩:=ZG (zbv hr2 (.int .i64 0) (.string ⟨#[]⟩) (.slice none 0 0) (.int .i64 (k:Int)) (.int .i64 0) (.int .i64 0));refine bodyPost_ret (v:=itV (itm s) (.slice none 0 0) 0 0) ?_ rfl ⟨_,rfl, ?_,zal hbe2 (Nat.le_refl _) _ _ _ _ _ _⟩
       ·rw[HI.out];simp[results,results79,go_sem,q0,q1,q2,q3,q4,q5];rfl
       ·rw[HI.out];exact(Bys.put6 hby (by have:=HLT.out;omega) _ _ _ _ _ _).mono (by have:=HLT.out;omega)
      ·have HI:=zb hI;clear HX2 hI;have hrow:(w1.alloc (.cells #[.int .u64 (za r 0),.int .u64 (za r 1),.int .u64 (za r 2),.int .u64 (za r 3)] 24)).rowIs w1.heap.size 24 4 (zo (za r)):=zk (za r) rfl rfl rfl rfl rfl;obtain⟨d0,d1,d2,d3⟩:=ze hrow;go_wp2_with fail
       refine(zqr r _).mono ?_;rintro e w2 ⟨v,rfl,hby0,hb2⟩;have hri2:=hri.call hb2;have hr2:=hri2.r;have hbe2:=hri2.be;have hby1:Bys w2 (w.heap.size+1) v (zck r):=hby0.mono (by have:=HLT.out;simp;omega);have HY:=zb hby1;obtain⟨g,cap,rfl,hg1,hg2,hg3⟩:=zI hby1 (by unfold zck pcs;simp);clear hby0 hby1 hrow d0 d1 d2 d3 hri hb2 hri2 hg1 hg2 hg3;obtain⟨c0,c1,c2,c3,c4,c5⟩:=ZG hr2;have fz:=hr2.frozen;generalize(zck r).length=cl at*;go_wp2;have hby:=HY.out;obtain⟨q0,q1,q2,q3,q4,q5⟩:=ZG (zbv hr2 (.int .i64 0) (.string ⟨#[]⟩) (.slice (some ⟨g,0,none⟩) cl cap) (.int .i64 0) (.int .i64 0) (.int .i64 0));refine bodyPost_ret (v:=itV (itm s) (.slice (some ⟨g,0,none⟩) cl cap) 0 0) ?_ rfl ⟨_,rfl, ?_,zal hbe2 (Nat.le_refl _) _ _ _ _ _ _⟩
       ·rw[HI.out];simp[results,results79,go_sem,q0,q1,q2,q3,q4,q5];rfl
       ·rw[HI.out];exact(Bys.put6 hby (by have:=HLT.out;omega) _ _ _ _ _ _).mono (by have:=HLT.out;omega)
    ·have HI:Hid (itm s=⟨2,t2,[97,0,0],0⟩):=by show _=_;unfold itm;rw[hL,hA,HT2.out];rfl
     clear hL hA;have hr2:=hri.r.alloc (.cells #[.int .u8 97,.int .u8 0,.int .u8 0] 5);have hlt:=hri.r.lt;have hby:Bys (wc.alloc (.cells #[.int .u8 97,.int .u8 0,.int .u8 0] 5)) (w.heap.size+1) (.slice (some ⟨wc.heap.size,0,none⟩) 3 3) [97,0,0]:=zeR wc _ (by omega) [97,0,0] (by decide);have hbe2:=bal hri.be (.cells #[.int .u8 97,.int .u8 0,.int .u8 0] 5);have HY:=zb hby;have HLT:=zb hlt;obtain⟨c0,c1,c2,c3,c4,c5⟩:=ZG hr2;have fz:=hr2.frozen;clear hby hlt;go_wp2;have hby:=HY.out;obtain⟨q0,q1,q2,q3,q4,q5⟩:=ZG (zbv hr2 (.int .i64 2) (.string t2) ((.slice (some ⟨wc.heap.size,0,none⟩) 3 3)) (.int .i64 0) (.int .i64 0) (.int .i64 0));refine bodyPost_ret (v:=itV (itm s) ((.slice (some ⟨wc.heap.size,0,none⟩) 3 3)) 0 0) ?_ rfl ⟨_,rfl, ?_,zal hbe2 (Nat.le_refl _) _ _ _ _ _ _⟩
     ·rw[HI.out];simp[results,results79,go_sem,q0,q1,q2,q3,q4,q5];rfl
     ·rw[HI.out];exact(Bys.put6 hby (by have:=HLT.out;omega) _ _ _ _ _ _).mono (by have:=HLT.out;omega)
  ·have HI:Hid (itm s=⟨1,t,[91],0⟩):=by show _=_;unfold itm;rw[hL,HT.out];rfl
   clear hL;have hr2:=hri.r.alloc (.cells #[.int .u8 91] 5);have hlt:=hri.r.lt;have hby:Bys (wc.alloc (.cells #[.int .u8 91] 5)) (w.heap.size+1) (.slice (some ⟨wc.heap.size,0,none⟩) 1 1) [91]:=zeR wc _ (by omega) [91] (by decide);have hbe2:=bal hri.be (.cells #[.int .u8 91] 5);have HY:=zb hby;have HLT:=zb hlt;obtain⟨c0,c1,c2,c3,c4,c5⟩:=ZG hr2;have fz:=hr2.frozen;clear hby hlt;go_wp2;have hby:=HY.out;obtain⟨q0,q1,q2,q3,q4,q5⟩:=ZG (zbv hr2 (.int .i64 1) (.string t) ((.slice (some ⟨wc.heap.size,0,none⟩) 1 1)) (.int .i64 0) (.int .i64 0) (.int .i64 0));refine bodyPost_ret (v:=itV (itm s) ((.slice (some ⟨wc.heap.size,0,none⟩) 1 1)) 0 0) ?_ rfl ⟨_,rfl, ?_,zal hbe2 (Nat.le_refl _) _ _ _ _ _ _⟩
   ·rw[HI.out];simp[results,results79,go_sem,q0,q1,q2,q3,q4,q5];rfl
   ·rw[HI.out];exact(Bys.put6 hby (by have:=HLT.out;omega) _ _ _ _ _ _).mono (by have:=HLT.out;omega)
end cin
end Go.Proofs.YtohoajjdoihekaaGreatDoor
