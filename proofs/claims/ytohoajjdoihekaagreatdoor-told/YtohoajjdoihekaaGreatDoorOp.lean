import Derived.Test.YtohoajjdoihekaaGreatDoorVj
import Derived.Test.YtohoajjdoihekaaGreatDoorOd
import Derived.Deep.CutRange
import Derived.ProofKit
import Derived.OpenShut
import Derived.ChangeOld
import Derived.Below
import Derived.Laws.IdiomArrays
set_option linter.unusedVariables false
set_option linter.unusedSimpArgs false
namespace Go.Proofs.YtohoajjdoihekaaGreatDoor
namespace cin
open Go.RowKit Go.Proofs.Tryz Tryz
set_option maxRecDepth 100000
set_option maxHeartbeats 8000000
theorem its_k {k:Nat} (hk:k<25):(spl (zt k)).map (fun x=>itm x.1)=ZW (opsL.getD k 0)/\(cnt (zt k)).2=true/\(zt k).size<=200:=by
 have e:k=0\/k=1\/k=2\/k=3\/k=4\/k=5\/k=6\/k=7\/k=8\/k=9\/k=10\/k=11\/k=12\/k=13\/k=14\/k=15\/k=16\/k=17\/k=18\/k=19\/k=20\/k=21\/k=22\/k=23\/k=24:=by omega
 rcases e with rfl|rfl|rfl|rfl|rfl|rfl|rfl|rfl|rfl|rfl|rfl|rfl|rfl|rfl|rfl|rfl|rfl|rfl|rfl|rfl|rfl|rfl|rfl|rfl|rfl
 ·exact⟨its0,cnt0.1,of_decide_eq_true cnt0.2⟩
 ·exact⟨its1,cnt1.1,of_decide_eq_true cnt1.2⟩
 ·exact⟨its2,cnt2.1,of_decide_eq_true cnt2.2⟩
 ·exact⟨its3,cnt3.1,of_decide_eq_true cnt3.2⟩
 ·exact⟨its4,cnt4.1,of_decide_eq_true cnt4.2⟩
 ·exact⟨its5,cnt5.1,of_decide_eq_true cnt5.2⟩
 ·exact⟨its6,cnt6.1,of_decide_eq_true cnt6.2⟩
 ·exact⟨its7,cnt7.1,of_decide_eq_true cnt7.2⟩
 ·exact⟨its8,cnt8.1,of_decide_eq_true cnt8.2⟩
 ·exact⟨its9,cnt9.1,of_decide_eq_true cnt9.2⟩
 ·exact⟨its10,cnt10.1,of_decide_eq_true cnt10.2⟩
 ·exact⟨its11,cnt11.1,of_decide_eq_true cnt11.2⟩
 ·exact⟨its12,cnt12.1,of_decide_eq_true cnt12.2⟩
 ·exact⟨its13,cnt13.1,of_decide_eq_true cnt13.2⟩
 ·exact⟨its14,cnt14.1,of_decide_eq_true cnt14.2⟩
 ·exact⟨its15,cnt15.1,of_decide_eq_true cnt15.2⟩
 ·exact⟨its16,cnt16.1,of_decide_eq_true cnt16.2⟩
 ·exact⟨its17,cnt17.1,of_decide_eq_true cnt17.2⟩
 ·exact⟨its18,cnt18.1,of_decide_eq_true cnt18.2⟩
 ·exact⟨its19,cnt19.1,of_decide_eq_true cnt19.2⟩
 ·exact⟨its20,cnt20.1,of_decide_eq_true cnt20.2⟩
 ·exact⟨its21,cnt21.1,of_decide_eq_true cnt21.2⟩
 ·exact⟨its22,cnt22.1,of_decide_eq_true cnt22.2⟩
 ·exact⟨its23,cnt23.1,of_decide_eq_true cnt23.2⟩
 ·exact⟨its24,cnt24.1,of_decide_eq_true cnt24.2⟩
theorem mk_bl (s:ByteArray):(⟨(bl s).toArray⟩:ByteArray)=s:=rfl
theorem zmI {s:ByteArray} {na nb' nc:Nat} {t:ByteArray} (hs:bl s=bl (zi nc)++(32::(bl (zi nb')++(9::(bl (zi na)++(32::bl t)))))):
  ∃k1 k2 k3,spl s=(zi nc,0)::(zi nb',k1)::(zi na,k2)::(spl t).map (fun x=>(x.1,k3+x.2)):=by
 obtain⟨c1,⟨dc,rc,c2,_⟩,_⟩:=zq nc;obtain⟨b1,⟨db,rb,b2,_⟩,_⟩:=zq nb';obtain⟨a1,⟨da,ra,a2,_⟩,_⟩:=zq na
 have hz:s.size=t.size+((bl (zi na)).length+1)+((bl (zi nb')).length+1)+((bl (zi nc)).length+1):=by
  rw[Zt hs];simp only[List.length_append,List.length_cons];have:(bl t).length=t.size:=rfl;omega
 have e1:=zbk (s:=s) (l:=bl (zi nc)) (pre:=[]) (b:=32) (suf:=bl (zi nb')++(9::(bl (zi na)++(32::bl t)))) hs (by rw[c2];simp) (zbs c1) (by decide) (by decide) (by decide) (t.size+((bl (zi na)).length+1)+((bl (zi nb')).length+1)) 0;have e2:=zbk (s:=s) (l:=bl (zi nb')) (pre:=bl (zi nc)++[32]) (b:=9) (suf:=bl (zi na)++(32::bl t)) (by rw[hs];simp) (by rw[b2];simp) (zbs b1) (by decide) (by decide) (by decide) (t.size+((bl (zi na)).length+1)) (0+((bl (zi nc)).length+1));have e3:=zbk (s:=s) (l:=bl (zi na)) (pre:=bl (zi nc)++[32]++(bl (zi nb')++[9])) (b:=32) (suf:=bl t) (by rw[hs];simp) (by rw[a2];simp) (zbs a1) (by decide) (by decide) (by decide) t.size (0+((bl (zi nc)).length+1)+((bl (zi nb')).length+1));have e4:=zih (s:=s) (t:=t) (pre:=bl (zi nc)++[32]++(bl (zi nb')++[9])++(bl (zi na)++[32])) (by rw[hs];simp) (0+((bl (zi nc)).length+1)+((bl (zi nb')).length+1)+((bl (zi na)).length+1)) t.size 0 0 false none;simp only[List.length_append,List.length_cons,List.length_nil,Nat.zero_add,Nat.add_zero,Option.map_none] at e1 e2 e3 e4;refine⟨(bl (zi nc)).length+1,(bl (zi nc)).length+1+((bl (zi nb')).length+1),(bl (zi nc)).length+1+((bl (zi nb')).length+1)+((bl (zi na)).length+1), ?_⟩;unfold spl;rw[hz,e1,e2,e3,e4,mk_bl,mk_bl,mk_bl]
theorem zmR {s:ByteArray} {na nb' nc:Nat} {t:ByteArray} (hs:bl s=bl (zi nc)++(32::(bl (zi nb')++(9::(bl (zi na)++(32::bl t)))))) (ht:(cnt t).2=true):(cnt s).2=true:=by
 obtain⟨c1,_⟩:=zq nc;obtain⟨b1,_⟩:=zq nb';obtain⟨a1,_⟩:=zq na
 have hp:∀{l:List UInt8},(∀b∈l,sgn b)->∀b∈l,b.toNat<128:=fun h b hb=>by
  have:=h b hb;unfold sgn at this;omega
 obtain⟨L,hL⟩:∃L,L=bl (zi nc)++[32]++(bl (zi nb')++[9])++(bl (zi na)++[32]):=⟨_,rfl⟩;have hs2:bl s=[]++(L++bl t):=by rw[hs,hL];simp
 have hall:∀b∈L,b.toNat<128:=fun b hb=>by
  rw[hL] at hb;simp only[List.mem_append,List.mem_singleton] at hb;rcases hb with ((h|rfl)|(h|rfl))|(h|rfl)
  ·exact hp c1 b h
  ·decide
  ·exact hp b1 b h
  ·decide
  ·exact hp a1 b h
  ·decide
 have e:=zho (s:=s) L [] (bl t) hs2 hall t.size 0;have e2:=zhv (s:=s) (t:=t) (pre:=L) (by rw[hs2];rfl) L.length t.size 0 0;simp only[List.length_nil,Nat.zero_add,Nat.add_zero] at e e2
 have hz:s.size=t.size+L.length:=by
  rw[Zt hs2];simp only[List.nil_append,List.length_append];have:(bl t).length=t.size:=rfl;omega
 unfold cnt;rw[hz,e,e2];exact ht
def rIt:List It->Nat->List (It×Nat)
 |[],_=>[]
 |i::r,p=>(i,p)::rIt r (p+i.cd.length)
theorem zjb:∀(l:List (ByteArray×Nat)) (p:Nat),(rit l p).map (fun y=>(y.i,y.p))=rIt (l.map fun x=>itm x.1) p
 |[],_=>rfl
 |x::r,p=>by
  show(itm x.1,p)::(rit r (p+(itm x.1).cd.length)).map _=_;rw[zjb r];rfl
theorem zjd (n:ByteArray):∀(l:List Ri),lkp n l=((l.map fun y=>(y.i,y.p)).find? fun y=>decide (y.1.k=1/\y.1.nm=n)).map fun y=>y.2
 |[]=>rfl
 |y::r=>by
  unfold lkp;by_cases h:y.i.k=1/\y.i.nm=n
  ·rw[if_pos h,List.map_cons,List.find?_cons_of_pos (by simpa using h)];rfl
  ·rw[if_neg h,List.map_cons,List.find?_cons_of_neg (by simpa using h),zjd n r]
theorem zi2 (lb:ByteArray->Option Nat):∀(l:List Ri) (c:List UInt8),(∀y∈l.map fun y=>(y.i,y.p),flt lb ⟨y.1,0,y.2⟩=0)->rn2 lb l c=.inl (c++(l.map fun y=>(y.i,y.p)).flatMap fun y=>cwt lb ⟨y.1,0,y.2⟩)
 |[],c,_=>by simp[rn2]
 |y::r,c,h=>by
  unfold rn2;have h1:flt lb y=0:=h (y.i,y.p) (by simp);rw[if_pos h1,zi2 lb r _ (fun z hz=>h z (by rw[List.map_cons];exact List.mem_cons_of_mem _ hz)),List.map_cons,List.flatMap_cons,List.append_assoc];rfl
theorem zlp {s:ByteArray} {na nb' nc k:Nat} (hk:k<25) (hs:bl s=bl (zi nc)++(32::(bl (zi nb')++(9::(bl (zi na)++(32::restL k)))))):
  asm s=(⟨(zo (nc%M)++(zo (nb'%M)++(zo (na%M)++([UInt8.ofNat (opsL.getD k 0),97,UInt8.ofNat (((zo (nc%M)++(zo (nb'%M)++zo (na%M))).length+6)/256),UInt8.ofNat (((zo (nc%M)++(zo (nb'%M)++zo (na%M))).length+6)%256),86,0,91,96,1,85,96,1,84,95,82,96,32,95,243]:List UInt8)))).toArray⟩,0,0):=by
 obtain⟨h1,h2,h3⟩:=its_k hk;have hs2:bl s=bl (zi nc)++(32::(bl (zi nb')++(9::(bl (zi na)++(32::bl (zt k)))))):=hs;obtain⟨k1,k2,k3,hsp⟩:=zmI hs2;have hct:=zmR hs2 h2;obtain⟨P,hP⟩:∃P,P=(zo (nc%M)++(zo (nb'%M)++zo (na%M))).length:=⟨_,rfl⟩
 have hits:(spl s).map (fun x=>itm x.1)=⟨0,⟨#[]⟩,zo (nc%M),0⟩::⟨0,⟨#[]⟩,zo (nb'%M),0⟩::⟨0,⟨#[]⟩,zo (na%M),0⟩::ZW (opsL.getD k 0):=by
  rw[hsp,List.map_cons,List.map_cons,List.map_cons,List.map_map,zfs,zfs,zfs,<-h1];rfl
 have hpos:(ZM s).map (fun y=>(y.i,y.p))=(⟨0,⟨#[]⟩,zo (nc%M),0⟩,0)::(⟨0,⟨#[]⟩,zo (nb'%M),0⟩,(zo (nc%M)).length)::(⟨0,⟨#[]⟩,zo (na%M),0⟩,(zo (nc%M)).length+(zo (nb'%M)).length)::rIt (ZW (opsL.getD k 0)) P:=by
  unfold ZM;rw[zjb,hits,hP];simp only[rIt,List.length_append,Nat.zero_add,Nat.add_assoc]
 have hlab:yu s grL=some (P+6):=by
  unfold yu;rw[zjd,hpos];rw[List.find?_cons_of_neg (by simp),List.find?_cons_of_neg (by simp),List.find?_cons_of_neg (by simp)];rfl
 have hrn:=zi2 (yu s) (ZM s) [] (by
  rw[hpos];intro y hy;simp only[List.mem_cons,ZW,rIt,List.not_mem_nil,or_false] at hy;rcases hy with rfl|rfl|rfl|rfl|rfl|rfl|rfl|rfl|rfl|rfl|rfl|rfl|rfl|rfl|rfl|rfl|rfl
  all_goals first
   |rfl
   |(unfold flt;simp[hlab];done))
 have hcode:rn2 (yu s) (ZM s) []=.inl (zo (nc%M)++(zo (nb'%M)++(zo (na%M)++[UInt8.ofNat (opsL.getD k 0),97,UInt8.ofNat ((P+6)/256),UInt8.ofNat ((P+6)%256),86,0,91,96,1,85,96,1,84,95,82,96,32,95,243]))):=by
  rw[hrn,hpos];simp only[List.nil_append,ZW,rIt,List.flatMap_cons,List.flatMap_nil,cwt,hlab];simp
 have hlc:=yh (nc%M);have hlb:=yh (nb'%M);have hla:=yh (na%M)
 have hsz:s.size<=2000:=by
  rw[Zt hs2];have c3:=(zq nc).2.2;have b3:=(zq nb').2.2;have a3:=(zq na).2.2;simp only[List.length_append,List.length_cons,Yl];omega
 unfold asm;rw[if_neg (by omega),hct,if_neg (by decide),hcode,<-hP];dsimp only;rw[if_neg (by simp only[List.length_append,List.length_cons,List.length_nil];omega)]
section
open Go.Maps
theorem zaB:Own 9:=fun _ _=>by kernel_rfl
def PhT (w:World):Nat->World->Prop:=fun _ x=>Below w.heap.size w x
section
variable {ba bb bc bn na nb' nc kk:Nat} {nm:ByteArray} {s:Act} {x:World} {K:Act->World->Prop} {Q:Exit->Act->World->Prop} {ty1:TypeId} {po1:String} {af1:Array Edge} {gd1:Option (Nat×Bool)}
theorem zhw (e6:s.tmps.getD 6 undef=.pointer (some ⟨bc,0,none⟩)) (y0:x.cell? ⟨bc,0,none⟩=some (.int .u64 (za nc 0))) (y1:x.cell? ⟨bc,1,none⟩=some (.int .u64 (za nc 1))) (y2:x.cell? ⟨bc,2,none⟩=some (.int .u64 (za nc 2))) (y3:x.cell? ⟨bc,3,none⟩=some (.int .u64 (za nc 3))) (hK:K (s.put (some 28) (.agg #[.int .u64 (za nc 0),.int .u64 (za nc 1),.int .u64 (za nc 2),.int .u64 (za nc 3)])) x):
  Oper.wp prog ⟨some 28,.load 24 (.tmp 6),ty1,po1,af1,gd1⟩ s x K Q:=by
 have f6:s.eval (.tmp 6)=_:=e6;go_simp;exact hK
theorem zhO (e29:s.tmps.getD 29 undef=.string (zi nc)) (hz:¬9223372036854775807<(zi nc).size+1) (hK:K (s.put (some 30) (.string (zi nc++⟨#[32]⟩))) x):
  Oper.wp prog ⟨some 30,.binOp .add 9 (.tmp 29) (.const (.string {data:=#[32]})) 9,ty1,po1,af1,gd1⟩ s x K Q:=by
 have f29:s.eval (.tmp 29)=_:=e29;go_simp;exact hK
theorem zhI (e5:s.tmps.getD 5 undef=.pointer (some ⟨bb,0,none⟩)) (y0:x.cell? ⟨bb,0,none⟩=some (.int .u64 (za nb' 0))) (y1:x.cell? ⟨bb,1,none⟩=some (.int .u64 (za nb' 1))) (y2:x.cell? ⟨bb,2,none⟩=some (.int .u64 (za nb' 2))) (y3:x.cell? ⟨bb,3,none⟩=some (.int .u64 (za nb' 3))) (hK:K (s.put (some 31) (.agg #[.int .u64 (za nb' 0),.int .u64 (za nb' 1),.int .u64 (za nb' 2),.int .u64 (za nb' 3)])) x):
  Oper.wp prog ⟨some 31,.load 24 (.tmp 5),ty1,po1,af1,gd1⟩ s x K Q:=by
 have f5:s.eval (.tmp 5)=_:=e5;go_simp;exact hK
theorem zip (e30:s.tmps.getD 30 undef=.string (zi nc++⟨#[32]⟩)) (e32:s.tmps.getD 32 undef=.string (zi nb')) (hz:¬9223372036854775807<(zi nc).size+1+(zi nb').size) (hK:K (s.put (some 33) (.string ((zi nc++⟨#[32]⟩)++zi nb'))) x):
  Oper.wp prog ⟨some 33,.binOp .add 9 (.tmp 30) (.tmp 32) 9,ty1,po1,af1,gd1⟩ s x K Q:=by
 have f30:s.eval (.tmp 30)=_:=e30;have f32:s.eval (.tmp 32)=_:=e32;go_simp;exact hK
theorem zin (e33:s.tmps.getD 33 undef=.string ((zi nc++⟨#[32]⟩)++zi nb')) (hz:¬9223372036854775807<(zi nc).size+1+(zi nb').size+1) (hK:K (s.put (some 34) (.string (((zi nc++⟨#[32]⟩)++zi nb')++⟨#[9]⟩))) x):
  Oper.wp prog ⟨some 34,.binOp .add 9 (.tmp 33) (.const (.string {data:=#[9]})) 9,ty1,po1,af1,gd1⟩ s x K Q:=by
 have f33:s.eval (.tmp 33)=_:=e33;go_simp;exact hK
theorem zh7 (e4:s.tmps.getD 4 undef=.pointer (some ⟨ba,0,none⟩)) (y0:x.cell? ⟨ba,0,none⟩=some (.int .u64 (za na 0))) (y1:x.cell? ⟨ba,1,none⟩=some (.int .u64 (za na 1))) (y2:x.cell? ⟨ba,2,none⟩=some (.int .u64 (za na 2))) (y3:x.cell? ⟨ba,3,none⟩=some (.int .u64 (za na 3))) (hK:K (s.put (some 35) (.agg #[.int .u64 (za na 0),.int .u64 (za na 1),.int .u64 (za na 2),.int .u64 (za na 3)])) x):
  Oper.wp prog ⟨some 35,.load 24 (.tmp 4),ty1,po1,af1,gd1⟩ s x K Q:=by
 have f4:s.eval (.tmp 4)=_:=e4;go_simp;exact hK
theorem zhK (e34:s.tmps.getD 34 undef=.string (((zi nc++⟨#[32]⟩)++zi nb')++⟨#[9]⟩)) (e36:s.tmps.getD 36 undef=.string (zi na)) (hz:¬9223372036854775807<(zi nc).size+1+(zi nb').size+1+(zi na).size) (hK:K (s.put (some 37) (.string ((((zi nc++⟨#[32]⟩)++zi nb')++⟨#[9]⟩)++zi na))) x):
  Oper.wp prog ⟨some 37,.binOp .add 9 (.tmp 34) (.tmp 36) 9,ty1,po1,af1,gd1⟩ s x K Q:=by
 have f34:s.eval (.tmp 34)=_:=e34;have f36:s.eval (.tmp 36)=_:=e36;go_simp;exact hK
theorem zgw (e37:s.tmps.getD 37 undef=.string ((((zi nc++⟨#[32]⟩)++zi nb')++⟨#[9]⟩)++zi na)) (hz:¬9223372036854775807<(zi nc).size+1+(zi nb').size+1+(zi na).size+9) (hK:K (s.put (some 38) (.string (((((zi nc++⟨#[32]⟩)++zi nb')++⟨#[9]⟩)++zi na)++⟨#[32,59,32,119,111,114,100,115,10]⟩))) x):
  Oper.wp prog ⟨some 38,.binOp .add 9 (.tmp 37) (.const (.string {data:=#[32,59,32,119,111,114,100,115,10]})) 9,ty1,po1,af1,gd1⟩ s x K Q:=by
 have f37:s.eval (.tmp 37)=_:=e37;go_simp;exact hK
theorem zgi (e9:s.tmps.getD 9 undef=.slice (some ⟨bn,0,none⟩) 25 25) (hK:K (s.put (some 39) (.slice (some ⟨bn,0,none⟩) 25 25)) x):
  Oper.wp prog ⟨some 39,.move (.tmp 9),ty1,po1,af1,gd1⟩ s x K Q:=by
 have f9:s.eval (.tmp 9)=_:=e9;go_simp;exact hK
theorem zg7 (e3:s.tmps.getD 3 undef=.int .i64 (kk:Int)) (hK:K (s.put (some 40) (.int .i64 (kk:Int))) x):
  Oper.wp prog ⟨some 40,.move (.tmp 3),ty1,po1,af1,gd1⟩ s x K Q:=by
 have f3:s.eval (.tmp 3)=_:=e3;go_simp;exact hK
theorem zg2 (e39:s.tmps.getD 39 undef=.slice (some ⟨bn,0,none⟩) 25 25) (e40:s.tmps.getD 40 undef=.int .i64 (kk:Int)) (hk0:(kk:Int)<25) (hK:K (s.put (some 41) (.pointer (some ⟨bn,kk,none⟩))) x):
  Oper.wp prog ⟨some 41,.indexAddr 25 (.tmp 39) (.tmp 40),ty1,po1,af1,gd1⟩ s x K Q:=by
 have f39:s.eval (.tmp 39)=_:=e39;have f40:s.eval (.tmp 40)=_:=e40;go_simp;exact hK
theorem zgf (e41:s.tmps.getD 41 undef=.pointer (some ⟨bn,kk,none⟩)) (hk0:x.cell? ⟨bn,kk,none⟩=some (.string nm)) (hK:K (s.put (some 42) (.string nm)) x):
  Oper.wp prog ⟨some 42,.load 9 (.tmp 41),ty1,po1,af1,gd1⟩ s x K Q:=by
 have f41:s.eval (.tmp 41)=_:=e41;go_simp;exact hK
theorem zgy (e38:s.tmps.getD 38 undef=.string (((((zi nc++⟨#[32]⟩)++zi nb')++⟨#[9]⟩)++zi na)++⟨#[32,59,32,119,111,114,100,115,10]⟩)) (e42:s.tmps.getD 42 undef=.string nm) (hz:¬9223372036854775807<(zi nc).size+1+(zi nb').size+1+(zi na).size+9+nm.size) (hK:K (s.put (some 43) (.string ((((((zi nc++⟨#[32]⟩)++zi nb')++⟨#[9]⟩)++zi na)++⟨#[32,59,32,119,111,114,100,115,10]⟩)++nm))) x):
  Oper.wp prog ⟨some 43,.binOp .add 9 (.tmp 38) (.tmp 42) 9,ty1,po1,af1,gd1⟩ s x K Q:=by
 have f38:s.eval (.tmp 38)=_:=e38;have f42:s.eval (.tmp 42)=_:=e42;go_simp;exact hK
theorem zgM (e43:s.tmps.getD 43 undef=.string ((((((zi nc++⟨#[32]⟩)++zi nb')++⟨#[9]⟩)++zi na)++⟨#[32,59,32,119,111,114,100,115,10]⟩)++nm)) (hz:¬9223372036854775807<(zi nc).size+1+(zi nb').size+1+(zi na).size+9+nm.size+66) (hK:K (s.put (some 44) (.string (((((((zi nc++⟨#[32]⟩)++zi nb')++⟨#[9]⟩)++zi na)++⟨#[32,59,32,119,111,114,100,115,10]⟩)++nm)++⟨#[32,64,103,114,195,182,195,159,101,32,74,85,77,80,32,83,84,79,80,32,103,114,195,182,195,159,101,58,32,49,32,83,83,84,79,82,69,10,49,32,83,76,79,65,68,32,48,32,77,83,84,79,82,69,32,51,50,32,48,32,82,69,84,85,82,78]⟩))) x):
  Oper.wp prog ⟨some 44,.binOp .add 9 (.tmp 43) (.const (.string {data:=([32,64,103,114,195,182,195,159,101,32,74,85,77,80,32,83,84,79,80,32,103,114,195,182,195,159,101,58,32,49,32,83,83].append [84,79,82,69,10,49,32,83,76,79,65,68,32,48,32,77,83,84,79,82,69,32,51,50,32,48,32,82,69,84,85,82,78]).toArray})) 9,ty1,po1,af1,gd1⟩ s x K Q:=by
 have f43:s.eval (.tmp 43)=_:=e43;go_simp;exact hK
theorem zgZ (e44:s.tmps.getD 44 undef=.string (((((((zi nc++⟨#[32]⟩)++zi nb')++⟨#[9]⟩)++zi na)++⟨#[32,59,32,119,111,114,100,115,10]⟩)++nm)++⟨#[32,64,103,114,195,182,195,159,101,32,74,85,77,80,32,83,84,79,80,32,103,114,195,182,195,159,101,58,32,49,32,83,83,84,79,82,69,10,49,32,83,76,79,65,68,32,48,32,77,83,84,79,82,69,32,51,50,32,48,32,82,69,84,85,82,78]⟩)) (hK:K (s.put (some 11) (.string (((((((zi nc++⟨#[32]⟩)++zi nb')++⟨#[9]⟩)++zi na)++⟨#[32,59,32,119,111,114,100,115,10]⟩)++nm)++⟨#[32,64,103,114,195,182,195,159,101,32,74,85,77,80,32,83,84,79,80,32,103,114,195,182,195,159,101,58,32,49,32,83,83,84,79,82,69,10,49,32,83,76,79,65,68,32,48,32,77,83,84,79,82,69,32,51,50,32,48,32,82,69,84,85,82,78]⟩))) x):
  Oper.wp prog ⟨some 11,.assign (.tmp 44),ty1,po1,af1,gd1⟩ s x K Q:=by
 have f44:s.eval (.tmp 44)=_:=e44;go_simp;exact hK
theorem told_r6 {ba bb bc bn na nb' nc kk:Nat} {nm:ByteArray} {Q:Exit->Act->World->Prop} (a:Act) (w:World) (ra:zS w ba na) (rb:zS w bb nb') (rc:zS w bc nc) (hk25:kk<25) (hnl:nm.size<=100) (hbn:bn<w.heap.size) (hnm:w.cell? ⟨bn,kk,none⟩=some (.string nm)) (h0:Below w.heap.size w w.drew) (hsz:decide (44<a.tmps.size)=true) (c3:a.tmps.getD 3 undef=.int .i64 (kk:Int)) (c4:a.tmps.getD 4 undef=.pointer (some ⟨ba,0,none⟩)) (c5:a.tmps.getD 5 undef=.pointer (some ⟨bb,0,none⟩)) (c6:a.tmps.getD 6 undef=.pointer (some ⟨bc,0,none⟩)) (c9:a.tmps.getD 9 undef=.slice (some ⟨bn,0,none⟩) 25 25)
  (hok:∀(x:World),(PhT w) 3 x->Q .normal (zL a [(28,.agg #[.int .u64 (za nc 0),.int .u64 (za nc 1),.int .u64 (za nc 2),.int .u64 (za nc 3)]),(29,.string (zi nc)),(30,.string (zi nc++⟨#[32]⟩)),(31,.agg #[.int .u64 (za nb' 0),.int .u64 (za nb' 1),.int .u64 (za nb' 2),.int .u64 (za nb' 3)]),(32,.string (zi nb')),(33,.string ((zi nc++⟨#[32]⟩)++zi nb')),(34,.string (((zi nc++⟨#[32]⟩)++zi nb')++⟨#[9]⟩)),(35,.agg #[.int .u64 (za na 0),.int .u64 (za na 1),.int .u64 (za na 2),.int .u64 (za na 3)]),(36,.string (zi na)),(37,.string ((((zi nc++⟨#[32]⟩)++zi nb')++⟨#[9]⟩)++zi na)),(38,.string (((((zi nc++⟨#[32]⟩)++zi nb')++⟨#[9]⟩)++zi na)++⟨#[32,59,32,119,111,114,100,115,10]⟩)),(39,.slice (some ⟨bn,0,none⟩) 25 25),(40,.int .i64 (kk:Int)),(41,.pointer (some ⟨bn,kk,none⟩)),(42,.string nm),(43,.string ((((((zi nc++⟨#[32]⟩)++zi nb')++⟨#[9]⟩)++zi na)++⟨#[32,59,32,119,111,114,100,115,10]⟩)++nm)),(44,.string (((((((zi nc++⟨#[32]⟩)++zi nb')++⟨#[9]⟩)++zi na)++⟨#[32,59,32,119,111,114,100,115,10]⟩)++nm)++⟨#[32,64,103,114,195,182,195,159,101,32,74,85,77,80,32,83,84,79,80,32,103,114,195,182,195,159,101,58,32,49,32,83,83,84,79,82,69,10,49,32,83,76,79,65,68,32,48,32,77,83,84,79,82,69,32,51,50,32,48,32,82,69,84,85,82,78]⟩)),(11,.string (((((((zi nc++⟨#[32]⟩)++zi nb')++⟨#[9]⟩)++zi na)++⟨#[32,59,32,119,111,114,100,115,10]⟩)++nm)++⟨#[32,64,103,114,195,182,195,159,101,32,74,85,77,80,32,83,84,79,80,32,103,114,195,182,195,159,101,58,32,49,32,83,83,84,79,82,69,10,49,32,83,76,79,65,68,32,48,32,77,83,84,79,82,69,32,51,50,32,48,32,82,69,84,85,82,78]⟩))]) x):
  (Code.region 6 #[⟨some 28,.load 24 (.tmp 6),24,"keeps.go:120",#[],none⟩,⟨some 29,.call ⟨.value (.func 9),#[.tmp 28],#[24]⟩,9,"keeps.go:120",#[⟨0,.data⟩],none⟩,⟨some 30,.binOp .add 9 (.tmp 29) (.const (.string {data:=#[32]})) 9,9,"keeps.go:120",#[⟨1,.data⟩],none⟩,⟨some 31,.load 24 (.tmp 5),24,"keeps.go:120",#[],none⟩,⟨some 32,.call ⟨.value (.func 9),#[.tmp 31],#[24]⟩,9,"keeps.go:120",#[⟨3,.data⟩,⟨1,.chain⟩],none⟩,⟨some 33,.binOp .add 9 (.tmp 30) (.tmp 32) 9,9,"keeps.go:120",#[⟨2,.data⟩,⟨4,.data⟩],none⟩,⟨some 34,.binOp .add 9 (.tmp 33) (.const (.string {data:=#[9]})) 9,9,"keeps.go:120",#[⟨5,.data⟩],none⟩,⟨some 35,.load 24 (.tmp 4),24,"keeps.go:120",#[],none⟩,⟨some 36,.call ⟨.value (.func 9),#[.tmp 35],#[24]⟩,9,"keeps.go:120",#[⟨7,.data⟩,⟨4,.chain⟩],none⟩,⟨some 37,.binOp .add 9 (.tmp 34) (.tmp 36) 9,9,"keeps.go:120",#[⟨6,.data⟩,⟨8,.data⟩],none⟩,⟨some 38,.binOp .add 9 (.tmp 37) (.const (.string {data:=#[32,59,32,119,111,114,100,115,10]})) 9,9,"keeps.go:120",#[⟨9,.data⟩],none⟩,⟨some 39,.move (.tmp 9),25,"keeps.go:120",#[],none⟩,⟨some 40,.move (.tmp 3),3,"keeps.go:120",#[],none⟩,⟨some 41,.indexAddr 25 (.tmp 39) (.tmp 40),0,"keeps.go:120",#[⟨11,.data⟩,⟨12,.data⟩],none⟩,⟨some 42,.load 9 (.tmp 41),9,"keeps.go:120",#[⟨13,.data⟩],none⟩,⟨some 43,.binOp .add 9 (.tmp 38) (.tmp 42) 9,9,"keeps.go:120",#[⟨10,.data⟩,⟨14,.data⟩],none⟩,⟨some 44,.binOp .add 9 (.tmp 43) (.const (.string {data:=([32,64,103,114,195,182,195,159,101,32,74,85,77,80,32,83,84,79,80,32,103,114,195,182,195,159,101,58,32,49,32,83,83].append [84,79,82,69,10,49,32,83,76,79,65,68,32,48,32,77,83,84,79,82,69,32,51,50,32,48,32,82,69,84,85,82,78]).toArray})) 9,9,"keeps.go:120",#[⟨15,.data⟩],none⟩,⟨some 11,.assign (.tmp 44),9,"keeps.go:120",#[⟨16,.data⟩,⟨8,.chain⟩,⟨0,.phase⟩,⟨1,.phase⟩,⟨2,.phase⟩,⟨3,.phase⟩,⟨4,.phase⟩,⟨5,.phase⟩,⟨6,.phase⟩,⟨7,.phase⟩,⟨8,.phase⟩,⟨9,.phase⟩,⟨10,.phase⟩,⟨11,.phase⟩,⟨12,.phase⟩,⟨13,.phase⟩,⟨14,.phase⟩,⟨15,.phase⟩,⟨16,.phase⟩],none⟩] true).wp prog Q a w:=by
 have hsz:=of_decide_eq_true hsz;refine Yt (by kernel_rfl) (by kernel_rfl) (PhT w) (fun _ _ _=>True) [(some 28,Cp (.agg #[.int .u64 (za nc 0),.int .u64 (za nc 1),.int .u64 (za nc 2),.int .u64 (za nc 3)])),(some 29,Cp (.string (zi nc))),(some 30,Cp (.string (zi nc++⟨#[32]⟩))),(some 31,Cp (.agg #[.int .u64 (za nb' 0),.int .u64 (za nb' 1),.int .u64 (za nb' 2),.int .u64 (za nb' 3)])),(some 32,Cp (.string (zi nb'))),(some 33,Cp (.string ((zi nc++⟨#[32]⟩)++zi nb'))),(some 34,Cp (.string (((zi nc++⟨#[32]⟩)++zi nb')++⟨#[9]⟩))),(some 35,Cp (.agg #[.int .u64 (za na 0),.int .u64 (za na 1),.int .u64 (za na 2),.int .u64 (za na 3)])),(some 36,Cp (.string (zi na))),(some 37,Cp (.string ((((zi nc++⟨#[32]⟩)++zi nb')++⟨#[9]⟩)++zi na))),(some 38,Cp (.string (((((zi nc++⟨#[32]⟩)++zi nb')++⟨#[9]⟩)++zi na)++⟨#[32,59,32,119,111,114,100,115,10]⟩))),(some 39,Cp (.slice (some ⟨bn,0,none⟩) 25 25)),(some 40,Cp (.int .i64 (kk:Int))),(some 41,Cp (.pointer (some ⟨bn,kk,none⟩))),(some 42,Cp (.string nm)),(some 43,Cp (.string ((((((zi nc++⟨#[32]⟩)++zi nb')++⟨#[9]⟩)++zi na)++⟨#[32,59,32,119,111,114,100,115,10]⟩)++nm))),(some 44,Cp (.string (((((((zi nc++⟨#[32]⟩)++zi nb')++⟨#[9]⟩)++zi na)++⟨#[32,59,32,119,111,114,100,115,10]⟩)++nm)++⟨#[32,64,103,114,195,182,195,159,101,32,74,85,77,80,32,83,84,79,80,32,103,114,195,182,195,159,101,58,32,49,32,83,83,84,79,82,69,10,49,32,83,76,79,65,68,32,48,32,77,83,84,79,82,69,32,51,50,32,48,32,82,69,84,85,82,78]⟩))),(some 11,Cp (.string (((((((zi nc++⟨#[32]⟩)++zi nb')++⟨#[9]⟩)++zi na)++⟨#[32,59,32,119,111,114,100,115,10]⟩)++nm)++⟨#[32,64,103,114,195,182,195,159,101,32,74,85,77,80,32,83,84,79,80,32,103,114,195,182,195,159,101,58,32,49,32,83,83,84,79,82,69,10,49,32,83,76,79,65,68,32,48,32,77,83,84,79,82,69,32,51,50,32,48,32,82,69,84,85,82,78]⟩)))] [1,4,8] rfl (by rfl) ?_ ?_ [(3,.int .i64 (kk:Int)),(4,.pointer (some ⟨ba,0,none⟩)),(5,.pointer (some ⟨bb,0,none⟩)),(6,.pointer (some ⟨bc,0,none⟩)),(9,.slice (some ⟨bn,0,none⟩) 25 25)] ?_ (by rfl) (by kernel_rfl) (by rfl) (by rfl) ?_ ?_ ?_ ?_
 ·refine List.all_eq_true.2 fun d hd=>decide_eq_true ?_
  have hd2:d∈([28,29,30,31,32,33,34,35,36,37,38,39,40,41,42,43,44,11]:List Nat):=hd;simp at hd2;omega
 ·exact h0
 ·intro p hp;simp only[List.mem_cons,List.not_mem_nil,or_false] at hp;rcases hp with rfl|rfl|rfl|rfl|rfl
  ·exact c3
  ·exact c4
  ·exact c5
  ·exact c6
  ·exact c9
 ·intro j d T hj p v x x' hne hpl hph hrel ht;have hjl:j<18:=(List.getElem?_eq_some_iff.1 hj).1;rcases ltq18 hjl with rfl|rfl|rfl|rfl|rfl|rfl|rfl|rfl|rfl|rfl|rfl|rfl|rfl|rfl|rfl|rfl|rfl|rfl
  ·obtain⟨rfl,rfl⟩:=pk hj;exact ht
  ·obtain⟨rfl,rfl⟩:=pk hj;exact ht
  ·obtain⟨rfl,rfl⟩:=pk hj;exact ht
  ·obtain⟨rfl,rfl⟩:=pk hj;exact ht
  ·obtain⟨rfl,rfl⟩:=pk hj;exact ht
  ·obtain⟨rfl,rfl⟩:=pk hj;exact ht
  ·obtain⟨rfl,rfl⟩:=pk hj;exact ht
  ·obtain⟨rfl,rfl⟩:=pk hj;exact ht
  ·obtain⟨rfl,rfl⟩:=pk hj;exact ht
  ·obtain⟨rfl,rfl⟩:=pk hj;exact ht
  ·obtain⟨rfl,rfl⟩:=pk hj;exact ht
  ·obtain⟨rfl,rfl⟩:=pk hj;exact ht
  ·obtain⟨rfl,rfl⟩:=pk hj;exact ht
  ·obtain⟨rfl,rfl⟩:=pk hj;exact ht
  ·obtain⟨rfl,rfl⟩:=pk hj;exact ht
  ·obtain⟨rfl,rfl⟩:=pk hj;exact ht
  ·obtain⟨rfl,rfl⟩:=pk hj;exact ht
  ·obtain⟨rfl,rfl⟩:=pk hj;exact ht
 ·intro i o d T ho ht hic k s x hk hlo hhi hph hdf hb hdep;have hi:i<18:=(Array.getElem?_eq_some_iff.1 ho).1;rcases ltq18 hi with rfl|rfl|rfl|rfl|rfl|rfl|rfl|rfl|rfl|rfl|rfl|rfl|rfl|rfl|rfl|rfl|rfl|rfl
  ·obtain rfl:=sj ho;obtain⟨rfl,rfl⟩:=pk ht;refine⟨zg rfl,fun K hK=> ?_⟩;obtain⟨y0,y1,y2,y3⟩:=zb (zf rc (show Below w.heap.size w x from hph));exact zhw (hb (6,.pointer (some ⟨bc,0,none⟩)) (List.Mem.tail _ (List.Mem.tail _ (List.Mem.tail _ (List.Mem.head _))))) y0 y1 y2 y3 (hK _ nn1 rfl)
  ·exact absurd (by simp) hic
  ·obtain rfl:=sj ho;obtain⟨rfl,rfl⟩:=pk ht;refine⟨zg rfl,fun K hK=> ?_⟩;have hz:¬9223372036854775807<(zi nc).size+1:=by have:=(zq nc).2.2;have:=(zq nb').2.2;have:=(zq na).2.2;omega
   exact zhO (hdep ⟨1,.data⟩ (by simp) rfl _ _ rfl) hz (hK _ nn1 rfl)
  ·obtain rfl:=sj ho;obtain⟨rfl,rfl⟩:=pk ht;refine⟨zg rfl,fun K hK=> ?_⟩;obtain⟨y0,y1,y2,y3⟩:=zb (zf rb (show Below w.heap.size w x from hph));exact zhI (hb (5,.pointer (some ⟨bb,0,none⟩)) (List.Mem.tail _ (List.Mem.tail _ (List.Mem.head _)))) y0 y1 y2 y3 (hK _ nn1 rfl)
  ·exact absurd (by simp) hic
  ·obtain rfl:=sj ho;obtain⟨rfl,rfl⟩:=pk ht;refine⟨zg rfl,fun K hK=> ?_⟩;have hz:¬9223372036854775807<(zi nc).size+1+(zi nb').size:=by have:=(zq nc).2.2;have:=(zq nb').2.2;have:=(zq na).2.2;omega
   exact zip (hdep ⟨2,.data⟩ (by simp) rfl _ _ rfl) (hdep ⟨4,.data⟩ (by simp) rfl _ _ rfl) hz (hK _ nn1 rfl)
  ·obtain rfl:=sj ho;obtain⟨rfl,rfl⟩:=pk ht;refine⟨zg rfl,fun K hK=> ?_⟩;have hz:¬9223372036854775807<(zi nc).size+1+(zi nb').size+1:=by have:=(zq nc).2.2;have:=(zq nb').2.2;have:=(zq na).2.2;omega
   exact zin (hdep ⟨5,.data⟩ (by simp) rfl _ _ rfl) hz (hK _ nn1 rfl)
  ·obtain rfl:=sj ho;obtain⟨rfl,rfl⟩:=pk ht;refine⟨zg rfl,fun K hK=> ?_⟩;obtain⟨y0,y1,y2,y3⟩:=zb (zf ra (show Below w.heap.size w x from hph));exact zh7 (hb (4,.pointer (some ⟨ba,0,none⟩)) (List.Mem.tail _ (List.Mem.head _))) y0 y1 y2 y3 (hK _ nn1 rfl)
  ·exact absurd (by simp) hic
  ·obtain rfl:=sj ho;obtain⟨rfl,rfl⟩:=pk ht;refine⟨zg rfl,fun K hK=> ?_⟩;have hz:¬9223372036854775807<(zi nc).size+1+(zi nb').size+1+(zi na).size:=by have:=(zq nc).2.2;have:=(zq nb').2.2;have:=(zq na).2.2;omega
   exact zhK (hdep ⟨6,.data⟩ (by simp) rfl _ _ rfl) (hdep ⟨8,.data⟩ (by simp) rfl _ _ rfl) hz (hK _ nn1 rfl)
  ·obtain rfl:=sj ho;obtain⟨rfl,rfl⟩:=pk ht;refine⟨zg rfl,fun K hK=> ?_⟩;have hz:¬9223372036854775807<(zi nc).size+1+(zi nb').size+1+(zi na).size+9:=by have:=(zq nc).2.2;have:=(zq nb').2.2;have:=(zq na).2.2;omega
   exact zgw (hdep ⟨9,.data⟩ (by simp) rfl _ _ rfl) hz (hK _ nn1 rfl)
  ·obtain rfl:=sj ho;obtain⟨rfl,rfl⟩:=pk ht;refine⟨zg rfl,fun K hK=> ?_⟩;exact zgi (hb (9,.slice (some ⟨bn,0,none⟩) 25 25) (List.Mem.tail _ (List.Mem.tail _ (List.Mem.tail _ (List.Mem.tail _ (List.Mem.head _)))))) (hK _ nn1 rfl)
  ·obtain rfl:=sj ho;obtain⟨rfl,rfl⟩:=pk ht;refine⟨zg rfl,fun K hK=> ?_⟩;exact zg7 (hb (3,.int .i64 (kk:Int)) (List.Mem.head _)) (hK _ nn1 rfl)
  ·obtain rfl:=sj ho;obtain⟨rfl,rfl⟩:=pk ht;refine⟨zg rfl,fun K hK=> ?_⟩;have hk0:(kk:Int)<25:=by omega
   exact zg2 (hdep ⟨11,.data⟩ (by simp) rfl _ _ rfl) (hdep ⟨12,.data⟩ (by simp) rfl _ _ rfl) hk0 (hK _ nn1 rfl)
  ·obtain rfl:=sj ho;obtain⟨rfl,rfl⟩:=pk ht;refine⟨zg rfl,fun K hK=> ?_⟩;have hk0:=(show Below w.heap.size w x from hph).cell hbn |>.trans hnm
   exact zgf (hdep ⟨13,.data⟩ (by simp) rfl _ _ rfl) hk0 (hK _ nn1 rfl)
  ·obtain rfl:=sj ho;obtain⟨rfl,rfl⟩:=pk ht;refine⟨zg rfl,fun K hK=> ?_⟩;have hz:¬9223372036854775807<(zi nc).size+1+(zi nb').size+1+(zi na).size+9+nm.size:=by have:=(zq nc).2.2;have:=(zq nb').2.2;have:=(zq na).2.2;omega
   exact zgy (hdep ⟨10,.data⟩ (by simp) rfl _ _ rfl) (hdep ⟨14,.data⟩ (by simp) rfl _ _ rfl) hz (hK _ nn1 rfl)
  ·obtain rfl:=sj ho;obtain⟨rfl,rfl⟩:=pk ht;refine⟨zg rfl,fun K hK=> ?_⟩;have hz:¬9223372036854775807<(zi nc).size+1+(zi nb').size+1+(zi na).size+9+nm.size+66:=by have:=(zq nc).2.2;have:=(zq nb').2.2;have:=(zq na).2.2;omega
   exact zgM (hdep ⟨15,.data⟩ (by simp) rfl _ _ rfl) hz (hK _ nn1 rfl)
  ·obtain rfl:=sj ho;obtain⟨rfl,rfl⟩:=pk ht;refine⟨zg rfl,fun K hK=> ?_⟩;exact zgZ (hdep ⟨16,.data⟩ (by simp) rfl _ _ rfl) (hK _ nn1 rfl)
 ·intro p i o d T hp ho ht s x hph hdf hb hdep;have hpl:p<3:=(List.getElem?_eq_some_iff.1 hp).1;rcases ltq3 hpl with rfl|rfl|rfl
  ·obtain rfl:=sj hp;obtain rfl:=sj ho;obtain⟨rfl,rfl⟩:=pk ht;refine⟨zg rfl,fun K hK=> ?_⟩;have hph:Below w.heap.size w x:=hph;refine zN zaB (ev1 (hdep ⟨0,.data⟩ (by simp) rfl _ _ rfl)) (zcc nc x) ?_;rintro e y ⟨rfl,hB⟩;exact⟨_,rfl,hK _ y (show PhT w _ y from hph.trans (hB.mono hph.size)) trivial nn1 rfl⟩
  ·obtain rfl:=sj hp;obtain rfl:=sj ho;obtain⟨rfl,rfl⟩:=pk ht;refine⟨zg rfl,fun K hK=> ?_⟩;have hph:Below w.heap.size w x:=hph;refine zN zaB (ev1 (hdep ⟨3,.data⟩ (by simp) rfl _ _ rfl)) (zcc nb' x) ?_;rintro e y ⟨rfl,hB⟩;exact⟨_,rfl,hK _ y (show PhT w _ y from hph.trans (hB.mono hph.size)) trivial nn1 rfl⟩
  ·obtain rfl:=sj hp;obtain rfl:=sj ho;obtain⟨rfl,rfl⟩:=pk ht;refine⟨zg rfl,fun K hK=> ?_⟩;have hph:Below w.heap.size w x:=hph;refine zN zaB (ev1 (hdep ⟨7,.data⟩ (by simp) rfl _ _ rfl)) (zcc na x) ?_;rintro e y ⟨rfl,hB⟩;exact⟨_,rfl,hK _ y (show PhT w _ y from hph.trans (hB.mono hph.size)) trivial nn1 rfl⟩
 ·intro vs x hph hl hT;obtain⟨v0,v1,v2,v3,v4,v5,v6,v7,v8,v9,v10,v11,v12,v13,v14,v15,v16,v17,rfl⟩:=lenq18 hl;obtain rfl:v0=.agg #[.int .u64 (za nc 0),.int .u64 (za nc 1),.int .u64 (za nc 2),.int .u64 (za nc 3)]:=hT 0 _ _ rfl;obtain rfl:v1=.string (zi nc):=hT 1 _ _ rfl;obtain rfl:v2=.string (zi nc++⟨#[32]⟩):=hT 2 _ _ rfl;obtain rfl:v3=.agg #[.int .u64 (za nb' 0),.int .u64 (za nb' 1),.int .u64 (za nb' 2),.int .u64 (za nb' 3)]:=hT 3 _ _ rfl;obtain rfl:v4=.string (zi nb'):=hT 4 _ _ rfl;obtain rfl:v5=.string ((zi nc++⟨#[32]⟩)++zi nb'):=hT 5 _ _ rfl;obtain rfl:v6=.string (((zi nc++⟨#[32]⟩)++zi nb')++⟨#[9]⟩):=hT 6 _ _ rfl;obtain rfl:v7=.agg #[.int .u64 (za na 0),.int .u64 (za na 1),.int .u64 (za na 2),.int .u64 (za na 3)]:=hT 7 _ _ rfl;obtain rfl:v8=.string (zi na):=hT 8 _ _ rfl;obtain rfl:v9=.string ((((zi nc++⟨#[32]⟩)++zi nb')++⟨#[9]⟩)++zi na):=hT 9 _ _ rfl;obtain rfl:v10=.string (((((zi nc++⟨#[32]⟩)++zi nb')++⟨#[9]⟩)++zi na)++⟨#[32,59,32,119,111,114,100,115,10]⟩):=hT 10 _ _ rfl;obtain rfl:v11=.slice (some ⟨bn,0,none⟩) 25 25:=hT 11 _ _ rfl;obtain rfl:v12=.int .i64 (kk:Int):=hT 12 _ _ rfl;obtain rfl:v13=.pointer (some ⟨bn,kk,none⟩):=hT 13 _ _ rfl;obtain rfl:v14=.string nm:=hT 14 _ _ rfl;obtain rfl:v15=.string ((((((zi nc++⟨#[32]⟩)++zi nb')++⟨#[9]⟩)++zi na)++⟨#[32,59,32,119,111,114,100,115,10]⟩)++nm):=hT 15 _ _ rfl;obtain rfl:v16=.string (((((((zi nc++⟨#[32]⟩)++zi nb')++⟨#[9]⟩)++zi na)++⟨#[32,59,32,119,111,114,100,115,10]⟩)++nm)++⟨#[32,64,103,114,195,182,195,159,101,32,74,85,77,80,32,83,84,79,80,32,103,114,195,182,195,159,101,58,32,49,32,83,83,84,79,82,69,10,49,32,83,76,79,65,68,32,48,32,77,83,84,79,82,69,32,51,50,32,48,32,82,69,84,85,82,78]⟩):=hT 16 _ _ rfl;obtain rfl:v17=.string (((((((zi nc++⟨#[32]⟩)++zi nb')++⟨#[9]⟩)++zi na)++⟨#[32,59,32,119,111,114,100,115,10]⟩)++nm)++⟨#[32,64,103,114,195,182,195,159,101,32,74,85,77,80,32,83,84,79,80,32,103,114,195,182,195,159,101,58,32,49,32,83,83,84,79,82,69,10,49,32,83,76,79,65,68,32,48,32,77,83,84,79,82,69,32,51,50,32,48,32,82,69,84,85,82,78]⟩):=hT 17 _ _ rfl;exact hok x hph
end
end
section
open Go.Maps
def nmC (i:Nat):Value:=.string ⟨(nmsL.getD i []).toArray⟩
def opC (i:Nat):Value:=.int .u8 ((opsL.getD i 0:Nat):Int)
structure TW (w:World) (na nb' nc:Nat) (x:World):Prop where
 ra:zS x w.heap.size na
 rb:zS x (w.heap.size+1) nb'
 rc:zS x (w.heap.size+1+1) nc
 rn:x.rowIs (w.heap.size+1+1+1) 9 25 nmC
 ro:x.rowIs (w.heap.size+1+1+1+1) 5 25 opC
 be:Below w.heap.size w x
theorem TW.below {w x y:World} {na nb' nc:Nat} (h:TW w na nb' nc x) (hb:Below x.heap.size x y):TW w na nb' nc y:=
 ⟨zf h.ra hb,zf h.rb hb,zf h.rc hb,zf h.rn hb,zf h.ro hb,h.be.trans (hb.mono h.be.size)⟩
theorem i25 {i:Nat} (h:i<25):i=0\/i=1\/i=2\/i=3\/i=4\/i=5\/i=6\/i=7\/i=8\/i=9\/i=10\/i=11\/i=12\/i=13\/i=14\/i=15\/i=16\/i=17\/i=18\/i=19\/i=20\/i=21\/i=22\/i=23\/i=24:=by omega
abbrev nmA:Array Value:=#[.string ⟨#[65,68,68]⟩,.string ⟨#[77,85,76]⟩,.string ⟨#[83,85,66]⟩,.string ⟨#[68,73,86]⟩,.string ⟨#[83,68,73,86]⟩,.string ⟨#[77,79,68]⟩,.string ⟨#[83,77,79,68]⟩,.string ⟨#[65,68,68,77,79,68]⟩,.string ⟨#[77,85,76,77,79,68]⟩,.string ⟨#[69,88,80]⟩,.string ⟨#[83,73,71,78,69,88,84,69,78,68]⟩,.string ⟨#[76,84]⟩,.string ⟨#[71,84]⟩,.string ⟨#[83,76,84]⟩,.string ⟨#[83,71,84]⟩,.string ⟨#[69,81]⟩,.string ⟨#[73,83,90,69,82,79]⟩,.string ⟨#[65,78,68]⟩,.string ⟨#[79,82]⟩,.string ⟨#[88,79,82]⟩,.string ⟨#[78,79,84]⟩,.string ⟨#[66,89,84,69]⟩,.string ⟨#[83,72,76]⟩,.string ⟨#[83,72,82]⟩,.string ⟨#[83,65,82]⟩]
abbrev opA:Array Value:=#[.int .u8 1,.int .u8 2,.int .u8 3,.int .u8 4,.int .u8 5,.int .u8 6,.int .u8 7,.int .u8 8,.int .u8 9,.int .u8 10,.int .u8 11,.int .u8 16,.int .u8 17,.int .u8 18,.int .u8 19,.int .u8 20,.int .u8 21,.int .u8 22,.int .u8 23,.int .u8 24,.int .u8 25,.int .u8 26,.int .u8 27,.int .u8 28,.int .u8 29]
theorem nmA_c:∀i,i<nmA.size->nmA[i]? =some (nmC i):=fun i hi=>by
 rcases i25 hi with rfl|rfl|rfl|rfl|rfl|rfl|rfl|rfl|rfl|rfl|rfl|rfl|rfl|rfl|rfl|rfl|rfl|rfl|rfl|rfl|rfl|rfl|rfl|rfl|rfl<;>rfl
theorem opA_c:∀i,i<opA.size->opA[i]? =some (opC i):=fun i hi=>by
 rcases i25 hi with rfl|rfl|rfl|rfl|rfl|rfl|rfl|rfl|rfl|rfl|rfl|rfl|rfl|rfl|rfl|rfl|rfl|rfl|rfl|rfl|rfl|rfl|rfl|rfl|rfl<;>rfl
theorem zlH {i:Nat} (h:i<25):(⟨(nmsL.getD i []).toArray⟩:ByteArray).size<=100:=by
 rcases i25 h with rfl|rfl|rfl|rfl|rfl|rfl|rfl|rfl|rfl|rfl|rfl|rfl|rfl|rfl|rfl|rfl|rfl|rfl|rfl|rfl|rfl|rfl|rfl|rfl|rfl<;>decide
theorem op_ok {i:Nat} (h:i<25):opN (opsL.getD i 0)=true/\opsL.getD i 0<=255:=by
 rcases i25 h with rfl|rfl|rfl|rfl|rfl|rfl|rfl|rfl|rfl|rfl|rfl|rfl|rfl|rfl|rfl|rfl|rfl|rfl|rfl|rfl|rfl|rfl|rfl|rfl|rfl<;>decide
theorem op_err {i:Nat} (h:i<25):zbp (opsL.getD i 0)=0:=by
 rcases i25 h with rfl|rfl|rfl|rfl|rfl|rfl|rfl|rfl|rfl|rfl|rfl|rfl|rfl|rfl|rfl|rfl|rfl|rfl|rfl|rfl|rfl|rfl|rfl|rfl|rfl<;>decide
theorem tw_mk (w:World) (na nb' nc:Nat):TW w na nb' nc (((((w.alloc (wc na)).alloc (wc nb')).alloc (wc nc)).alloc (.cells nmA 9)).alloc (.cells opA 5)):=by
 have s1:(w.alloc (wc na)).heap.size=w.heap.size+1:=by simp
 have s2:((w.alloc (wc na)).alloc (wc nb')).heap.size=w.heap.size+1+1:=by simp
 have s3:(((w.alloc (wc na)).alloc (wc nb')).alloc (wc nc)).heap.size=w.heap.size+1+1+1:=by simp
 have s4:((((w.alloc (wc na)).alloc (wc nb')).alloc (wc nc)).alloc (.cells nmA 9)).heap.size=w.heap.size+1+1+1+1:=by simp
 have r1:=Zn w na;have r2:=Zn (w.alloc (wc na)) nb';have r3:=Zn ((w.alloc (wc na)).alloc (wc nb')) nc;have r4:=World.rowIs_alloc (((w.alloc (wc na)).alloc (wc nb')).alloc (wc nc)) nmA 9 nmC nmA_c;have r5:=World.rowIs_alloc ((((w.alloc (wc na)).alloc (wc nb')).alloc (wc nc)).alloc (.cells nmA 9)) opA 5 opC opA_c;rw[s1] at r2;rw[s2] at r3;rw[s3] at r4;rw[s4] at r5;exact⟨zf r1 (bal (bal (bal (bal (Below.refl _ _) _) _) _) _),zf r2 (bal (bal (bal (Below.refl _ _) _) _) _),zf r3 (bal (bal (Below.refl _ _) _) _),zf r4 (bal (Below.refl _ _) _),r5,bal (bal (bal (bal (bal (Below.refl _ _) _) _) _) _) _⟩
abbrev srcS (na nb' nc k:Nat):ByteArray:=(((((((zi nc++⟨#[32]⟩)++zi nb')++⟨#[9]⟩)++zi na)++⟨#[32,59,32,119,111,114,100,115,10]⟩)++⟨(nmsL.getD k []).toArray⟩)++⟨#[32,64,103,114,195,182,195,159,101,32,74,85,77,80,32,83,84,79,80,32,103,114,195,182,195,159,101,58,32,49,32,83,83,84,79,82,69,10,49,32,83,76,79,65,68,32,48,32,77,83,84,79,82,69,32,51,50,32,48,32,82,69,84,85,82,78]⟩)
abbrev zc7 (na nb' nc k:Nat):List UInt8:=zo (nc%M)++(zo (nb'%M)++(zo (na%M)++tlL (opsL.getD k 0) ((zo (nc%M)++(zo (nb'%M)++zo (na%M))).length+6)))
theorem Yv (x y:ByteArray):bl (x++y)=bl x++bl y:=by
 show(ByteArray.data _).toList=_;rw[ByteArray.data_append,Array.toList_append];rfl
theorem src_bl (na nb' nc k:Nat):bl (srcS na nb' nc k)=bl (zi nc)++(32::(bl (zi nb')++(9::(bl (zi na)++(32::restL k))))):=by
 unfold srcS;rw[Yv,Yv,Yv,Yv,Yv,Yv,Yv,zj2 (nmsL.getD k [])];simp only[List.append_assoc];rfl
theorem code_of (na nb' nc:Nat) {k:Nat} (hk:k<25) (w:World):∃s:ByteArray,Hid (bl s=zc7 na nb' nc k)/\s.size<=1000/\0<s.size/\Hid (∀w,Calls prog 10 #[.string (srcS na nb' nc k)] w fun e w'=>e=.returned (.string s)/\Below w.heap.size w w'):=by
 refine⟨⟨(zc7 na nb' nc k).toArray⟩,rfl, ?_, ?_,fun w=>zkp _ _ (zlp hk (src_bl na nb' nc k)) w⟩
 ·have hlc:=yh (nc%M);have hlb:=yh (nb'%M);have hla:=yh (na%M);show(zc7 na nb' nc k).length<=1000;simp only[zc7,tlL,List.length_append,List.length_cons,List.length_nil];omega
 ·show 0<(zc7 na nb' nc k).length;simp only[zc7,tlL,List.length_append,List.length_cons,List.length_nil];omega
abbrev acc0 (r9:Nat) (s:ByteArray):Array Value:=#[.int .u64 (za r9 0),.int .u64 (za r9 1),.int .u64 (za r9 2),.int .u64 (za r9 3),.int .u64 0,.int .u64 0,.int .u64 0,.int .u64 0,.string s,.slice none 0 0]
theorem zkP (w:World) (r9:Nat) (s:ByteArray):AcctAt (w.alloc (.cells (acc0 r9 s) 34)) w.heap.size r9 0 s:=by
 have e:acc0 r9 s=zao r9 0 s:=by
  unfold acc0 zao;rw[zl,zl,zl,zl]
 rw[e];exact World.rowIs_alloc w (zao r9 0 s) 34 (fun i=>(zao r9 0 s).getD i undef) (fun i hi=>by rw[Array.getD_eq_getD_getElem?,Array.getElem?_eq_getElem hi];rfl)
theorem TW.kb {S:List Nat} {w x y:World} {na nb' nc:Nat} (h:TW w na nb' nc x) (hk:Kb S x y) (hn:∀b T N (f:Nat->Value),(T=24\/T=9\/T=5)->x.rowIs b T N f->b∉S):
  zS y w.heap.size na/\zS y (w.heap.size+1) nb'/\zS y (w.heap.size+1+1) nc/\y.rowIs (w.heap.size+1+1+1+1) 5 25 opC:=
 ⟨hk.row h.ra (hn _ _ _ _ (Or.inl rfl) h.ra),hk.row h.rb (hn _ _ _ _ (Or.inl rfl) h.rb),hk.row h.rc (hn _ _ _ _ (Or.inl rfl) h.rc),hk.row h.ro (hn _ _ _ _ (Or.inr (Or.inr rfl)) h.ro)⟩
theorem HostAt.below {gb ab n:Nat} {A:Nat->Acc} {sb:Nat->Value} {x y:World} (h:HostAt gb ab n A sb x) (hb:Below x.heap.size x y):HostAt gb ab n A sb y:=⟨zf h.row hb,h.acc.kb (Kb.of_below (S:=[]) hb) (by simp),h.zr.below hb⟩
theorem zlz {gb ab n:Nat} {A:Nat->Acc} {sb:Nat->Value} {x:World} (h:HostAt gb ab n A sb x) {S2:List Nat} (h2:∀k∈S2,Za ab A sb k):∀b T N (f:Nat->Value),(T=24\/T=9\/T=5)->x.rowIs b T N f->b∉gb::S2:=fun b T N f hT hr hm=>by
 rcases List.mem_cons.1 hm with e|e
 ·refine yF hr h.row ?_ e;rcases hT with rfl|rfl|rfl<;>decide
 ·exact ZC hr (h.acc.isMap (h2 _ e)) rfl
end
section
open Go.Maps
theorem zd0 (s:ByteArray):(yx 9 0 s 9).code=s:=by
 unfold yx;rw[yL rfl]
theorem zmj (s:ByteArray) (m:Nat):(yx 9 0 s m).bal=0:=by
 unfold yx Zd;split<;>rfl
abbrev mT (s:ByteArray):TS:=za4 (T0 (yx 9 0 s)) 0 1 9
theorem mT_ch (s:ByteArray):(mT s).ch.length<1000:=by
 have:(mT s).ch.length=2:=rfl;omega
theorem mT_logs (s:ByteArray) (v:Nat):(yi (mT s) 1 9 1 v).logs=[]:=rfl
abbrev ansS (na nb' nc k:Nat):ByteArray:=⟨(bys (zI (opsL.getD k 0) (na%M) (nb'%M) (nc%M)) 0).toArray⟩
theorem zjP {na nb' nc k r1 r8 r9 gb ab n:Nat} {sb:Nat->Value} {s:ByteArray} (hk:k<25) (hs:bl s=zc7 na nb' nc k) (h1:r1=1) (h8:r8=9) (h9:r9=9) (hs1:s.size<=1000) (hn:n<=2) (w:World) (h:HostAt gb ab n (yx r9 0 s) sb w):
  Calls prog 13 #[.pointer (some ⟨gb,0,none⟩),.agg #[.int .u64 (za r1 0),.int .u64 (za r1 1),.int .u64 (za r1 2),.int .u64 (za r1 3),.int .u64 (za r8 0),.int .u64 (za r8 1),.int .u64 (za r8 2),.int .u64 (za r8 3),.int .u64 0,.int .u64 0,.int .u64 0,.int .u64 0,.string ⟨#[]⟩,.int .i64 10000]] w fun e w'=>∃g:Nat,0<g/\g<10000/\e=.returned (.tuple #[zdo 0 g (ansS na nb' nc k) noL,.int .i64 0])/\∃S2,Kb (gb::S2) w w'/\∀k∈S2,Za ab (yx r9 0 s) sb k:=by
 subst h1 h8 h9;obtain⟨g,hg1,hg2,hc⟩:=zhT (a:=na%M) (b:=nb'%M) (c:=nc%M) (op:=opsL.getD k 0) (s:=s) hs (op_ok hk).1;simp only[Nat.mod_mod] at hc
 have hd:=zjR (rg:=g) (ro:=ansS na nb' nc k) (T':=yi (mT s) 1 9 1 (zI (opsL.getD k 0) (na%M) (nb'%M) (nc%M))) (k:=16) 1 9 0 10000 ⟨#[]⟩ w h (by decide) (by decide) (by rw[zmj];decide) (by rw[zd0];exact hs1) (fun tb jd=>by
  rw[zd0];exact hc tb jd (mT s) (mT_ch s)) (mT_logs s _) (by omega)
 unfold msgV msgC at hd;simp only[zl] at hd;refine hd.mono ?_;rintro e w' ⟨h1,h2,h3⟩;exact⟨g,hg1,hg2,h1,h3⟩
end
section
open Go.Maps
theorem zkQ:Own 14:=fun _ _=>by kernel_rfl
theorem zgS:Own 15:=fun _ _=>by kernel_rfl
theorem ltq25 {i:Nat} (h:i<25):i=0\/i=1\/i=2\/i=3\/i=4\/i=5\/i=6\/i=7\/i=8\/i=9\/i=10\/i=11\/i=12\/i=13\/i=14\/i=15\/i=16\/i=17\/i=18\/i=19\/i=20\/i=21\/i=22\/i=23\/i=24:=by omega
theorem lenq25 {vs:List Value} (h:vs.length=25):∃v0 v1 v2 v3 v4 v5 v6 v7 v8 v9 v10 v11 v12 v13 v14 v15 v16 v17 v18 v19 v20 v21 v22 v23 v24,vs=[v0,v1,v2,v3,v4,v5,v6,v7,v8,v9,v10,v11,v12,v13,v14,v15,v16,v17,v18,v19,v20,v21,v22,v23,v24]:=by
 match vs,h with
 |[v0,v1,v2,v3,v4,v5,v6,v7,v8,v9,v10,v11,v12,v13,v14,v15,v16,v17,v18,v19,v20,v21,v22,v23,v24],_=>exact⟨_,_,_,_,_,_,_,_,_,_,_,_,_,_,_,_,_,_,_,_,_,_,_,_,_,rfl⟩
def Bx16 (w:World) (r:Nat):Kp:=fun p v x=>∃g,v=.pointer (some ⟨g,0,none⟩)/\w.heap.size<=g/\(p<=1->∃f,x.rowIs g 24 4 f)/\(p=2->zS x g r)
def Rl16 (r:Nat):Nat->Act->World->World->Prop:=fun p s x x'=>if p=0 then Below x.heap.size x x' else∃g,s.tmps.getD 16 undef=.pointer (some ⟨g,0,none⟩)/\zS x' g r
theorem zj0 {w x x':World} {r p:Nat} {s:Act} (hp:p<2) (h:Rl16 r p s x x') (ht:Bx16 w r p (s.tmps.getD 16 undef) x):Bx16 w r (p+1) (s.tmps.getD 16 undef) x':=by
 obtain⟨g,e,h1,h2,h3⟩:=ht;unfold Rl16 at h;by_cases h0:p=0
 ·rw[if_pos h0] at h;obtain⟨f,hf⟩:=h2 (by omega);exact⟨g,e,h1,fun _=>⟨f,zf hf h⟩,fun h9=>by omega⟩
 ·rw[if_neg h0] at h;obtain⟨g',e',h'⟩:=h
  have e2:g'=g:=by
   have:=e'.symm.trans e;injection this with this
   injection this with this
   injection this
  subst e2;exact⟨g',e,h1,fun h9=>by omega,fun _=>h'⟩
theorem zhW {w x x':World} {r p:Nat} {v:Value} (hb:Below x.heap.size x x') (ht:Bx16 w r p v x):Bx16 w r p v x':=by
 obtain⟨g,e,h1,h2,h3⟩:=ht;exact⟨g,e,h1,fun h=>(h2 h).elim fun f hf=>⟨f,zf hf hb⟩,fun h=>zf (h3 h) hb⟩
section
variable {ba bb bc bo na nb' nc kk op r:Nat} {s:Act} {x:World} {K:Act->World->Prop} {Q:Exit->Act->World->Prop} {ty1:TypeId} {po1:String} {af1:Array Edge} {gd1:Option (Nat×Bool)}
theorem zfE (e10:s.tmps.getD 10 undef=.slice (some ⟨bo,0,none⟩) 25 25) (hK:K (s.put (some 66) (.slice (some ⟨bo,0,none⟩) 25 25)) x):
  Oper.wp prog ⟨some 66,.move (.tmp 10),ty1,po1,af1,gd1⟩ s x K Q:=by
 have f10:s.eval (.tmp 10)=_:=e10;go_simp;exact hK
theorem zfR (e3:s.tmps.getD 3 undef=.int .i64 (kk:Int)) (hK:K (s.put (some 67) (.int .i64 (kk:Int))) x):
  Oper.wp prog ⟨some 67,.move (.tmp 3),ty1,po1,af1,gd1⟩ s x K Q:=by
 have f3:s.eval (.tmp 3)=_:=e3;go_simp;exact hK
theorem zgR (e66:s.tmps.getD 66 undef=.slice (some ⟨bo,0,none⟩) 25 25) (e67:s.tmps.getD 67 undef=.int .i64 (kk:Int)) (hk0:(kk:Int)<25) (hK:K (s.put (some 68) (.pointer (some ⟨bo,kk,none⟩))) x):
  Oper.wp prog ⟨some 68,.indexAddr 26 (.tmp 66) (.tmp 67),ty1,po1,af1,gd1⟩ s x K Q:=by
 have f66:s.eval (.tmp 66)=_:=e66;have f67:s.eval (.tmp 67)=_:=e67;go_simp;exact hK
theorem zf2 (e68:s.tmps.getD 68 undef=.pointer (some ⟨bo,kk,none⟩)) (k0:x.cell? ⟨bo,kk,none⟩=some (.int .u8 (op:Int))) (hK:K (s.put (some 69) (.int .u8 (op:Int))) x):
  Oper.wp prog ⟨some 69,.load 5 (.tmp 68),ty1,po1,af1,gd1⟩ s x K Q:=by
 have f68:s.eval (.tmp 68)=_:=e68;go_simp;exact hK
theorem zg8 (e4:s.tmps.getD 4 undef=.pointer (some ⟨ba,0,none⟩)) (y0:x.cell? ⟨ba,0,none⟩=some (.int .u64 (za na 0))) (y1:x.cell? ⟨ba,1,none⟩=some (.int .u64 (za na 1))) (y2:x.cell? ⟨ba,2,none⟩=some (.int .u64 (za na 2))) (y3:x.cell? ⟨ba,3,none⟩=some (.int .u64 (za na 3))) (hK:K (s.put (some 70) (.agg #[.int .u64 (za na 0),.int .u64 (za na 1),.int .u64 (za na 2),.int .u64 (za na 3)])) x):
  Oper.wp prog ⟨some 70,.load 24 (.tmp 4),ty1,po1,af1,gd1⟩ s x K Q:=by
 have f4:s.eval (.tmp 4)=_:=e4;go_simp;exact hK
theorem zfP (e5:s.tmps.getD 5 undef=.pointer (some ⟨bb,0,none⟩)) (y0:x.cell? ⟨bb,0,none⟩=some (.int .u64 (za nb' 0))) (y1:x.cell? ⟨bb,1,none⟩=some (.int .u64 (za nb' 1))) (y2:x.cell? ⟨bb,2,none⟩=some (.int .u64 (za nb' 2))) (y3:x.cell? ⟨bb,3,none⟩=some (.int .u64 (za nb' 3))) (hK:K (s.put (some 71) (.agg #[.int .u64 (za nb' 0),.int .u64 (za nb' 1),.int .u64 (za nb' 2),.int .u64 (za nb' 3)])) x):
  Oper.wp prog ⟨some 71,.load 24 (.tmp 5),ty1,po1,af1,gd1⟩ s x K Q:=by
 have f5:s.eval (.tmp 5)=_:=e5;go_simp;exact hK
theorem zgE (e6:s.tmps.getD 6 undef=.pointer (some ⟨bc,0,none⟩)) (y0:x.cell? ⟨bc,0,none⟩=some (.int .u64 (za nc 0))) (y1:x.cell? ⟨bc,1,none⟩=some (.int .u64 (za nc 1))) (y2:x.cell? ⟨bc,2,none⟩=some (.int .u64 (za nc 2))) (y3:x.cell? ⟨bc,3,none⟩=some (.int .u64 (za nc 3))) (hK:K (s.put (some 72) (.agg #[.int .u64 (za nc 0),.int .u64 (za nc 1),.int .u64 (za nc 2),.int .u64 (za nc 3)])) x):
  Oper.wp prog ⟨some 72,.load 24 (.tmp 6),ty1,po1,af1,gd1⟩ s x K Q:=by
 have f6:s.eval (.tmp 6)=_:=e6;go_simp;exact hK
theorem zlK {ba bb bc bo na nb' nc kk op r:Nat} {Q:Exit->Act->World->Prop} (a:Act) (w:World) (ra:zS w ba na) (rb:zS w bb nb') (rc:zS w bc nc) (hk25:kk<25) (hbo:bo<w.heap.size) (hop:w.cell? ⟨bo,kk,none⟩=some (.int .u8 (op:Int))) (hcl:∀x,Calls prog 14 #[.int .u8 (op:Int),wv na,wv nb',wv nc] x (Ret x r)) (h0:Below w.heap.size w w.drew) (hsz:decide (73<a.tmps.size)=true) (c3:a.tmps.getD 3 undef=.int .i64 (kk:Int)) (c4:a.tmps.getD 4 undef=.pointer (some ⟨ba,0,none⟩)) (c5:a.tmps.getD 5 undef=.pointer (some ⟨bb,0,none⟩)) (c6:a.tmps.getD 6 undef=.pointer (some ⟨bc,0,none⟩)) (c10:a.tmps.getD 10 undef=.slice (some ⟨bo,0,none⟩) 25 25)
  (hok:∀(x:World) (z8:Value),(PhT w) 2 x->(Bx16 w r) 2 z8 x->Q .normal (zL a [(66,.slice (some ⟨bo,0,none⟩) 25 25),(67,.int .i64 (kk:Int)),(68,.pointer (some ⟨bo,kk,none⟩)),(69,.int .u8 (op:Int)),(70,.agg #[.int .u64 (za na 0),.int .u64 (za na 1),.int .u64 (za na 2),.int .u64 (za na 3)]),(71,.agg #[.int .u64 (za nb' 0),.int .u64 (za nb' 1),.int .u64 (za nb' 2),.int .u64 (za nb' 3)]),(72,.agg #[.int .u64 (za nc 0),.int .u64 (za nc 1),.int .u64 (za nc 2),.int .u64 (za nc 3)]),(73,wv r),(16,z8)]) x):
  (Code.region 12 #[⟨some 66,.move (.tmp 10),26,"keeps.go:127",#[],none⟩,⟨some 67,.move (.tmp 3),3,"keeps.go:127",#[],none⟩,⟨some 68,.indexAddr 26 (.tmp 66) (.tmp 67),0,"keeps.go:127",#[⟨0,.data⟩,⟨1,.data⟩],none⟩,⟨some 69,.load 5 (.tmp 68),5,"keeps.go:127",#[⟨2,.data⟩],none⟩,⟨some 70,.load 24 (.tmp 4),24,"keeps.go:127",#[],none⟩,⟨some 71,.load 24 (.tmp 5),24,"keeps.go:127",#[],none⟩,⟨some 72,.load 24 (.tmp 6),24,"keeps.go:127",#[],none⟩,⟨some 73,.call ⟨.value (.func 14),#[.tmp 69,.tmp 70,.tmp 71,.tmp 72],#[5,24,24,24]⟩,24,"keeps.go:127",#[⟨3,.data⟩,⟨4,.data⟩,⟨5,.data⟩,⟨6,.data⟩],none⟩,⟨some 16,.alloc 24,0,"keeps.go:127",#[],none⟩,⟨none,.store 24 (.tmp 16) (.tmp 73),0,"keeps.go:127",#[⟨8,.data⟩,⟨7,.data⟩,⟨7,.chain⟩,⟨0,.phase⟩,⟨1,.phase⟩,⟨2,.phase⟩,⟨3,.phase⟩,⟨4,.phase⟩,⟨5,.phase⟩,⟨6,.phase⟩,⟨7,.phase⟩,⟨8,.phase⟩],none⟩] true).wp prog Q a w:=by
 have hsz:=of_decide_eq_true hsz;refine zbe (fun x x'=>Below x.heap.size x x') (by kernel_rfl) (by kernel_rfl) (PhT w) (Rl16 r) [(some 66,Cp (.slice (some ⟨bo,0,none⟩) 25 25)),(some 67,Cp (.int .i64 (kk:Int))),(some 68,Cp (.pointer (some ⟨bo,kk,none⟩))),(some 69,Cp (.int .u8 (op:Int))),(some 70,Cp (.agg #[.int .u64 (za na 0),.int .u64 (za na 1),.int .u64 (za na 2),.int .u64 (za na 3)])),(some 71,Cp (.agg #[.int .u64 (za nb' 0),.int .u64 (za nb' 1),.int .u64 (za nb' 2),.int .u64 (za nb' 3)])),(some 72,Cp (.agg #[.int .u64 (za nc 0),.int .u64 (za nc 1),.int .u64 (za nc 2),.int .u64 (za nc 3)])),(some 73,Cp (wv r)),(some 16,Bx16 w r),(none,fun _ _ _=>True)] [7,9] rfl (by rfl) ?_ ?_ [(3,.int .i64 (kk:Int)),(4,.pointer (some ⟨ba,0,none⟩)),(5,.pointer (some ⟨bb,0,none⟩)),(6,.pointer (some ⟨bc,0,none⟩)),(10,.slice (some ⟨bo,0,none⟩) 25 25)] ?_ (by rfl) (by kernel_rfl) (by rfl) (by rfl) ?_ ?_ ?_ ?_ ?_
 ·refine List.all_eq_true.2 fun d hd=>decide_eq_true ?_
  have hd2:d∈([66,67,68,69,70,71,72,73,16]:List Nat):=hd;simp at hd2;omega
 ·exact h0
 ·intro p hp;simp only[List.mem_cons,List.not_mem_nil,or_false] at hp;rcases hp with rfl|rfl|rfl|rfl|rfl
  ·exact c3
  ·exact c4
  ·exact c5
  ·exact c6
  ·exact c10
 ·intro j d T hj p s x x' hne hpl hph hrel ht;have hjl:j<10:=(List.getElem?_eq_some_iff.1 hj).1;rcases ltq10 hjl with rfl|rfl|rfl|rfl|rfl|rfl|rfl|rfl|rfl|rfl
  ·obtain⟨rfl,rfl⟩:=pk hj;exact ht
  ·obtain⟨rfl,rfl⟩:=pk hj;exact ht
  ·obtain⟨rfl,rfl⟩:=pk hj;exact ht
  ·obtain⟨rfl,rfl⟩:=pk hj;exact ht
  ·obtain⟨rfl,rfl⟩:=pk hj;exact ht
  ·obtain⟨rfl,rfl⟩:=pk hj;exact ht
  ·obtain⟨rfl,rfl⟩:=pk hj;exact ht
  ·obtain⟨rfl,rfl⟩:=pk hj;exact ht
  ·obtain⟨rfl,rfl⟩:=pk hj;exact zj0 hpl hrel ht
  ·obtain⟨rfl,rfl⟩:=pk hj;exact ht
 ·intro j d T hj p v x x' hph hbe ht;have hjl:j<10:=(List.getElem?_eq_some_iff.1 hj).1;rcases ltq10 hjl with rfl|rfl|rfl|rfl|rfl|rfl|rfl|rfl|rfl|rfl
  ·obtain⟨rfl,rfl⟩:=pk hj;exact ht
  ·obtain⟨rfl,rfl⟩:=pk hj;exact ht
  ·obtain⟨rfl,rfl⟩:=pk hj;exact ht
  ·obtain⟨rfl,rfl⟩:=pk hj;exact ht
  ·obtain⟨rfl,rfl⟩:=pk hj;exact ht
  ·obtain⟨rfl,rfl⟩:=pk hj;exact ht
  ·obtain⟨rfl,rfl⟩:=pk hj;exact ht
  ·obtain⟨rfl,rfl⟩:=pk hj;exact ht
  ·obtain⟨rfl,rfl⟩:=pk hj;exact zhW hbe ht
  ·obtain⟨rfl,rfl⟩:=pk hj;exact ht
 ·intro i o d T ho ht hic k s x hk hlo hhi hph hdf hb hdep;have hi:i<10:=(Array.getElem?_eq_some_iff.1 ho).1;rcases ltq10 hi with rfl|rfl|rfl|rfl|rfl|rfl|rfl|rfl|rfl|rfl
  ·obtain rfl:=sj ho;obtain⟨rfl,rfl⟩:=pk ht;refine⟨zg rfl,fun K hK=> ?_⟩;exact zfE (hb (10,.slice (some ⟨bo,0,none⟩) 25 25) (List.Mem.tail _ (List.Mem.tail _ (List.Mem.tail _ (List.Mem.tail _ (List.Mem.head _)))))) (hK _ x hph (Below.refl _ _) nn1 rfl)
  ·obtain rfl:=sj ho;obtain⟨rfl,rfl⟩:=pk ht;refine⟨zg rfl,fun K hK=> ?_⟩;exact zfR (hb (3,.int .i64 (kk:Int)) (List.Mem.head _)) (hK _ x hph (Below.refl _ _) nn1 rfl)
  ·obtain rfl:=sj ho;obtain⟨rfl,rfl⟩:=pk ht;refine⟨zg rfl,fun K hK=> ?_⟩;have hk0:(kk:Int)<25:=by omega
   exact zgR (hdep ⟨0,.data⟩ (by simp) rfl _ _ rfl) (hdep ⟨1,.data⟩ (by simp) rfl _ _ rfl) hk0 (hK _ x hph (Below.refl _ _) nn1 rfl)
  ·obtain rfl:=sj ho;obtain⟨rfl,rfl⟩:=pk ht;refine⟨zg rfl,fun K hK=> ?_⟩;have k0:=((show Below w.heap.size w x from hph).cell hbo).trans hop;exact zf2 (hdep ⟨2,.data⟩ (by simp) rfl _ _ rfl) k0 (hK _ x hph (Below.refl _ _) nn1 rfl)
  ·obtain rfl:=sj ho;obtain⟨rfl,rfl⟩:=pk ht;refine⟨zg rfl,fun K hK=> ?_⟩;obtain⟨y0,y1,y2,y3⟩:=zb (zf ra (show Below w.heap.size w x from hph));exact zg8 (hb (4,.pointer (some ⟨ba,0,none⟩)) (List.Mem.tail _ (List.Mem.head _))) y0 y1 y2 y3 (hK _ x hph (Below.refl _ _) nn1 rfl)
  ·obtain rfl:=sj ho;obtain⟨rfl,rfl⟩:=pk ht;refine⟨zg rfl,fun K hK=> ?_⟩;obtain⟨y0,y1,y2,y3⟩:=zb (zf rb (show Below w.heap.size w x from hph));exact zfP (hb (5,.pointer (some ⟨bb,0,none⟩)) (List.Mem.tail _ (List.Mem.tail _ (List.Mem.head _)))) y0 y1 y2 y3 (hK _ x hph (Below.refl _ _) nn1 rfl)
  ·obtain rfl:=sj ho;obtain⟨rfl,rfl⟩:=pk ht;refine⟨zg rfl,fun K hK=> ?_⟩;obtain⟨y0,y1,y2,y3⟩:=zb (zf rc (show Below w.heap.size w x from hph));exact zgE (hb (6,.pointer (some ⟨bc,0,none⟩)) (List.Mem.tail _ (List.Mem.tail _ (List.Mem.tail _ (List.Mem.head _))))) y0 y1 y2 y3 (hK _ x hph (Below.refl _ _) nn1 rfl)
  ·exact absurd (by simp) hic
  ·obtain rfl:=sj ho;obtain⟨rfl,rfl⟩:=pk ht;refine⟨zg rfl,fun K hK=> ?_⟩;have hph:Below w.heap.size w x:=hph;have hk1:=hhi 1 9 rfl (by kernel_rfl);exact zbu (hK _ (x.alloc zw) (show PhT w _ _ from bal hph _) (bal (Below.refl _ _) _) nn1 ⟨x.heap.size,rfl,hph.size,fun _=>⟨_,zh (fun _=>0) rfl rfl rfl rfl rfl⟩,fun h=>by omega⟩)
  ·exact absurd (by simp) hic
 ·intro p i o d T hp ho ht s x hph hdf hb hdep;have hpl:p<2:=(List.getElem?_eq_some_iff.1 hp).1;rcases ltq2 hpl with rfl|rfl
  ·obtain rfl:=sj hp;obtain rfl:=sj ho;obtain⟨rfl,rfl⟩:=pk ht;refine⟨zg rfl,fun K hK=> ?_⟩;have hph:Below w.heap.size w x:=hph;refine zN zkQ (ev4 (hdep ⟨3,.data⟩ (by simp) rfl _ _ rfl) (hdep ⟨4,.data⟩ (by simp) rfl _ _ rfl) (hdep ⟨5,.data⟩ (by simp) rfl _ _ rfl) (hdep ⟨6,.data⟩ (by simp) rfl _ _ rfl)) (hcl x) ?_;rintro e y ⟨r0,HR,rfl,hB⟩;exact⟨_,rfl,hK _ y (show PhT w _ y from hph.trans (hB.mono hph.size)) hB nn1 (congrArg wv HR.out)⟩
  ·obtain rfl:=sj hp;obtain rfl:=sj ho;obtain⟨rfl,rfl⟩:=pk ht;refine⟨zg rfl,fun K hK=> ?_⟩;have hph:Below w.heap.size w x:=hph;have h16:=(hdep ⟨8,.data⟩ (by simp) rfl _ _ rfl);obtain⟨g,e16,hg,hz0,_⟩:=h16;obtain⟨f,hf⟩:=hz0 (Nat.le_refl _);refine zbi (n:=r) e16 (hdep ⟨7,.data⟩ (by simp) rfl _ _ rfl) hf fun x' h1 h2=>hK undef x' ?_ ⟨g,e16,h1⟩ (fun _=>rfl) trivial
   rw[h2];exact(((((Kb.of_below (S:=[]) hph).setCell (Or.inr hg) _).setCell (Or.inr hg) _).setCell (Or.inr hg) _).setCell (Or.inr hg) _).to_below
 ·intro vs x hph hl hT;obtain⟨v0,v1,v2,v3,v4,v5,v6,v7,v8,v9,rfl⟩:=lenq10 hl;obtain rfl:v0=.slice (some ⟨bo,0,none⟩) 25 25:=hT 0 _ _ rfl;obtain rfl:v1=.int .i64 (kk:Int):=hT 1 _ _ rfl;obtain rfl:v2=.pointer (some ⟨bo,kk,none⟩):=hT 2 _ _ rfl;obtain rfl:v3=.int .u8 (op:Int):=hT 3 _ _ rfl;obtain rfl:v4=.agg #[.int .u64 (za na 0),.int .u64 (za na 1),.int .u64 (za na 2),.int .u64 (za na 3)]:=hT 4 _ _ rfl;obtain rfl:v5=.agg #[.int .u64 (za nb' 0),.int .u64 (za nb' 1),.int .u64 (za nb' 2),.int .u64 (za nb' 3)]:=hT 5 _ _ rfl;obtain rfl:v6=.agg #[.int .u64 (za nc 0),.int .u64 (za nc 1),.int .u64 (za nc 2),.int .u64 (za nc 3)]:=hT 6 _ _ rfl;obtain rfl:v7=wv r:=hT 7 _ _ rfl;have t8:(Bx16 w r) 2 v8 x:=hT 8 _ _ rfl;exact hok x v8 hph t8
end
section
variable {br bg r g:Nat} {ans:ByteArray} {s:Act} {x:World} {K:Act->World->Prop} {Q:Exit->Act->World->Prop} {ty1:TypeId} {po1:String} {af1:Array Edge} {gd1:Option (Nat×Bool)}
theorem zf1 (e15:s.tmps.getD 15 undef=.int .i64 0) (hK:K (s.put (some 74) (.int .i64 0)) x):
  Oper.wp prog ⟨some 74,.move (.tmp 15),ty1,po1,af1,gd1⟩ s x K Q:=by
 have f15:s.eval (.tmp 15)=_:=e15;go_simp;exact hK
theorem zfN (e74:s.tmps.getD 74 undef=.int .i64 0) (hK:K (s.put (some 75) (.bool true)) x):
  Oper.wp prog ⟨some 75,.binOp .eql 39 (.tmp 74) (.const (.int .i64 0)) 39,ty1,po1,af1,gd1⟩ s x K Q:=by
 have f74:s.eval (.tmp 74)=_:=e74;go_simp;exact hK
theorem zgA (e75:s.tmps.getD 75 undef=.bool true) (hK:K (s.put (some 76) (.bool true)) x):
  Oper.wp prog ⟨some 76,.move (.tmp 75),ty1,po1,af1,gd1⟩ s x K Q:=by
 have f75:s.eval (.tmp 75)=_:=e75;go_simp;exact hK
theorem zhc (e14:s.tmps.getD 14 undef=.pointer (some ⟨br,0,none⟩)) (hK:K (s.put (some 77) (.pointer (some ⟨br,0,none⟩))) x):
  Oper.wp prog ⟨some 77,.fieldAddr 38 (.tmp 14) 0,ty1,po1,af1,gd1⟩ s x K Q:=by
 have f14:s.eval (.tmp 14)=_:=e14;go_simp;exact hK
theorem zgg (e77:s.tmps.getD 77 undef=.pointer (some ⟨br,0,none⟩)) (k0:x.cell? ⟨br,0,none⟩=some (.int .u8 0)) (hK:K (s.put (some 78) (.int .u8 0)) x):
  Oper.wp prog ⟨some 78,.load 5 (.tmp 77),ty1,po1,af1,gd1⟩ s x K Q:=by
 have f77:s.eval (.tmp 77)=_:=e77;go_simp;exact hK
theorem zhl (e78:s.tmps.getD 78 undef=.int .u8 0) (hK:K (s.put (some 79) (.bool true)) x):
  Oper.wp prog ⟨some 79,.binOp .eql 5 (.tmp 78) (.const (.int .u8 0)) 5,ty1,po1,af1,gd1⟩ s x K Q:=by
 have f78:s.eval (.tmp 78)=_:=e78;go_simp;exact hK
theorem zgn (e76:s.tmps.getD 76 undef=.bool true) (e79:s.tmps.getD 79 undef=.bool true) (hK:K (s.put (some 80) (.bool true)) x):
  Oper.wp prog ⟨some 80,.pick (.tmp 76) (.tmp 79) (.const (.bool false)),ty1,po1,af1,gd1⟩ s x K Q:=by
 have f76:s.eval (.tmp 76)=_:=e76;have f79:s.eval (.tmp 79)=_:=e79;go_simp;exact hK
theorem zga (e80:s.tmps.getD 80 undef=.bool true) (hK:K (s.put (some 81) (.bool true)) x):
  Oper.wp prog ⟨some 81,.move (.tmp 80),ty1,po1,af1,gd1⟩ s x K Q:=by
 have f80:s.eval (.tmp 80)=_:=e80;go_simp;exact hK
theorem zgj (e14:s.tmps.getD 14 undef=.pointer (some ⟨br,0,none⟩)) (hK:K (s.put (some 82) (.pointer (some ⟨br,2,none⟩))) x):
  Oper.wp prog ⟨some 82,.fieldAddr 38 (.tmp 14) 2,ty1,po1,af1,gd1⟩ s x K Q:=by
 have f14:s.eval (.tmp 14)=_:=e14;go_simp;exact hK
theorem zgN (e82:s.tmps.getD 82 undef=.pointer (some ⟨br,2,none⟩)) (k0:x.cell? ⟨br,2,none⟩=some (.string ans)) (hK:K (s.put (some 83) (.string ans)) x):
  Oper.wp prog ⟨some 83,.load 9 (.tmp 82),ty1,po1,af1,gd1⟩ s x K Q:=by
 have f82:s.eval (.tmp 82)=_:=e82;go_simp;exact hK
theorem zei (e16:s.tmps.getD 16 undef=.pointer (some ⟨bg,0,none⟩)) (y0:x.cell? ⟨bg,0,none⟩=some (.int .u64 (za r 0))) (y1:x.cell? ⟨bg,1,none⟩=some (.int .u64 (za r 1))) (y2:x.cell? ⟨bg,2,none⟩=some (.int .u64 (za r 2))) (y3:x.cell? ⟨bg,3,none⟩=some (.int .u64 (za r 3))) (hK:K (s.put (some 84) (.agg #[.int .u64 (za r 0),.int .u64 (za r 1),.int .u64 (za r 2),.int .u64 (za r 3)])) x):
  Oper.wp prog ⟨some 84,.load 24 (.tmp 16),ty1,po1,af1,gd1⟩ s x K Q:=by
 have f16:s.eval (.tmp 16)=_:=e16;go_simp;exact hK
theorem ze4 (e83:s.tmps.getD 83 undef=.string ans) (e85:s.tmps.getD 85 undef=.string ans) (hK:K (s.put (some 86) (.bool true)) x):
  Oper.wp prog ⟨some 86,.binOp .eql 9 (.tmp 83) (.tmp 85) 9,ty1,po1,af1,gd1⟩ s x K Q:=by
 have f83:s.eval (.tmp 83)=_:=e83;have f85:s.eval (.tmp 85)=_:=e85;go_simp;exact hK
theorem zeD (e81:s.tmps.getD 81 undef=.bool true) (e86:s.tmps.getD 86 undef=.bool true) (hK:K (s.put (some 87) (.bool true)) x):
  Oper.wp prog ⟨some 87,.pick (.tmp 81) (.tmp 86) (.const (.bool false)),ty1,po1,af1,gd1⟩ s x K Q:=by
 have f81:s.eval (.tmp 81)=_:=e81;have f86:s.eval (.tmp 86)=_:=e86;go_simp;exact hK
theorem zey (e87:s.tmps.getD 87 undef=.bool true) (hK:K (s.put (some 88) (.bool true)) x):
  Oper.wp prog ⟨some 88,.move (.tmp 87),ty1,po1,af1,gd1⟩ s x K Q:=by
 have f87:s.eval (.tmp 87)=_:=e87;go_simp;exact hK
theorem zeH (e14:s.tmps.getD 14 undef=.pointer (some ⟨br,0,none⟩)) (hK:K (s.put (some 89) (.pointer (some ⟨br,1,none⟩))) x):
  Oper.wp prog ⟨some 89,.fieldAddr 38 (.tmp 14) 1,ty1,po1,af1,gd1⟩ s x K Q:=by
 have f14:s.eval (.tmp 14)=_:=e14;go_simp;exact hK
theorem ze3 (e89:s.tmps.getD 89 undef=.pointer (some ⟨br,1,none⟩)) (k0:x.cell? ⟨br,1,none⟩=some (.int .i64 (g:Int))) (hK:K (s.put (some 90) (.int .i64 (g:Int))) x):
  Oper.wp prog ⟨some 90,.load 3 (.tmp 89),ty1,po1,af1,gd1⟩ s x K Q:=by
 have f89:s.eval (.tmp 89)=_:=e89;go_simp;exact hK
theorem zed (e90:s.tmps.getD 90 undef=.int .i64 (g:Int)) (g0:0<g) (hK:K (s.put (some 91) (.bool true)) x):
  Oper.wp prog ⟨some 91,.binOp .gtr 3 (.tmp 90) (.const (.int .i64 0)) 3,ty1,po1,af1,gd1⟩ s x K Q:=by
 have f90:s.eval (.tmp 90)=_:=e90;go_simp;exact hK
theorem zen (e88:s.tmps.getD 88 undef=.bool true) (e91:s.tmps.getD 91 undef=.bool true) (hK:K (s.put (some 92) (.bool true)) x):
  Oper.wp prog ⟨some 92,.pick (.tmp 88) (.tmp 91) (.const (.bool false)),ty1,po1,af1,gd1⟩ s x K Q:=by
 have f88:s.eval (.tmp 88)=_:=e88;have f91:s.eval (.tmp 91)=_:=e91;go_simp;exact hK
theorem zfx (e92:s.tmps.getD 92 undef=.bool true) (hK:K (s.put (some 93) (.bool true)) x):
  Oper.wp prog ⟨some 93,.move (.tmp 92),ty1,po1,af1,gd1⟩ s x K Q:=by
 have f92:s.eval (.tmp 92)=_:=e92;go_simp;exact hK
theorem zeX (e14:s.tmps.getD 14 undef=.pointer (some ⟨br,0,none⟩)) (hK:K (s.put (some 94) (.pointer (some ⟨br,1,none⟩))) x):
  Oper.wp prog ⟨some 94,.fieldAddr 38 (.tmp 14) 1,ty1,po1,af1,gd1⟩ s x K Q:=by
 have f14:s.eval (.tmp 14)=_:=e14;go_simp;exact hK
theorem zem (e94:s.tmps.getD 94 undef=.pointer (some ⟨br,1,none⟩)) (k0:x.cell? ⟨br,1,none⟩=some (.int .i64 (g:Int))) (hK:K (s.put (some 95) (.int .i64 (g:Int))) x):
  Oper.wp prog ⟨some 95,.load 3 (.tmp 94),ty1,po1,af1,gd1⟩ s x K Q:=by
 have f94:s.eval (.tmp 94)=_:=e94;go_simp;exact hK
theorem ze9 (e95:s.tmps.getD 95 undef=.int .i64 (g:Int)) (g0:(g:Int)<10000) (hK:K (s.put (some 96) (.bool true)) x):
  Oper.wp prog ⟨some 96,.binOp .lss 3 (.tmp 95) (.const (.int .i64 10000)) 3,ty1,po1,af1,gd1⟩ s x K Q:=by
 have f95:s.eval (.tmp 95)=_:=e95;go_simp;exact hK
theorem zeh (e93:s.tmps.getD 93 undef=.bool true) (e96:s.tmps.getD 96 undef=.bool true) (hK:K (s.put (some 97) (.bool true)) x):
  Oper.wp prog ⟨some 97,.pick (.tmp 93) (.tmp 96) (.const (.bool false)),ty1,po1,af1,gd1⟩ s x K Q:=by
 have f93:s.eval (.tmp 93)=_:=e93;have f96:s.eval (.tmp 96)=_:=e96;go_simp;exact hK
theorem zew (e97:s.tmps.getD 97 undef=.bool true) (hK:K (s.put (some 8) (.bool true)) x):
  Oper.wp prog ⟨some 8,.assign (.tmp 97),ty1,po1,af1,gd1⟩ s x K Q:=by
 have f97:s.eval (.tmp 97)=_:=e97;go_simp;exact hK
theorem zl0 {br bg r g:Nat} {ans:ByteArray} {Q:Exit->Act->World->Prop} (a:Act) (w:World) (hbr:br<w.heap.size) (h_0:w.cell? ⟨br,0,none⟩=some (.int .u8 0)) (h_1:w.cell? ⟨br,1,none⟩=some (.int .i64 (g:Int))) (h_2:w.cell? ⟨br,2,none⟩=some (.string ans)) (rr:zS w bg r) (hg1:0<g) (hg2:g<10000) (hans:(⟨(bys r 0).toArray⟩:ByteArray)=ans) (h0:Below w.heap.size w w.drew) (hsz:decide (97<a.tmps.size)=true) (c14:a.tmps.getD 14 undef=.pointer (some ⟨br,0,none⟩)) (c15:a.tmps.getD 15 undef=.int .i64 0) (c16:a.tmps.getD 16 undef=.pointer (some ⟨bg,0,none⟩))
  (hok:∀(x:World),(PhT w) 1 x->Q .normal (zL a [(74,.int .i64 0),(75,.bool true),(76,.bool true),(77,.pointer (some ⟨br,0,none⟩)),(78,.int .u8 0),(79,.bool true),(80,.bool true),(81,.bool true),(82,.pointer (some ⟨br,2,none⟩)),(83,.string ans),(84,.agg #[.int .u64 (za r 0),.int .u64 (za r 1),.int .u64 (za r 2),.int .u64 (za r 3)]),(85,.string ans),(86,.bool true),(87,.bool true),(88,.bool true),(89,.pointer (some ⟨br,1,none⟩)),(90,.int .i64 (g:Int)),(91,.bool true),(92,.bool true),(93,.bool true),(94,.pointer (some ⟨br,1,none⟩)),(95,.int .i64 (g:Int)),(96,.bool true),(97,.bool true),(8,.bool true)]) x):
  (Code.region 13 #[⟨some 74,.move (.tmp 15),39,"keeps.go:128",#[],none⟩,⟨some 75,.binOp .eql 39 (.tmp 74) (.const (.int .i64 0)) 39,4,"keeps.go:128",#[⟨0,.data⟩],none⟩,⟨some 76,.move (.tmp 75),4,"keeps.go:128",#[⟨1,.data⟩],none⟩,⟨some 77,.fieldAddr 38 (.tmp 14) 0,0,"keeps.go:128",#[⟨2,.guard⟩],some (2,true)⟩,⟨some 78,.load 5 (.tmp 77),5,"keeps.go:128",#[⟨3,.data⟩,⟨2,.guard⟩],some (2,true)⟩,⟨some 79,.binOp .eql 5 (.tmp 78) (.const (.int .u8 0)) 5,4,"keeps.go:128",#[⟨4,.data⟩,⟨2,.guard⟩],some (2,true)⟩,⟨some 80,.pick (.tmp 76) (.tmp 79) (.const (.bool false)),4,"keeps.go:128",#[⟨2,.data⟩,⟨5,.data⟩],none⟩,⟨some 81,.move (.tmp 80),4,"keeps.go:128",#[⟨6,.data⟩,⟨2,.chain⟩],none⟩,⟨some 82,.fieldAddr 38 (.tmp 14) 2,0,"keeps.go:128",#[⟨7,.guard⟩],some (7,true)⟩,⟨some 83,.load 9 (.tmp 82),9,"keeps.go:128",#[⟨8,.data⟩,⟨7,.guard⟩],some (7,true)⟩,⟨some 84,.load 24 (.tmp 16),24,"keeps.go:128",#[⟨7,.guard⟩],some (7,true)⟩,⟨some 85,.call ⟨.value (.func 15),#[.tmp 84],#[24]⟩,9,"keeps.go:128",#[⟨10,.data⟩,⟨7,.chain⟩,⟨7,.guard⟩],some (7,true)⟩,⟨some 86,.binOp .eql 9 (.tmp 83) (.tmp 85) 9,4,"keeps.go:128",#[⟨9,.data⟩,⟨11,.data⟩,⟨7,.guard⟩],some (7,true)⟩,⟨some 87,.pick (.tmp 81) (.tmp 86) (.const (.bool false)),4,"keeps.go:128",#[⟨7,.data⟩,⟨12,.data⟩],none⟩,⟨some 88,.move (.tmp 87),4,"keeps.go:128",#[⟨13,.data⟩,⟨11,.chain⟩],none⟩,⟨some 89,.fieldAddr 38 (.tmp 14) 1,0,"keeps.go:128",#[⟨14,.guard⟩],some (14,true)⟩,⟨some 90,.load 3 (.tmp 89),3,"keeps.go:128",#[⟨15,.data⟩,⟨14,.guard⟩],some (14,true)⟩,⟨some 91,.binOp .gtr 3 (.tmp 90) (.const (.int .i64 0)) 3,4,"keeps.go:128",#[⟨16,.data⟩,⟨14,.guard⟩],some (14,true)⟩,⟨some 92,.pick (.tmp 88) (.tmp 91) (.const (.bool false)),4,"keeps.go:128",#[⟨14,.data⟩,⟨17,.data⟩],none⟩,⟨some 93,.move (.tmp 92),4,"keeps.go:128",#[⟨18,.data⟩,⟨14,.chain⟩],none⟩,⟨some 94,.fieldAddr 38 (.tmp 14) 1,0,"keeps.go:128",#[⟨19,.guard⟩],some (19,true)⟩,⟨some 95,.load 3 (.tmp 94),3,"keeps.go:128",#[⟨20,.data⟩,⟨19,.guard⟩],some (19,true)⟩,⟨some 96,.binOp .lss 3 (.tmp 95) (.const (.int .i64 10000)) 3,4,"keeps.go:128",#[⟨21,.data⟩,⟨19,.guard⟩],some (19,true)⟩,⟨some 97,.pick (.tmp 93) (.tmp 96) (.const (.bool false)),4,"keeps.go:128",#[⟨19,.data⟩,⟨22,.data⟩],none⟩,⟨some 8,.assign (.tmp 97),4,"keeps.go:128",#[⟨23,.data⟩,⟨19,.chain⟩,⟨0,.phase⟩,⟨1,.phase⟩,⟨2,.phase⟩,⟨3,.phase⟩,⟨4,.phase⟩,⟨5,.phase⟩,⟨6,.phase⟩,⟨7,.phase⟩,⟨8,.phase⟩,⟨9,.phase⟩,⟨10,.phase⟩,⟨11,.phase⟩,⟨12,.phase⟩,⟨13,.phase⟩,⟨14,.phase⟩,⟨15,.phase⟩,⟨16,.phase⟩,⟨17,.phase⟩,⟨18,.phase⟩,⟨19,.phase⟩,⟨20,.phase⟩,⟨21,.phase⟩,⟨22,.phase⟩,⟨23,.phase⟩],none⟩] true).wp prog Q a w:=by
 have hsz:=of_decide_eq_true hsz;refine Yt (by kernel_rfl) (by kernel_rfl) (PhT w) (fun _ _ _=>True) [(some 74,Cp (.int .i64 0)),(some 75,Cp (.bool true)),(some 76,Cp (.bool true)),(some 77,Cp (.pointer (some ⟨br,0,none⟩))),(some 78,Cp (.int .u8 0)),(some 79,Cp (.bool true)),(some 80,Cp (.bool true)),(some 81,Cp (.bool true)),(some 82,Cp (.pointer (some ⟨br,2,none⟩))),(some 83,Cp (.string ans)),(some 84,Cp (.agg #[.int .u64 (za r 0),.int .u64 (za r 1),.int .u64 (za r 2),.int .u64 (za r 3)])),(some 85,Cp (.string ans)),(some 86,Cp (.bool true)),(some 87,Cp (.bool true)),(some 88,Cp (.bool true)),(some 89,Cp (.pointer (some ⟨br,1,none⟩))),(some 90,Cp (.int .i64 (g:Int))),(some 91,Cp (.bool true)),(some 92,Cp (.bool true)),(some 93,Cp (.bool true)),(some 94,Cp (.pointer (some ⟨br,1,none⟩))),(some 95,Cp (.int .i64 (g:Int))),(some 96,Cp (.bool true)),(some 97,Cp (.bool true)),(some 8,Cp (.bool true))] [11] rfl (by rfl) ?_ ?_ [(14,.pointer (some ⟨br,0,none⟩)),(15,.int .i64 0),(16,.pointer (some ⟨bg,0,none⟩))] ?_ (by rfl) (by kernel_rfl) (by rfl) (by rfl) ?_ ?_ ?_ ?_
 ·refine List.all_eq_true.2 fun d hd=>decide_eq_true ?_
  have hd2:d∈([74,75,76,77,78,79,80,81,82,83,84,85,86,87,88,89,90,91,92,93,94,95,96,97,8]:List Nat):=hd;simp at hd2;omega
 ·exact h0
 ·intro p hp;simp only[List.mem_cons,List.not_mem_nil,or_false] at hp;rcases hp with rfl|rfl|rfl
  ·exact c14
  ·exact c15
  ·exact c16
 ·intro j d T hj p v x x' hne hpl hph hrel ht;have hjl:j<25:=(List.getElem?_eq_some_iff.1 hj).1;rcases ltq25 hjl with rfl|rfl|rfl|rfl|rfl|rfl|rfl|rfl|rfl|rfl|rfl|rfl|rfl|rfl|rfl|rfl|rfl|rfl|rfl|rfl|rfl|rfl|rfl|rfl|rfl
  ·obtain⟨rfl,rfl⟩:=pk hj;exact ht
  ·obtain⟨rfl,rfl⟩:=pk hj;exact ht
  ·obtain⟨rfl,rfl⟩:=pk hj;exact ht
  ·obtain⟨rfl,rfl⟩:=pk hj;exact ht
  ·obtain⟨rfl,rfl⟩:=pk hj;exact ht
  ·obtain⟨rfl,rfl⟩:=pk hj;exact ht
  ·obtain⟨rfl,rfl⟩:=pk hj;exact ht
  ·obtain⟨rfl,rfl⟩:=pk hj;exact ht
  ·obtain⟨rfl,rfl⟩:=pk hj;exact ht
  ·obtain⟨rfl,rfl⟩:=pk hj;exact ht
  ·obtain⟨rfl,rfl⟩:=pk hj;exact ht
  ·obtain⟨rfl,rfl⟩:=pk hj;exact ht
  ·obtain⟨rfl,rfl⟩:=pk hj;exact ht
  ·obtain⟨rfl,rfl⟩:=pk hj;exact ht
  ·obtain⟨rfl,rfl⟩:=pk hj;exact ht
  ·obtain⟨rfl,rfl⟩:=pk hj;exact ht
  ·obtain⟨rfl,rfl⟩:=pk hj;exact ht
  ·obtain⟨rfl,rfl⟩:=pk hj;exact ht
  ·obtain⟨rfl,rfl⟩:=pk hj;exact ht
  ·obtain⟨rfl,rfl⟩:=pk hj;exact ht
  ·obtain⟨rfl,rfl⟩:=pk hj;exact ht
  ·obtain⟨rfl,rfl⟩:=pk hj;exact ht
  ·obtain⟨rfl,rfl⟩:=pk hj;exact ht
  ·obtain⟨rfl,rfl⟩:=pk hj;exact ht
  ·obtain⟨rfl,rfl⟩:=pk hj;exact ht
 ·intro i o d T ho ht hic k s x hk hlo hhi hph hdf hb hdep;have hi:i<25:=(Array.getElem?_eq_some_iff.1 ho).1;rcases ltq25 hi with rfl|rfl|rfl|rfl|rfl|rfl|rfl|rfl|rfl|rfl|rfl|rfl|rfl|rfl|rfl|rfl|rfl|rfl|rfl|rfl|rfl|rfl|rfl|rfl|rfl
  ·obtain rfl:=sj ho;obtain⟨rfl,rfl⟩:=pk ht;refine⟨zg rfl,fun K hK=> ?_⟩;exact zf1 (hb (15,.int .i64 0) (List.Mem.tail _ (List.Mem.head _))) (hK _ nn1 rfl)
  ·obtain rfl:=sj ho;obtain⟨rfl,rfl⟩:=pk ht;refine⟨zg rfl,fun K hK=> ?_⟩;exact zfN (hdep ⟨0,.data⟩ (by simp) rfl _ _ rfl) (hK _ nn1 rfl)
  ·obtain rfl:=sj ho;obtain⟨rfl,rfl⟩:=pk ht;refine⟨zg rfl,fun K hK=> ?_⟩;exact zgA (hdep ⟨1,.data⟩ (by simp) rfl _ _ rfl) (hK _ nn1 rfl)
  ·obtain rfl:=sj ho;obtain⟨rfl,rfl⟩:=pk ht;refine⟨zV rfl rfl rfl (hdep ⟨2,.guard⟩ (by simp) rfl _ _ rfl),fun K hK=> ?_⟩;exact zhc (hb (14,.pointer (some ⟨br,0,none⟩)) (List.Mem.head _)) (hK _ nn1 rfl)
  ·obtain rfl:=sj ho;obtain⟨rfl,rfl⟩:=pk ht;refine⟨zV rfl rfl rfl (hdep ⟨2,.guard⟩ (by simp) rfl _ _ rfl),fun K hK=> ?_⟩;have k0:=((show Below w.heap.size w x from hph).cell hbr).trans h_0;exact zgg (hdep ⟨3,.data⟩ (by simp) rfl _ _ rfl) k0 (hK _ nn1 rfl)
  ·obtain rfl:=sj ho;obtain⟨rfl,rfl⟩:=pk ht;refine⟨zV rfl rfl rfl (hdep ⟨2,.guard⟩ (by simp) rfl _ _ rfl),fun K hK=> ?_⟩;exact zhl (hdep ⟨4,.data⟩ (by simp) rfl _ _ rfl) (hK _ nn1 rfl)
  ·obtain rfl:=sj ho;obtain⟨rfl,rfl⟩:=pk ht;refine⟨zg rfl,fun K hK=> ?_⟩;exact zgn (hdep ⟨2,.data⟩ (by simp) rfl _ _ rfl) (hdep ⟨5,.data⟩ (by simp) rfl _ _ rfl) (hK _ nn1 rfl)
  ·obtain rfl:=sj ho;obtain⟨rfl,rfl⟩:=pk ht;refine⟨zg rfl,fun K hK=> ?_⟩;exact zga (hdep ⟨6,.data⟩ (by simp) rfl _ _ rfl) (hK _ nn1 rfl)
  ·obtain rfl:=sj ho;obtain⟨rfl,rfl⟩:=pk ht;refine⟨zV rfl rfl rfl (hdep ⟨7,.guard⟩ (by simp) rfl _ _ rfl),fun K hK=> ?_⟩;exact zgj (hb (14,.pointer (some ⟨br,0,none⟩)) (List.Mem.head _)) (hK _ nn1 rfl)
  ·obtain rfl:=sj ho;obtain⟨rfl,rfl⟩:=pk ht;refine⟨zV rfl rfl rfl (hdep ⟨7,.guard⟩ (by simp) rfl _ _ rfl),fun K hK=> ?_⟩;have k0:=((show Below w.heap.size w x from hph).cell hbr).trans h_2;exact zgN (hdep ⟨8,.data⟩ (by simp) rfl _ _ rfl) k0 (hK _ nn1 rfl)
  ·obtain rfl:=sj ho;obtain⟨rfl,rfl⟩:=pk ht;refine⟨zV rfl rfl rfl (hdep ⟨7,.guard⟩ (by simp) rfl _ _ rfl),fun K hK=> ?_⟩;obtain⟨y0,y1,y2,y3⟩:=zb (zf rr (show Below w.heap.size w x from hph));exact zei (hb (16,.pointer (some ⟨bg,0,none⟩)) (List.Mem.tail _ (List.Mem.tail _ (List.Mem.head _)))) y0 y1 y2 y3 (hK _ nn1 rfl)
  ·exact absurd (by simp) hic
  ·obtain rfl:=sj ho;obtain⟨rfl,rfl⟩:=pk ht;refine⟨zV rfl rfl rfl (hdep ⟨7,.guard⟩ (by simp) rfl _ _ rfl),fun K hK=> ?_⟩;exact ze4 (hdep ⟨9,.data⟩ (by simp) rfl _ _ rfl) (hdep ⟨11,.data⟩ (by simp) rfl _ _ rfl) (hK _ nn1 rfl)
  ·obtain rfl:=sj ho;obtain⟨rfl,rfl⟩:=pk ht;refine⟨zg rfl,fun K hK=> ?_⟩;exact zeD (hdep ⟨7,.data⟩ (by simp) rfl _ _ rfl) (hdep ⟨12,.data⟩ (by simp) rfl _ _ rfl) (hK _ nn1 rfl)
  ·obtain rfl:=sj ho;obtain⟨rfl,rfl⟩:=pk ht;refine⟨zg rfl,fun K hK=> ?_⟩;exact zey (hdep ⟨13,.data⟩ (by simp) rfl _ _ rfl) (hK _ nn1 rfl)
  ·obtain rfl:=sj ho;obtain⟨rfl,rfl⟩:=pk ht;refine⟨zV rfl rfl rfl (hdep ⟨14,.guard⟩ (by simp) rfl _ _ rfl),fun K hK=> ?_⟩;exact zeH (hb (14,.pointer (some ⟨br,0,none⟩)) (List.Mem.head _)) (hK _ nn1 rfl)
  ·obtain rfl:=sj ho;obtain⟨rfl,rfl⟩:=pk ht;refine⟨zV rfl rfl rfl (hdep ⟨14,.guard⟩ (by simp) rfl _ _ rfl),fun K hK=> ?_⟩;have k0:=((show Below w.heap.size w x from hph).cell hbr).trans h_1;exact ze3 (hdep ⟨15,.data⟩ (by simp) rfl _ _ rfl) k0 (hK _ nn1 rfl)
  ·obtain rfl:=sj ho;obtain⟨rfl,rfl⟩:=pk ht;refine⟨zV rfl rfl rfl (hdep ⟨14,.guard⟩ (by simp) rfl _ _ rfl),fun K hK=> ?_⟩;have g0:0<g:=hg1;exact zed (hdep ⟨16,.data⟩ (by simp) rfl _ _ rfl) g0 (hK _ nn1 rfl)
  ·obtain rfl:=sj ho;obtain⟨rfl,rfl⟩:=pk ht;refine⟨zg rfl,fun K hK=> ?_⟩;exact zen (hdep ⟨14,.data⟩ (by simp) rfl _ _ rfl) (hdep ⟨17,.data⟩ (by simp) rfl _ _ rfl) (hK _ nn1 rfl)
  ·obtain rfl:=sj ho;obtain⟨rfl,rfl⟩:=pk ht;refine⟨zg rfl,fun K hK=> ?_⟩;exact zfx (hdep ⟨18,.data⟩ (by simp) rfl _ _ rfl) (hK _ nn1 rfl)
  ·obtain rfl:=sj ho;obtain⟨rfl,rfl⟩:=pk ht;refine⟨zV rfl rfl rfl (hdep ⟨19,.guard⟩ (by simp) rfl _ _ rfl),fun K hK=> ?_⟩;exact zeX (hb (14,.pointer (some ⟨br,0,none⟩)) (List.Mem.head _)) (hK _ nn1 rfl)
  ·obtain rfl:=sj ho;obtain⟨rfl,rfl⟩:=pk ht;refine⟨zV rfl rfl rfl (hdep ⟨19,.guard⟩ (by simp) rfl _ _ rfl),fun K hK=> ?_⟩;have k0:=((show Below w.heap.size w x from hph).cell hbr).trans h_1;exact zem (hdep ⟨20,.data⟩ (by simp) rfl _ _ rfl) k0 (hK _ nn1 rfl)
  ·obtain rfl:=sj ho;obtain⟨rfl,rfl⟩:=pk ht;refine⟨zV rfl rfl rfl (hdep ⟨19,.guard⟩ (by simp) rfl _ _ rfl),fun K hK=> ?_⟩;have g0:(g:Int)<10000:=by omega
   exact ze9 (hdep ⟨21,.data⟩ (by simp) rfl _ _ rfl) g0 (hK _ nn1 rfl)
  ·obtain rfl:=sj ho;obtain⟨rfl,rfl⟩:=pk ht;refine⟨zg rfl,fun K hK=> ?_⟩;exact zeh (hdep ⟨19,.data⟩ (by simp) rfl _ _ rfl) (hdep ⟨22,.data⟩ (by simp) rfl _ _ rfl) (hK _ nn1 rfl)
  ·obtain rfl:=sj ho;obtain⟨rfl,rfl⟩:=pk ht;refine⟨zg rfl,fun K hK=> ?_⟩;exact zew (hdep ⟨23,.data⟩ (by simp) rfl _ _ rfl) (hK _ nn1 rfl)
 ·intro p i o d T hp ho ht s x hph hdf hb hdep;have hpl:p<1:=(List.getElem?_eq_some_iff.1 hp).1;obtain rfl:p=0:=by omega
  ·obtain rfl:=sj hp;obtain rfl:=sj ho;obtain⟨rfl,rfl⟩:=pk ht;refine⟨zV rfl rfl rfl (hdep ⟨7,.guard⟩ (by simp) rfl _ _ rfl),fun K hK=> ?_⟩;have hph:Below w.heap.size w x:=hph;refine zN zgS (ev1 (hdep ⟨10,.data⟩ (by simp) rfl _ _ rfl)) (zeQ r x) ?_;rintro e y ⟨rfl,hB⟩;exact⟨_,rfl,hK _ y (show PhT w _ y from hph.trans (hB.mono hph.size)) trivial nn1 (congrArg Value.string hans)⟩
 ·intro vs x hph hl hT;obtain⟨v0,v1,v2,v3,v4,v5,v6,v7,v8,v9,v10,v11,v12,v13,v14,v15,v16,v17,v18,v19,v20,v21,v22,v23,v24,rfl⟩:=lenq25 hl;obtain rfl:v0=.int .i64 0:=hT 0 _ _ rfl;obtain rfl:v1=.bool true:=hT 1 _ _ rfl;obtain rfl:v2=.bool true:=hT 2 _ _ rfl;obtain rfl:v3=.pointer (some ⟨br,0,none⟩):=hT 3 _ _ rfl;obtain rfl:v4=.int .u8 0:=hT 4 _ _ rfl;obtain rfl:v5=.bool true:=hT 5 _ _ rfl;obtain rfl:v6=.bool true:=hT 6 _ _ rfl;obtain rfl:v7=.bool true:=hT 7 _ _ rfl;obtain rfl:v8=.pointer (some ⟨br,2,none⟩):=hT 8 _ _ rfl;obtain rfl:v9=.string ans:=hT 9 _ _ rfl;obtain rfl:v10=.agg #[.int .u64 (za r 0),.int .u64 (za r 1),.int .u64 (za r 2),.int .u64 (za r 3)]:=hT 10 _ _ rfl;obtain rfl:v11=.string ans:=hT 11 _ _ rfl;obtain rfl:v12=.bool true:=hT 12 _ _ rfl;obtain rfl:v13=.bool true:=hT 13 _ _ rfl;obtain rfl:v14=.bool true:=hT 14 _ _ rfl;obtain rfl:v15=.pointer (some ⟨br,1,none⟩):=hT 15 _ _ rfl;obtain rfl:v16=.int .i64 (g:Int):=hT 16 _ _ rfl;obtain rfl:v17=.bool true:=hT 17 _ _ rfl;obtain rfl:v18=.bool true:=hT 18 _ _ rfl;obtain rfl:v19=.bool true:=hT 19 _ _ rfl;obtain rfl:v20=.pointer (some ⟨br,1,none⟩):=hT 20 _ _ rfl;obtain rfl:v21=.int .i64 (g:Int):=hT 21 _ _ rfl;obtain rfl:v22=.bool true:=hT 22 _ _ rfl;obtain rfl:v23=.bool true:=hT 23 _ _ rfl;obtain rfl:v24=.bool true:=hT 24 _ _ rfl;exact hok x hph
end
end
section
open Go.Maps
theorem zll (na nb' nc:Nat) (kk:Int) (hk1: -9223372036854775808<=kk) (hk2:kk<=9223372036854775807) (w:World) (hz:Zr w):Calls prog 3 #[wv na,wv nb',wv nc,.int .i64 kk] w fun e w'=>e=.returned (.bool true)/\Below w.heap.size w w':=by
 have HTW:=ze (tw_mk w na nb' nc);have HZ:=ze hz;clear hz;go_enter func3,ntmps3;go_upto_if 20 with fail
 go_cut [3] from 19 to 23 (fun t3 wx=>∃m:Nat,m<=9223372036854775807/\t3=.int .i64 (m:Int)/\Hid (TW w na nb' nc wx))
 case first=>
  by_cases hlt:kk<0
  ·have hd:decide (kk<0)=true:=decide_eq_true hlt
   have he:IntKind.i64.wrap (-(IntKind.i64.wrap (kk+1)))=(((-(kk+1)).toNat:Nat):Int):=by
    rw[show IntKind.i64.wrap (kk+1)=kk+1 from by unfold IntKind.wrap;simp[IntKind.bits,IntKind.signed];omega];unfold IntKind.wrap;simp[IntKind.bits,IntKind.signed];omega
   go_wp2
   go_meet
   case rel=>exact⟨(-(kk+1)).toNat,by omega,by rw[Int.toNat_of_nonneg (by omega)],HTW.out⟩
  ·have hd:decide (kk<0)=false:=decide_eq_false hlt;go_wp2
   go_meet
   case rel=>exact⟨kk.toNat,by omega,by rw[Int.toNat_of_nonneg (by omega)],HTW.out⟩
 case rest=>
  obtain⟨m,hm,rfl,HX⟩:=hcut;go_wp2_with fail
  obtain⟨k,hk,hk25⟩:∃k:Nat,((m:Int)%25)=(k:Int)/\k<25:=⟨m%25,by omega,by omega⟩;rw[hk];clear hk hm hk1 hk2 HTW;refine told_r6 (kk:=k) (nm:=⟨(nmsL.getD k []).toArray⟩) _ wc HX.out.ra HX.out.rb HX.out.rc hk25 (zlH hk25) HX.out.rn.lt (HX.out.rn.cell hk25) (Below.refl _ _).drew rfl rfl rfl rfl rfl rfl ?_;intro x hx;have hx:Below wc.heap.size wc x:=hx;have HT:=ze (HX.out.below hx);have HZ2:=ze (HZ.out.below HT.out.be);clear HX HZ hx;obtain⟨s,HSB,hs1,hs2,HSC⟩:=code_of na nb' nc hk25 x;unfold srcS at HSC;generalize(((((((zi nc++⟨#[32]⟩)++zi nb')++⟨#[9]⟩)++zi na)++⟨#[32,59,32,119,111,114,100,115,10]⟩)++⟨(nmsL.getD k []).toArray⟩)++⟨#[32,64,103,114,195,182,195,159,101,32,74,85,77,80,32,83,84,79,80,32,103,114,195,182,195,159,101,58,32,49,32,83,83,84,79,82,69,10,49,32,83,76,79,65,68,32,48,32,77,83,84,79,82,69,32,51,50,32,48,32,82,69,84,85,82,78]⟩)=src at HSC⊢;generalize Value.agg #[.int .u64 (za nc 0),.int .u64 (za nc 1),.int .u64 (za nc 2),.int .u64 (za nc 3)]=x28;generalize Value.agg #[.int .u64 (za nb' 0),.int .u64 (za nb' 1),.int .u64 (za nb' 2),.int .u64 (za nb' 3)]=x31;generalize Value.agg #[.int .u64 (za na 0),.int .u64 (za na 1),.int .u64 (za na 2),.int .u64 (za na 3)]=x35;generalize Value.string (zi nc)=x29;generalize Value.string (zi nb')=x32;generalize Value.string (zi na)=x36;generalize Value.string (zi nc++⟨#[32]⟩)=x30;generalize Value.string ((zi nc++⟨#[32]⟩)++zi nb')=x33;generalize Value.string (((zi nc++⟨#[32]⟩)++zi nb')++⟨#[9]⟩)=x34;generalize Value.string ((((zi nc++⟨#[32]⟩)++zi nb')++⟨#[9]⟩)++zi na)=x37;generalize Value.string (((((zi nc++⟨#[32]⟩)++zi nb')++⟨#[9]⟩)++zi na)++⟨#[32,59,32,119,111,114,100,115,10]⟩)=x38;generalize Value.string ⟨(nmsL.getD k []).toArray⟩=x42;generalize Value.string ((((((zi nc++⟨#[32]⟩)++zi nb')++⟨#[9]⟩)++zi na)++⟨#[32,59,32,119,111,114,100,115,10]⟩)++⟨(nmsL.getD k []).toArray⟩)=x43;simp only[zL,List.foldl_cons,List.foldl_nil,Act.put];simp only[sx9];go_wp2_with fail
  refine(HSC.out _).mono ?_;rintro e w1 ⟨rfl,hb1⟩;have HT1:=ze (HT.out.below hb1);have HZ1:=ze (HZ2.out.below hb1);clear HT HZ2 HSC hb1;go_wp2_with fail
  refine(zaF 9 (by decide) _).mono ?_;rintro e w2 ⟨r9,H9,rfl,hb2⟩;have HT2:=ze (HT1.out.below hb2);have HZ2:=ze (HZ1.out.below hb2);clear HT1 HZ1 hb2;go_wp2_with fail
  refine(zmG w2.heap.size r9 0 s hs1 _ (zkP w2 r9 s) (HZ2.out.below (bal (Below.refl _ _) _))).mono ?_;rintro e w3 ⟨gb,ab,n,sb,rfl,hn,hh,hb3,hf3⟩;have hw2:w.heap.size<=(w2.alloc (.cells (acc0 r9 s) 34)).heap.size:=(bal HT2.out.be _).size;have HF:Hid (w.heap.size<=gb/\∀k,Za ab (yx r9 0 s) sb k->w.heap.size<=k):=⟨Nat.le_trans hw2 hf3.1,fun k hk=>Nat.le_trans hw2 (hf3.2 k hk)⟩;clear hf3 hw2;have HT3:=ze ((HT2.out.below (bal (Below.refl _ _) _)).below hb3);have HH:=ze hh;clear HT2 HZ2 hb3 hh;have he1:s.toList.isEmpty=false:=emp_f (by rintro rfl;exact absurd hs2 (by decide))
  have he2:¬s.toList=[]:=by
   intro h;rw[h] at he1;cases he1
  go_wp2_with fail
  clear he1 he2;refine(zaF 1 (by decide) _).mono ?_;rintro e w4 ⟨r1,H1,rfl,hb4⟩;have HT4:=ze (HT3.out.below hb4);have HH4:=ze (HH.out.below hb4);clear HT3 HH hb4;go_wp2_with fail
  refine(zaF 9 (by decide) _).mono ?_;rintro e w5 ⟨r8,H8,rfl,hb5⟩;have HT5:=ze (HT4.out.below hb5);have HH5:=ze (HH4.out.below hb5);clear HT4 HH4 hb5;go_wp2_with fail
  refine(zjP hk25 HSB.out H1.out H8.out H9.out hs1 hn w5 HH5.out).mono ?_;rintro e w6 ⟨g,hg1,hg2,rfl,S2,hkb,hS2⟩;have HR:=ze (HT5.out.kb hkb (zlz HH5.out hS2))
  have HB6:Hid (Below w.heap.size w w6):=(((Kb.of_below (S:=[]) HT5.out.be).trans hkb (fun i hi=>by
   rcases List.mem_cons.1 hi with e|e
   ·exact Or.inr (by rw[e];exact HF.out.1)
   ·exact Or.inr (HF.out.2 i (hS2 i e)))):Kb [] w w6).to_below
  clear HF;generalize hans:ansS na nb' nc k=ans;have HANS:=ze hans;clear hans hkb hS2 HT5 HH5 HSB hs1 hs2 H1 H8 H9 hn;have HG:=ze (And.intro hg1 hg2);clear hg1 hg2;go_wp2_with fail
  have hB6:Below w6.heap.size w6 (w6.alloc (.cells #[.int .u8 0,.int .i64 (g:Int),.string ans,.slice none 0 0] 38)):=bal (Below.refl _ _) _;obtain⟨ra,rb,rc,ro⟩:=HR.out;have ro6:=zf ro hB6;refine zlK (kk:=k) (op:=opsL.getD k 0) (r:=zI (opsL.getD k 0) (na%M) (nb'%M) (nc%M)) _ _ (zf ra hB6) (zf rb hB6) (zf rc hB6) hk25 ro6.lt (ro6.cell hk25) (fun x=>zjY _ (op_ok hk25).2 (op_err hk25) na nb' nc x) (Below.refl _ _).drew rfl rfl rfl rfl rfl rfl ?_;clear ra rb rc ro ro6 hB6;rintro x7 z8 hx7 ⟨bg,rfl, -, -,hrow⟩;have rr:=hrow rfl;have hx7:Below (w6.alloc (.cells #[.int .u8 0,.int .i64 (g:Int),.string ans,.slice none 0 0] 38)).heap.size (w6.alloc (.cells #[.int .u8 0,.int .i64 (g:Int),.string ans,.slice none 0 0] 38)) x7:=hx7;have hl6:w6.heap.size<(w6.alloc (.cells #[.int .u8 0,.int .i64 (g:Int),.string ans,.slice none 0 0] 38)).heap.size:=by simp
  have q0:x7.cell? ⟨w6.heap.size,0,none⟩=some (.int .u8 0):=(hx7.cell hl6).trans (by simp[go_sem]);have q1:x7.cell? ⟨w6.heap.size,1,none⟩=some (.int .i64 (g:Int)):=(hx7.cell hl6).trans (by simp[go_sem]);have q2:x7.cell? ⟨w6.heap.size,2,none⟩=some (.string ans):=(hx7.cell hl6).trans (by simp[go_sem]);have HB7:=ze ((bal HB6.out (.cells #[.int .u8 0,.int .i64 (g:Int),.string ans,.slice none 0 0] 38)).trans (hx7.mono (bal HB6.out (.cells #[.int .u8 0,.int .i64 (g:Int),.string ans,.slice none 0 0] 38)).size));clear HB6;have HQ:=ze (And.intro (Nat.lt_of_lt_of_le hl6 hx7.size) (And.intro q0 (And.intro q1 (And.intro q2 rr))));clear q0 q1 q2 rr hl6 hx7 hrow;have HANS2:Hid ((⟨(bys (zI (opsL.getD k 0) (na%M) (nb'%M) (nc%M)) 0).toArray⟩:ByteArray)=ans):=HANS.out;clear HANS;generalize zI (opsL.getD k 0) (na%M) (nb'%M) (nc%M)=r at*;simp only[zL,List.foldl_cons,List.foldl_nil,Act.put];simp only[sx9];go_wp2_with fail
  obtain⟨hbr,q0,q1,q2,rr⟩:=HQ.out;refine zl0 (br:=w6.heap.size) (bg:=bg) (r:=r) (g:=g) (ans:=ans) _ x7 hbr q0 q1 q2 rr HG.out.1 HG.out.2 HANS2.out (Below.refl _ _).drew rfl rfl rfl rfl ?_;intro y hy;have hy:Below x7.heap.size x7 y:=hy;have HB8:=ze (HB7.out.trans (hy.mono HB7.out.size));clear hy hbr q0 q1 q2 rr;simp only[zL,List.foldl_cons,List.foldl_nil,Act.put];simp only[sx9];go_wp2;go_ret;exact⟨rfl,HB8.out⟩
end
section
open Go.ChangeShapes Go.WideShapes Go.ChangeAt Go.RowKit
theorem own:ownKnob prog.godebug=none:=by kernel_rfl
theorem zeR:laidOutB prog=true:=by kernel_rfl
theorem zcN:prog.cellsOf 24=4:=by kernel_rfl
theorem zcm:prog.cellsOf 22=1:=by kernel_rfl
theorem list4 {α:Type} (l:List α) (h:(⟨l⟩:Array α).size=4):∃a b c d,l=[a,b,c,d]:=by
 match l,h with
 |[a,b,c,d],_=>exact⟨a,b,c,d,rfl⟩
theorem zif (x0 x1 x2 x3:Nat) (h0:x0<18446744073709551616) (h1:x1<18446744073709551616) (h2:x2<18446744073709551616) (h3:x3<18446744073709551616):
  ∃n,wv n=.agg #[.int .u64 (x0:Int),.int .u64 (x1:Int),.int .u64 (x2:Int),.int .u64 (x3:Int)]:=by
 refine⟨x0+18446744073709551616*(x1+18446744073709551616*(x2+18446744073709551616*x3)), ?_⟩;have e0:za (x0+18446744073709551616*(x1+18446744073709551616*(x2+18446744073709551616*x3))) 0=(x0:Int):=by unfold za;rw[pw0];omega
 have e1:za (x0+18446744073709551616*(x1+18446744073709551616*(x2+18446744073709551616*x3))) 1=(x1:Int):=by unfold za;rw[pw1];omega
 have e2:za (x0+18446744073709551616*(x1+18446744073709551616*(x2+18446744073709551616*x3))) 2=(x2:Int):=by unfold za;rw[pw2];omega
 have e3:za (x0+18446744073709551616*(x1+18446744073709551616*(x2+18446744073709551616*x3))) 3=(x3:Int):=by unfold za;rw[pw3];omega
 unfold wv;rw[e0,e1,e2,e3]
theorem zb5 {x:Int} (h:(Lit.int .u64 x).wf=true):∃n:Nat,x=(n:Int)/\n<18446744073709551616:=by
 have hb:=bounds_u64 h;exact⟨x.toNat,by omega,by omega⟩
theorem zbt {H:Type} {enc:TypeId×Value->H} {W:World} {base:Nat} {sp:Nat->Bool} {held:Bool} {v:Value} {d:DataW H} {p:List MemPlace} {b0:Nat} (hv:Value.okWide prog W .any base 24 v)
  (h:DataW.Trod enc prog W b0 sp held 24 v d p):∃n,v=wv n:=by
 obtain⟨cs,rfl,hsz,_⟩:∃cs,v=.agg cs/\cs.size=prog.cellsOf 24/\Row.okWide prog W .any base 24 cs:=by
  simpa[Value.okWide,underlying24] using hv
 rw[zcN] at hsz;obtain⟨l⟩:=cs;obtain⟨c0,c1,c2,c3,rfl⟩:=list4 l hsz;obtain⟨fuel,hf⟩:=h;obtain⟨y0,y1,y2,y3,m,hx,hy0,hy1,hy2,hy3⟩:=trod_array4 underlying24 zcm hf;obtain⟨x0,e0,rfl,w0⟩:=DataW.trod_int underlying22 hy0;obtain⟨x1,e1,rfl,w1⟩:=DataW.trod_int underlying22 hy1;obtain⟨x2,e2,rfl,w2⟩:=DataW.trod_int underlying22 hy2;obtain⟨x3,e3,rfl,w3⟩:=DataW.trod_int underlying22 hy3;simp at e0 e1 e2 e3;subst e0 e1 e2 e3;obtain⟨n0,rfl,l0⟩:=zb5 w0;obtain⟨n1,rfl,l1⟩:=zb5 w1;obtain⟨n2,rfl,l2⟩:=zb5 w2;obtain⟨n3,rfl,l3⟩:=zb5 w3;obtain⟨n,hn⟩:=zif n0 n1 n2 n3 l0 l1 l2 l3;exact⟨n,hn.symm⟩
end
end cin
end Go.Proofs.YtohoajjdoihekaaGreatDoor
