import Derived.Test.YtohoajjdoihekaaGreatDoorNum5
import Derived.OrdersHeld
import Derived.Maps.OwnSet
import Derived.Maps.OwnOps
import Derived.DeepKeys4
import Derived.Lib.OthersKept
set_option linter.unusedVariables false
set_option linter.unusedSimpArgs false
namespace Go.Proofs.YtohoajjdoihekaaGreatDoor
namespace cin
open Go.RowKit Go.Proofs.Tryz Tryz
set_option maxRecDepth 100000
set_option maxHeartbeats 8000000
def Ret (w:World) (n:Nat) (e:Ending) (w':World):Prop:=∃r:Nat,Hid (r=n)/\e=.returned (wv r)/\Below w.heap.size w w'
theorem zK {w w':World} {n r:Nat} (h:r%M=n%M) (hb:Below w.heap.size w w'):Ret w n (.returned (wv r)) w':=
 ⟨n,rfl,congrArg Ending.returned (yA h),hb⟩
theorem zbb:Value.agg #[.int .u64 0,.int .u64 0,.int .u64 0,.int .u64 0]=wv 0:=by unfold wv;simp only[zl]
theorem wv_one:Value.agg #[.int .u64 1,.int .u64 0,.int .u64 0,.int .u64 0]=wv 1:=zcZ 1 (by omega)
theorem zc8 (a b:Nat) (w:World):
  Calls prog 161 #[wv a,wv b] w fun e w'=>∃p:Nat,Hid (p=Z7 a b)/\e=.returned (wv8 p)/\Below w.heap.size w w':=
 (zgx a b w).mono fun _ _ h=>⟨_,rfl,h.1,h.2⟩
theorem zaS (a j:Nat) (ha:a<M) (hj:4<=j):za a j=0:=by
 rw[zO];unfold zy;rw[Nat.div_eq_of_lt]
 ·rfl
 ·refine Nat.lt_of_lt_of_le ha ?_;show 2^256<=_;exact Nat.pow_le_pow_right (by omega) (by omega)
theorem zkw (a:Nat) (ha:a<M):Value.agg #[.int .u64 (za a 0),.int .u64 (za a 1),.int .u64 (za a 2),.int .u64 (za a 3),.int .u64 0,.int .u64 0,.int .u64 0,.int .u64 0]=wv8 a:=by
 unfold wv8;rw[zaS a 4 ha (by omega),zaS a 5 ha (by omega),zaS a 6 ha (by omega),zaS a 7 ha (by omega)]
theorem ziG (a:Nat) (w:World):
  Calls prog 165 #[wv a] w fun e w'=>∃r:Nat,Hid (r=a%M)/\e=.returned (wv8 r)/\Below w.heap.size w w':=by
 rw[<-zaH a];refine(zd1 _ _ _ _ w).mono ?_;rintro e w' ⟨rfl,hb⟩;exact⟨_,rfl,congrArg Ending.returned (zkw _ (Nat.mod_lt _ Z4)),hb⟩
theorem zaf (a b:Nat) (ha:a<2^(64*8)) (w:World):
  Calls prog 164 #[wv8 a,wv b] w fun e w'=>∃q r:Nat,Hid (q=a/(b%M))/\Hid (r=YC a (b%M))/\e=.returned (.tuple #[wv8 q,wv r])/\Below w.heap.size w w':=by
 rw[<-zaH b];have hb:=Nat.mod_lt b Z4;generalize b%M=b at*;by_cases h0:b=0
 ·subst h0;refine(zg5 a 0 (zlo rfl) w).mono ?_;rintro e w' ⟨rfl,hb⟩;exact⟨0,0,by show _=_;rw[Nat.div_zero],rfl,rfl,hb⟩
 ·refine(zhN a b ha hb h0 w).mono ?_;rintro e w' ⟨rfl,hb⟩;exact⟨_,_,rfl,by show _=_;unfold YC;rw[if_neg h0],rfl,hb⟩
theorem low_w (p:Nat) (w:World):
  Calls prog 162 #[wv8 p] w fun e w'=>e=.returned (wv p)/\Below w.heap.size w w':=low_any _ _ _ _ _ _ _ _ w
theorem za3 (n:Nat) (h:256<=n):M<=2^n:=by rw[zi0];exact Nat.pow_le_pow_right (by omega) h
theorem lt_pow (a n:Nat) (h:256<=n):a%M<2^n:=Nat.lt_of_lt_of_le (Nat.mod_lt _ Z4) (za3 n h)
theorem lt512 (a:Nat):a%M<2^(64*8):=by have h:=lt_pow a (64*8) (by omega);exact h
theorem sub_rel (a b:Nat):zaj a b%M=zds a (b%M)%M:=by
 unfold zaj zds;rw[Nat.mod_mod,Nat.add_sub_assoc (Nat.le_of_lt (Nat.mod_lt _ Z4))]
theorem neg_rel (a:Nat):zds 0 (a%M)%M=zeu (a%M)%M:=by
 unfold zds zeu;rw[Nat.zero_add]
theorem Zf (a:Nat):neg (a%M)=neg a:=by unfold neg;rw[Nat.mod_mod]
theorem mul_rel (a b:Nat):Z7 a b%M=zby a b%M:=by
 unfold Z7 zby;rw[Nat.mod_mod,<-Nat.mul_mod]
theorem add_any (a b:Nat) (w:World):Calls prog 97 #[wv a,wv b] w (Ret w (fadd a b)):=by
 go_enter func97,ntmps97;go_wp2_with fail
 refine(YJ a b _).mono ?_;rintro e w1 ⟨s,c,HS,HC,rfl,hb⟩;have hrz:=zf (zh (n:=w.heap.size+1+1) (fun _=>0) (by simp) rfl rfl rfl rfl) hb;have hbel:=zD (bal (bal (bal (Below.refl _ _) _) _) _) hb;have z:=hrz.lt;have z':=hbel.size;obtain⟨x0,x1,x2,x3⟩:=zb hrz;have fz:=hrz.frozen;clear hb;go_wp2;obtain⟨q0,q1,q2,q3⟩:=zb (zm hrz (za s) rfl rfl rfl rfl);refine bodyPost_ret (v:=wv s) (by simp[results,results97,go_sem,q0,q1,q2,q3,z]) rfl (zK (by rw[HS.out];unfold fadd;rw[Nat.mod_mod]) ?_);exact bal (zn hbel (by omega) _ _ _ _) _
theorem ziH (a b:Nat) (w:World):Calls prog 99 #[wv a,wv b] w (Ret w (zds a (b%M))):=by
 go_enter func99,ntmps99;go_wp2_with fail
 refine(zaP a b _).mono ?_;rintro e w1 ⟨s,c,HS,HC,rfl,hb⟩;have hrz:=zf (zh (n:=w.heap.size+1+1) (fun _=>0) (by simp) rfl rfl rfl rfl) hb;have hbel:=zD (bal (bal (bal (Below.refl _ _) _) _) _) hb;have z:=hrz.lt;have z':=hbel.size;obtain⟨x0,x1,x2,x3⟩:=zb hrz;have fz:=hrz.frozen;clear hb;go_wp2;obtain⟨q0,q1,q2,q3⟩:=zb (zm hrz (za s) rfl rfl rfl rfl);refine bodyPost_ret (v:=wv s) (by simp[results,results99,go_sem,q0,q1,q2,q3,z]) rfl (zK (by rw[HS.out];exact sub_rel a b) ?_);exact bal (zn hbel (by omega) _ _ _ _) _
theorem Yo (a:Nat) (w:World):Calls prog 168 #[wv a] w (Ret w (zeu (a%M))):=by
 go_enter func168,ntmps168;go_wp2_with fail
 rw[zbb];refine(ziH 0 a _).mono ?_;rintro e w1 ⟨s,HS,rfl,hb⟩;have hrz:=zf (zh (n:=w.heap.size+1) (fun _=>0) (by simp) rfl rfl rfl rfl) hb;have hbel:=zD (bal (bal (Below.refl _ _) _) _) hb;have z:=hrz.lt;have z':=hbel.size;obtain⟨x0,x1,x2,x3⟩:=zb hrz;have fz:=hrz.frozen;clear hb;go_wp2;obtain⟨q0,q1,q2,q3⟩:=zb (zm hrz (za s) rfl rfl rfl rfl);refine bodyPost_ret (v:=wv s) (by simp[results,results168,go_sem,q0,q1,q2,q3,z]) rfl (zK (by rw[HS.out];exact neg_rel a) ?_);exact zn hbel (by omega) _ _ _ _
theorem yn (a:Nat) (w:World):Calls prog 166 #[wv a] w (Ret w (ZL (a%M))):=by
 go_enter func166,ntmps166;go_wp2_with fail
 refine(Yj a _).mono ?_;rintro e w1 ⟨rfl,hb⟩;have hra:=zf (zh (n:=w.heap.size) (za a) rfl rfl rfl rfl rfl |>.alloc _) hb;have hrz:=zf (zh (n:=w.heap.size+1) (fun _=>0) (by simp) rfl rfl rfl rfl) hb;have hbel:=zD (bal (bal (Below.refl _ _) _) _) hb;have z:=hrz.lt;have z':=hbel.size;obtain⟨x0,x1,x2,x3⟩:=zb hrz;have fz:=hrz.frozen;clear hb;obtain⟨y0,y1,y2,y3⟩:=zb hra;cases hn:neg a
 ·have HN:Hid (neg a=false):=hn;go_wp2;obtain⟨q0,q1,q2,q3⟩:=zb (zm hrz (za a) rfl rfl rfl rfl);refine bodyPost_ret (v:=wv a) (by simp[results,results166,go_sem,q0,q1,q2,q3,z]) rfl (zK (by unfold ZL;rw[Zf,HN.out,if_neg (by decide),Nat.mod_mod]) ?_);exact zn hbel (by omega) _ _ _ _
 ·have HN:Hid (neg a=true):=hn;go_wp2_with fail
  refine(Yo a _).mono ?_;rintro e w2 ⟨s,HS,rfl,hb⟩;replace hrz:=zf hrz hb;replace hbel:=zD hbel hb;replace z:=hrz.lt;replace z':=hbel.size;clear x0 x1 x2 x3 fz hb;obtain⟨x0,x1,x2,x3⟩:=zb hrz;have fz:=hrz.frozen;go_wp2;obtain⟨q0,q1,q2,q3⟩:=zb (zm hrz (za s) rfl rfl rfl rfl);refine bodyPost_ret (v:=wv s) (by simp[results,results166,go_sem,q0,q1,q2,q3,z]) rfl (zK (by rw[HS.out];unfold ZL;rw[Zf,HN.out,if_pos rfl]) ?_);exact zn hbel (by omega) _ _ _ _
theorem zeS (a b:Nat) (w:World):Calls prog 98 #[wv a,wv b] w (Ret w (zby a b)):=by
 go_enter func98,ntmps98;go_wp2_with fail
 refine(zc8 a b _).mono ?_;rintro e w1 ⟨p,HP,rfl,hb⟩;have hrz:=zf (zh (n:=w.heap.size+1+1) (fun _=>0) (by simp) rfl rfl rfl rfl) hb;have hbel:=zD (bal (bal (bal (Below.refl _ _) _) _) _) hb;have z:=hrz.lt;have z':=hbel.size;obtain⟨x0,x1,x2,x3⟩:=zb hrz;have fz:=hrz.frozen;clear hb;go_wp2_with fail
 refine(low_w p _).mono ?_;rintro e w2 ⟨rfl,hb⟩;replace hrz:=zf hrz hb;replace hbel:=zD hbel hb;replace z:=hrz.lt;replace z':=hbel.size;clear x0 x1 x2 x3 fz hb;obtain⟨x0,x1,x2,x3⟩:=zb hrz;have fz:=hrz.frozen;go_wp2;obtain⟨q0,q1,q2,q3⟩:=zb (zm hrz (za p) rfl rfl rfl rfl);refine bodyPost_ret (v:=wv p) (by simp[results,results98,go_sem,q0,q1,q2,q3,z]) rfl (zK (by rw[HP.out];exact mul_rel a b) ?_);exact zn hbel (by omega) _ _ _ _
def cmpI (x y:Int):Int:=if x<y then -1 else if y<x then 1 else 0
theorem zf8 (x y:Int) (w:World):Calls prog 59 #[.int .u64 x,.int .u64 y] w fun e w'=>e=.returned (.int .i64 (cmpI x y))/\w'=w:=by
 have d0:(x !=x)=false:=by simp
 have d1:(y !=y)=false:=by simp
 unfold cmpI;by_cases h1:x<y
 ·have d2:decide (x<y)=true:=decide_eq_true h1;rw[if_pos h1];go_enter func59,ntmps59;go_wp2;go_ret;exact⟨rfl,rfl⟩
 ·have d2:decide (x<y)=false:=decide_eq_false h1;rw[if_neg h1];by_cases h2:y<x
  ·have d3:decide (y<x)=true:=decide_eq_true h2;rw[if_pos h2];go_enter func59,ntmps59;go_wp2;go_ret;exact⟨rfl,rfl⟩
  ·have d3:decide (y<x)=false:=decide_eq_false h2;rw[if_neg h2];go_enter func59,ntmps59;go_wp2;go_ret;exact⟨rfl,rfl⟩
def zaT (a b:Nat):Int:=if a%M<b%M then -1 else if b%M<a%M then 1 else 0
theorem zdE (a b i:Nat) (hi:i<4) (he:∀j,i<j->j<4->za a j=za b j) (hn:za a i≠za b i\/i=0):cmpI (za a i) (za b i)=zaT a b:=by
 have e1:=he 1;have e2:=he 2;have e3:=he 3;clear he;unfold cmpI zaT M;unfold za at*;simp only[pw0,pw1,pw2,pw3] at*;rcases k4 hi with rfl|rfl|rfl|rfl
 ·have e1:=e1 (by omega) (by omega);have e2:=e2 (by omega) (by omega);have e3:=e3 (by omega) (by omega);simp only[pw0,pw1,pw2,pw3] at*;split<;>split<;>(try split)<;>(try split)<;>omega
 ·have e2:=e2 (by omega) (by omega);have e3:=e3 (by omega) (by omega);simp only[pw0,pw1,pw2,pw3] at*;split<;>split<;>(try split)<;>(try split)<;>omega
 ·have e3:=e3 (by omega) (by omega);simp only[pw0,pw1,pw2,pw3] at*;split<;>split<;>(try split)<;>(try split)<;>omega
 ·simp only[pw0,pw1,pw2,pw3] at*;split<;>split<;>(try split)<;>(try split)<;>omega
theorem YO (a b:Nat) (w:World):Calls prog 33 #[wv a,wv b] w fun e w'=>e=.returned (.int .i64 (zaT a b))/\Below w.heap.size w w':=by
 go_enter func33,ntmps33;go_wp2
 go_loopw [5] (fun t5 wr=>∃k:Nat,k<=3/\t5=.int .i64 k/\Hid (∀j,k<j->j<4->za a j=za b j)/\
   wr.rowIs w.heap.size 24 4 (zj (za a))/\wr.rowIs (w.heap.size+1) 24 4 (zj (za b))/\Below w.heap.size w wr)
   (fun t5 _=>(intOf t5).toNat)
 case atStart=>
  refine⟨3,by omega,rfl,fun j h1 h2=>by omega, ?_, ?_,bal (bal (Below.refl _ _) _) _⟩
  ·exact(zh _ rfl rfl rfl rfl rfl).alloc _
  ·exact zh (za b) (by simp) rfl rfl rfl rfl
 case round=>
  obtain⟨k,hk,rfl,HE,hra,hrb,hbel⟩:=hrel;have c0:=hra.cell (i:=0) (by omega);have d0:=hrb.cell (i:=0) (by omega);have c1:=hra.cell (i:=k) (by omega);have c2:=hrb.cell (i:=k) (by omega);simp only[zj] at c0 d0 c1 c2;by_cases hlt:0<k
  ·have t1:decide ((0:Int)<(k:Int))=true:=decide_eq_true (by omega);by_cases hne:za a k=za b k
   ·have t2:(za a k !=za b k)=false:=by simp[hne]
    have HN:Hid (∀j,k - 1<j->j<4->za a j=za b j):=fun j h1 h2=>by
     by_cases e:j=k
     ·rw[e];exact hne
     ·exact HE.out j (by omega) h2
    clear hne;go_wp2
    go_region
    all_goals go_wp2
    all_goals go_roundw
    case rel=>exact⟨k - 1,by omega,by go_num,HN,hra.drew,hrb.drew,hbel.drew⟩
    case measure=>simp[intOf];omega
   ·have t2:(za a k !=za b k)=true:=by simp[hne]
    have HR:Hid (cmpI (za a k) (za b k)=zaT a b):=zdE a b k (by omega) HE.out (Or.inl hne);clear hne;go_wp2
    go_region
    all_goals go_wp2
    all_goals go_region_with (go_at_call 59;refine(zf8 _ _ _).mono ?_;rintro e w1 ⟨rfl,rfl⟩)
    all_goals go_wp2
    all_goals go_ret
    all_goals exact⟨congrArg (fun z=>Ending.returned (Value.int .i64 z)) HR.out,by repeat' (first|exact hbel|refine Below.drew ?_)⟩
  ·obtain rfl:k=0:=by omega
   have HR:Hid (cmpI (za a 0) (za b 0)=zaT a b):=zdE a b 0 (by omega) HE.out (Or.inr rfl);go_wp2_with (go_at_call 59;refine(zf8 _ _ _).mono ?_;rintro e w1 ⟨rfl,rfl⟩)
   go_ret;exact⟨congrArg (fun z=>Ending.returned (Value.int .i64 z)) HR.out,by repeat' (first|exact hbel|refine Below.drew ?_)⟩
section
theorem zbz {p p':Nat->Bool} (h:∀j,p' j=true->p j=true):∀(l:List Nat) (i:Nat),i∈l->p i=true->p' i=false->l.countP p'<l.countP p
 |[],i,hi,_,_=>by cases hi
 |x::l,i,hi,h1,h2=>by
  have mono:l.countP p'<=l.countP p:=List.countP_mono_left fun j _ hj=>h j hj
  rcases List.mem_cons.1 hi with rfl|hi
  ·rw[List.countP_cons,List.countP_cons,h1,h2];simp;omega
  ·have ih:=zbz h l i hi h1 h2;rw[List.countP_cons,List.countP_cons];by_cases hx:p' x=true
   ·rw[if_pos hx,if_pos (h x hx)];omega
   ·rw[if_neg hx];split<;>omega
def ys (ops:Array Oper) (j i:Nat):Bool:=((ops[j]?).map fun o=>o.after.any fun e=>Region.binds .any e&&e.on==i).getD false
variable {P:Program} {ops:Array Oper} {Q:Exit->Act->World->Prop}
theorem zjJ (G:Act->World->Prop) (F:Nat->Act->World->Prop)
  (hstep:∀(i:Nat) (o:Oper),ops[i]? =some o->∀a w,G a w->(∀e∈o.after,Region.binds .any e=true->F e.on a w)->
   wpOp P ops Q i (fun a' w'=>G a' w'/\F i a' w'/\∀j,j≠i->ys ops j i=false->F j a w->F j a' w') a w)
  (hdone:∀a w,G a w->(∀i,i<ops.size->F i a w)->Q .normal a w):
  ∀(fuel:Nat) (listed:Array Bool) (a:Act) (w:World),(List.range ops.size).countP (fun i=> !listed.getD i true)<=fuel->listed.size=ops.size->
   G a w->(∀i,listed.getD i false=true->F i a w)->(Region.ready .any ops listed=[]->∀i,i<ops.size->listed.getD i false=true)->
   (∀l:Array Bool,l.size=ops.size->Region.ready .any ops l=[]->∀i,i<ops.size->l.getD i false=true)->
   (∀j i,listed.getD j false=true->ys ops j i=true->listed.getD i false=true)->wpAny P .any ops Q fuel listed a w:=by
 intro fuel
 induction fuel with
 |zero=>
  intro listed a w hc hs hG hF hr hall hcl
  have h0:Region.ready .any ops listed=[]:=by
   apply List.eq_nil_iff_forall_not_mem.2;intro i hi;simp only[Region.ready,List.mem_filter,Bool.and_eq_true] at hi;have hz:(List.range ops.size).countP (fun i=> !listed.getD i true)=0:=by omega
   rw[List.countP_eq_zero] at hz;exact hz i hi.1 hi.2.1
  exact⟨h0,hdone a w hG fun i hi=>hF i (hr h0 i hi)⟩
 |succ fuel ih=>
  intro listed a w hc hs hG hF hr hall hcl;refine⟨fun h0=>hdone a w hG fun i hi=>hF i (hr h0 i hi),fun i hi=> ?_⟩;have hi':=hi;simp only[Region.ready,List.mem_filter,Bool.and_eq_true,List.mem_range] at hi;obtain⟨hlt,hl,haft⟩:=hi;have ho:ops[i]? =some ops[i]:=getElem?_pos ops i hlt;rw[ho] at haft;simp only[Option.map_some,Option.getD_some,Array.all_eq_true',Bool.or_eq_true,Bool.not_eq_true'] at haft;have hli:i<listed.size:=by omega
  refine wpOp_mono ?_ (hstep i _ ho a w hG fun e he hb=> ?_)
  ·rintro a' w' ⟨hG',hFi,hkeep⟩
   have hnf:listed.getD i false=false:=by
    simp only[Array.getD_eq_getD_getElem?,getElem?_pos listed i hli,Option.getD_some] at hl⊢;simpa using hl
   refine ih _ a' w' ?_ (by simp[hs]) hG' ?_ (hall _ (by simp[hs])) hall ?_
   ·have:=zbz (p:=fun i=> !listed.getD i true) (p':=fun j=> !(listed.setIfInBounds i true).getD j true) ?_ (List.range ops.size) i (by simpa using hlt) (by simpa using hl) ?_
    ·omega
    ·intro j hj;simp only[Array.getD_eq_getD_getElem?,Array.getElem?_setIfInBounds] at hj⊢;by_cases e:i=j
     ·subst e;simp[hli] at hj
     ·simpa[e] using hj
    ·simp[Array.getD_eq_getD_getElem?,hli]
   ·intro j hj;by_cases e:i=j
    ·subst e;exact hFi
    ·have hjl:listed.getD j false=true:=by simpa[Array.getD_eq_getD_getElem?,Array.getElem?_setIfInBounds,e] using hj
     refine hkeep j (fun h=>e h.symm) ?_ (hF j hjl);cases hd:ys ops j i
     ·rfl
     ·rw[hcl j i hjl hd] at hnf;cases hnf
   ·intro j k hj hd
    have up:listed.getD k false=true->(listed.setIfInBounds i true).getD k false=true:=by
     intro h;by_cases e:i=k
     ·subst e;rw[h] at hnf;cases hnf
     ·simpa[Array.getD_eq_getD_getElem?,Array.getElem?_setIfInBounds,e] using h
    by_cases e:i=j
    ·subst e;refine up ?_;unfold ys at hd;rw[ho] at hd;simp only[Option.map_some,Option.getD_some,Array.any_eq_true',Bool.and_eq_true,beq_iff_eq] at hd;obtain⟨x,hx,hb,rfl⟩:=hd;exact(haft x hx).resolve_left (by rw[hb];simp)
    ·refine up (hcl j k ?_ hd);simpa[Array.getD_eq_getD_getElem?,Array.getElem?_setIfInBounds,e] using hj
  ·exact hF _ ((haft e he).resolve_left (by rw[hb];simp))
def zat (ops:Array Oper):Bool:=(List.range ops.size).all fun i=>((ops[i]?).map fun o=>o.after.all fun e=> !Region.binds .any e||decide (e.on<i)).getD true
theorem ZX (h:zat ops=true):∀l:Array Bool,l.size=ops.size->Region.ready .any ops l=[]->∀i,i<ops.size->l.getD i false=true:=by
 intro l hl hr i
 induction i using Nat.strongRecOn with
 |_ i ih=>
  intro hi;unfold zat at h;have hd:=List.all_eq_true.1 h i (by simpa using hi);have ho:ops[i]? =some ops[i]:=getElem?_pos ops i hi;rw[ho] at hd;simp only[Option.map_some,Option.getD_some,Array.all_eq_true',Bool.or_eq_true,Bool.not_eq_true',decide_eq_true_eq] at hd;cases hc:l.getD i false
  ·exfalso
   have hm:i∈Region.ready .any ops l:=by
    simp only[Region.ready,List.mem_filter,Bool.and_eq_true,List.mem_range];refine⟨hi, ?_, ?_⟩
    ·have hli:i<l.size:=by omega
     simp only[Array.getD_eq_getD_getElem?,getElem?_pos l i hli,Option.getD_some] at hc⊢;simp[hc]
    ·rw[ho];simp only[Option.map_some,Option.getD_some,Array.all_eq_true',Bool.or_eq_true,Bool.not_eq_true'];intro e he;rcases hd e he with hb|hlt
     ·exact Or.inl hb
     ·exact Or.inr (ih e.on hlt (by omega))
   rw[hr] at hm;cases hm
  ·rfl
theorem zR {id:Nat} {a:Act} {w:World} (hm:P.follows .mixedOrders=true) (G:Act->World->Prop) (F:Nat->Act->World->Prop)
  (hall:∀l:Array Bool,l.size=ops.size->Region.ready .any ops l=[]->∀i,i<ops.size->l.getD i false=true) (h0:G a w.drew)
  (hstep:∀(i:Nat) (o:Oper),ops[i]? =some o->∀a w,G a w->(∀e∈o.after,Region.binds .any e=true->F e.on a w)->
   wpOp P ops Q i (fun a' w'=>G a' w'/\F i a' w'/\∀j,j≠i->ys ops j i=false->F j a w->F j a' w') a w)
  (hdone:∀a w,G a w->(∀i,i<ops.size->F i a w)->Q .normal a w):(Code.region id ops true).wp P Q a w:=by
 refine wp_region_any hm (zjJ G F hstep hdone _ _ a _ ?_ (by simp) h0 ?_ (hall _ (by simp)) hall ?_)
 ·refine Nat.le_trans List.countP_le_length (by simp)
 ·intro i hi;simp[Array.getD_eq_getD_getElem?,Array.getElem?_replicate] at hi;split at hi<;>simp at hi
 ·intro i _ hi;simp[Array.getD_eq_getD_getElem?,Array.getElem?_replicate] at hi;split at hi<;>simp at hi
end
theorem zdR (h:Bool) (w:World):Calls prog 108 #[.bool h] w (Ret w (zay h)):=by
 cases h
 ·go_enter func108,ntmps108;go_wp2;refine bodyPost_ret (v:=wv 0) (by simp[results,results108,go_sem,zl]) rfl (zK (by rfl) ?_);exact bal (Below.refl _ _) _
 ·go_enter func108,ntmps108;go_wp2;refine bodyPost_ret (v:=wv 1) (by rw[<-wv_one];simp[results,results108,go_sem]) rfl (zK (by rfl) ?_);exact bal (Below.refl _ _) _
theorem not_w (a:Nat) (w:World):Calls prog 114 #[wv a] w (Ret w (zcd (a%M))):=by
 refine(not_any a w).mono ?_;rintro e w' ⟨rfl,hb⟩;refine zK ?_ hb;unfold zcI zcd;rfl
theorem shl_w (a b:Nat) (w:World):Calls prog 116 #[wv a,wv b] w (Ret w (zal (a%M) b)):=by
 refine(shl_any a b w).mono ?_;rintro e w' ⟨rfl,hb⟩;refine zK ?_ hb;rw[<-shlw_eq (a%M) b (Nat.mod_lt _ Z4),Nat.mod_mod];unfold zfm;rw[Nat.mod_mod]
theorem ziF (a b:Nat) (w:World):Calls prog 117 #[wv a,wv b] w (Ret w (zbO (a%M) (b%M))):=by
 rw[<-zaH b];refine(shr_any a (b%M) (Nat.mod_lt _ Z4) w).mono ?_;rintro e w' ⟨rfl,hb⟩;refine zK ?_ hb;rw[<-shrw_eq (a%M) _ (Nat.mod_lt _ Z4)];unfold zfc;rw[Nat.mod_mod]
theorem zeC (a b:Nat) (w:World):Calls prog 109 #[wv a,wv b] w fun e w'=>∃r:Bool,Hid (r=decide (a%M<b%M))/\e=.returned (.bool r)/\Below w.heap.size w w':=
 (zfV a b w).mono fun _ _ h=>⟨_,rfl,h.1,h.2⟩
theorem i6 {i:Nat} (h:i<6):i=0\/i=1\/i=2\/i=3\/i=4\/i=5:=by omega
theorem i5' {i:Nat} (h:i<5):i=0\/i=1\/i=2\/i=3\/i=4:=by omega
theorem yy (a:Nat) (na:Bool) (h:Hid (neg a=na)) (w:World):Calls prog 167 #[wv a] w fun e w'=>e=.returned (.bool na)/\Below w.heap.size w w':=by
 have:=Yj a w;rw[h.out] at this;exact this
structure S2 (w:World) (a b:Nat) (x:World):Prop where
 ra:x.rowIs w.heap.size 24 4 (zj (za a))
 rb:x.rowIs (w.heap.size+1) 24 4 (zj (za b))
 be:Below w.heap.size w x
theorem S2.drew {w:World} {a b:Nat} {x:World} (h:S2 w a b x):S2 w a b x.drew:=⟨h.ra,h.rb,h.be.drew⟩
theorem S2.call {w:World} {a b:Nat} {x y:World} (h:S2 w a b x) (hb:Below x.heap.size x y):S2 w a b y:=⟨zf h.ra hb,zf h.rb hb,zD h.be hb⟩
theorem S2.start (w:World) (a b:Nat):S2 w a b ((w.alloc (.cells #[.int .u64 (za a 0),.int .u64 (za a 1),.int .u64 (za a 2),.int .u64 (za a 3)] 24)).alloc (.cells #[.int .u64 (za b 0),.int .u64 (za b 1),.int .u64 (za b 2),.int .u64 (za b 3)] 24)):=
 ⟨zh (za a) rfl rfl rfl rfl rfl |>.alloc _,zh (za b) (by simp) rfl rfl rfl rfl,bal (bal (Below.refl _ _) _) _⟩
structure S3 (w:World) (a b:Nat) (x:World):Prop where
 ra:x.rowIs w.heap.size 24 4 (zj (za a))
 rb:x.rowIs (w.heap.size+1) 24 4 (zj (za b))
 rz:∃f:Nat->Int,x.rowIs (w.heap.size+1+1) 24 4 (zj f)
 be:Below w.heap.size w x
theorem S3.drew {w:World} {a b:Nat} {x:World} (h:S3 w a b x):S3 w a b x.drew:=⟨h.ra,h.rb,h.rz,h.be.drew⟩
theorem S3.alloc {w:World} {a b:Nat} {x:World} (h:S3 w a b x) (o:Obj):S3 w a b (x.alloc o):=⟨h.ra.alloc _,h.rb.alloc _,h.rz.imp fun _ h=>h.alloc _,bal h.be _⟩
theorem S3.call {w:World} {a b:Nat} {x y:World} (h:S3 w a b x) (hb:Below x.heap.size x y):S3 w a b y:=⟨zf h.ra hb,zf h.rb hb,h.rz.imp fun _ h=>zf h hb,zD h.be hb⟩
theorem S3.put {w:World} {a b:Nat} {x:World} (h:S3 w a b x) (r:Nat):S3 w a b ((((x.setCell ⟨w.heap.size+1+1,0,none⟩ (.int .u64 (za r 0))).setCell ⟨w.heap.size+1+1,1,none⟩ (.int .u64 (za r 1))).setCell ⟨w.heap.size+1+1,2,none⟩ (.int .u64 (za r 2))).setCell ⟨w.heap.size+1+1,3,none⟩ (.int .u64 (za r 3))):=by
 obtain⟨f,hf⟩:=h.rz;exact⟨zE h.ra (by omega) _ _ _ _,zE h.rb (by omega) _ _ _ _,⟨za r,zm hf (za r) rfl rfl rfl rfl⟩,zn h.be (by omega) _ _ _ _⟩
theorem S3.start (w:World) (a b:Nat):S3 w a b (((w.alloc (.cells #[.int .u64 (za a 0),.int .u64 (za a 1),.int .u64 (za a 2),.int .u64 (za a 3)] 24)).alloc (.cells #[.int .u64 (za b 0),.int .u64 (za b 1),.int .u64 (za b 2),.int .u64 (za b 3)] 24)).alloc (.cells #[.int .u64 0,.int .u64 0,.int .u64 0,.int .u64 0] 24)):=
 ⟨zh (za a) rfl rfl rfl rfl rfl |>.alloc _ |>.alloc _,zh (za b) (by simp) rfl rfl rfl rfl |>.alloc _,⟨fun _=>0,zh (fun _=>0) (by simp) rfl rfl rfl rfl⟩,bal (bal (bal (Below.refl _ _) _) _) _⟩
def FSar (w:World) (a b nb sh r:Nat):Nat->Act->World->Prop
 |0,s,_=>s.tmps.getD 7 undef=wv a
 |1,s,_=>s.tmps.getD 8 undef=wv b
 |2,s,_=>s.tmps.getD 9 undef=wv nb
 |3,s,_=>s.tmps.getD 10 undef=wv sh
 |4,s,_=>s.tmps.getD 11 undef=wv r
 |5,s,x=>x.rowIs (w.heap.size+1+1) 24 4 (zj (za r))
 |_,_,_=>True
theorem Yb (w:World) (a b nb sh r:Nat) (j:Nat) (h:6<=j) (s:Act) (x:World):FSar w a b nb sh r j s x:=by
 match j,h with
 |j+6,_=>trivial
def GSar (w:World) (a b:Nat) (s:Act) (x:World):Prop:=∃s5 s6 s7 s8 s9 s10 s11 s12 s13 s14:Value,
 s=⟨#[wv a,wv b,.pointer (some ⟨w.heap.size,0,none⟩),.pointer (some ⟨w.heap.size+1,0,none⟩),.pointer (some ⟨w.heap.size+1+1,0,none⟩),s5,s6,s7,s8,s9,s10,s11,s12,s13,s14],[]⟩/\S3 w a b x
theorem sar_neg {a b nb sh r:Nat} (h1:nb=zcd (b%M)) (h2:sh=zbO (a%M) (nb%M)) (h3:r=zcd (sh%M)) (hn:neg b=true):r%M=zgc (a%M) (b%M)%M:=by
 unfold zgc;rw[Zf,hn,if_pos rfl,h3,h2,h1,Nat.mod_eq_of_lt (zi4 (b%M)),Nat.mod_eq_of_lt (fshr_lt (a%M) _ (zi4 (b%M)))]
theorem zje (a b:Nat) (w:World):Calls prog 118 #[wv a,wv b] w (Ret w (zgc (a%M) (b%M))):=by
 obtain⟨nb,HNB⟩:∃nb,Hid (nb=zcd (b%M)):=⟨_,rfl⟩;obtain⟨sh,HSH⟩:∃sh,Hid (sh=zbO (a%M) (nb%M)):=⟨_,rfl⟩;obtain⟨r,HR⟩:∃r,Hid (r=zcd (sh%M)):=⟨_,rfl⟩;obtain⟨ng,HN⟩:∃ng,Hid (neg b=ng):=⟨_,rfl⟩;have hs:=S3.start w a b;go_enter func118,ntmps118;go_wp2_with fail
 refine(yy b ng HN _).mono ?_;rintro e w1 ⟨rfl,hb⟩;replace hs:=hs.call hb;clear hb;cases ng
 ·obtain⟨a0,a1,a2,a3⟩:=zb hs.ra;obtain⟨b0,b1,b2,b3⟩:=zb hs.rb;go_wp2_with fail
  refine(ziF a b _).mono ?_;rintro e w2 ⟨s,HS,rfl,hb⟩;replace hs:=hs.call hb;clear hb a0 a1 a2 a3 b0 b1 b2 b3;obtain⟨f0,hf0⟩:=hs.rz;obtain⟨y0,y1,y2,y3⟩:=zb hf0;have fz:=hf0.frozen;go_wp2;obtain⟨q0,q1,q2,q3⟩:=zb (zm hf0 (za s) rfl rfl rfl rfl);refine bodyPost_ret (v:=wv s) (by simp[results,results118,go_sem,q0,q1,q2,q3]) rfl (zK (by rw[HS.out];unfold zgc;rw[Zf,HN.out,if_neg (by decide)]) ?_);exact(hs.put s).be
 ·go_wp2;refine zR (by kernel_rfl) (GSar w a b) (FSar w a b nb sh r) (ZX (by kernel_rfl)) ?_ ?_ ?_
  ·exact⟨_,_,_,_,_,_,_,_,_,_,rfl,hs.drew⟩
  ·intro i o ho s x hG hdep;obtain⟨s5,s6,s7,s8,s9,s10,s11,s12,s13,s14,rfl,hs⟩:=hG;have hi:i<6:=(Array.getElem?_eq_some_iff.1 ho).1;rcases i6 hi with rfl|rfl|rfl|rfl|rfl|rfl
   ·obtain rfl:=sj ho;refine wpOp_step rfl fun K hK=> ?_
    obtain⟨y0,y1,y2,y3⟩:=zb hs.ra;go_simp;refine hK _ _ ⟨⟨_,_,_,_,_,_,_,_,_,_,rfl,hs⟩,rfl,fun j hj hd hF=> ?_⟩;rcases Nat.lt_or_ge j 6 with hjn|hjn
    ·rcases i6 hjn with rfl|rfl|rfl|rfl|rfl|rfl
     ·exact absurd rfl hj
     ·have h:s8=wv b:=hF;exact h
     ·have h:s9=wv nb:=hF;exact h
     ·exfalso;revert hd;exact of_decide_eq_true (by kernel_rfl)
     ·have h:s11=wv r:=hF;exact h
     ·have h:x.rowIs (w.heap.size+1+1) 24 4 (zj (za r)):=hF;exact h
    ·exact Yb _ _ _ _ _ _ _ hjn _ _
   ·obtain rfl:=sj ho;refine wpOp_step rfl fun K hK=> ?_
    obtain⟨y0,y1,y2,y3⟩:=zb hs.rb;go_simp;refine hK _ _ ⟨⟨_,_,_,_,_,_,_,_,_,_,rfl,hs⟩,rfl,fun j hj hd hF=> ?_⟩;rcases Nat.lt_or_ge j 6 with hjn|hjn
    ·rcases i6 hjn with rfl|rfl|rfl|rfl|rfl|rfl
     ·have h:s7=wv a:=hF;exact h
     ·exact absurd rfl hj
     ·exfalso;revert hd;exact of_decide_eq_true (by kernel_rfl)
     ·have h:s10=wv sh:=hF;exact h
     ·have h:s11=wv r:=hF;exact h
     ·have h:x.rowIs (w.heap.size+1+1) 24 4 (zj (za r)):=hF;exact h
    ·exact Yb _ _ _ _ _ _ _ hjn _ _
   ·obtain rfl:=sj ho;refine wpOp_step rfl fun K hK=> ?_
    have h1:s8=wv b:=hdep ⟨1,.data⟩ (by simp) rfl;subst h1;go_simp;refine(not_w b _).mono ?_;rintro e y ⟨rr,HRR,rfl,hb⟩;obtain rfl:rr=nb:=HRR.out.trans HNB.out.symm;dsimp only;refine hK _ _ ⟨⟨_,_,_,_,_,_,_,_,_,_,rfl,hs.call hb⟩,rfl,fun j hj hd hF=> ?_⟩;rcases Nat.lt_or_ge j 6 with hjn|hjn
    ·rcases i6 hjn with rfl|rfl|rfl|rfl|rfl|rfl
     ·have h:s7=wv a:=hF;exact h
     ·exact(rfl:(wv b:Value)=wv b)
     ·exact absurd rfl hj
     ·exfalso;revert hd;exact of_decide_eq_true (by kernel_rfl)
     ·have h:s11=wv r:=hF;exact h
     ·have h:x.rowIs (w.heap.size+1+1) 24 4 (zj (za r)):=hF;exact zf h hb
    ·exact Yb _ _ _ _ _ _ _ hjn _ _
   ·obtain rfl:=sj ho;refine wpOp_step rfl fun K hK=> ?_
    have h0:s7=wv a:=hdep ⟨0,.data⟩ (by simp) rfl;subst h0;have h2:s9=wv nb:=hdep ⟨2,.data⟩ (by simp) rfl;subst h2;go_simp;refine(ziF a nb _).mono ?_;rintro e y ⟨rr,HRR,rfl,hb⟩;obtain rfl:rr=sh:=HRR.out.trans HSH.out.symm;dsimp only;refine hK _ _ ⟨⟨_,_,_,_,_,_,_,_,_,_,rfl,hs.call hb⟩,rfl,fun j hj hd hF=> ?_⟩;rcases Nat.lt_or_ge j 6 with hjn|hjn
    ·rcases i6 hjn with rfl|rfl|rfl|rfl|rfl|rfl
     ·exact(rfl:(wv a:Value)=wv a)
     ·have h:s8=wv b:=hF;exact h
     ·exact(rfl:(wv nb:Value)=wv nb)
     ·exact absurd rfl hj
     ·exfalso;revert hd;exact of_decide_eq_true (by kernel_rfl)
     ·have h:x.rowIs (w.heap.size+1+1) 24 4 (zj (za r)):=hF;exact zf h hb
    ·exact Yb _ _ _ _ _ _ _ hjn _ _
   ·obtain rfl:=sj ho;refine wpOp_step rfl fun K hK=> ?_
    have h3:s10=wv sh:=hdep ⟨3,.data⟩ (by simp) rfl;subst h3;go_simp;refine(not_w sh _).mono ?_;rintro e y ⟨rr,HRR,rfl,hb⟩;obtain rfl:rr=r:=HRR.out.trans HR.out.symm;dsimp only;refine hK _ _ ⟨⟨_,_,_,_,_,_,_,_,_,_,rfl,hs.call hb⟩,rfl,fun j hj hd hF=> ?_⟩;rcases Nat.lt_or_ge j 6 with hjn|hjn
    ·rcases i6 hjn with rfl|rfl|rfl|rfl|rfl|rfl
     ·have h:s7=wv a:=hF;exact h
     ·have h:s8=wv b:=hF;exact h
     ·have h:s9=wv nb:=hF;exact h
     ·exact(rfl:(wv sh:Value)=wv sh)
     ·exact absurd rfl hj
     ·exfalso;revert hd;exact of_decide_eq_true (by kernel_rfl)
    ·exact Yb _ _ _ _ _ _ _ hjn _ _
   ·obtain rfl:=sj ho;refine wpOp_step rfl fun K hK=> ?_
    have h4:s11=wv r:=hdep ⟨4,.data⟩ (by simp) rfl;subst h4;obtain⟨f0,hf0⟩:=hs.rz;obtain⟨y0,y1,y2,y3⟩:=zb hf0;have fz:=hf0.frozen;go_simp;refine hK _ _ ⟨⟨_,_,_,_,_,_,_,_,_,_,rfl,hs.put r⟩,zm hf0 (za r) rfl rfl rfl rfl,fun j hj hd hF=> ?_⟩;rcases Nat.lt_or_ge j 6 with hjn|hjn
    ·rcases i6 hjn with rfl|rfl|rfl|rfl|rfl|rfl
     ·have h:s7=wv a:=hF;exact h
     ·have h:s8=wv b:=hF;exact h
     ·have h:s9=wv nb:=hF;exact h
     ·have h:s10=wv sh:=hF;exact h
     ·exact(rfl:(wv r:Value)=wv r)
     ·exact absurd rfl hj
    ·exact Yb _ _ _ _ _ _ _ hjn _ _
  ·intro s x hG hF;obtain⟨s5,s6,s7,s8,s9,s10,s11,s12,s13,s14,rfl,hs⟩:=hG;have hr:x.rowIs (w.heap.size+1+1) 24 4 (zj (za r)):=hF 5 (by decide);clear hF;go_wp2;obtain⟨q0,q1,q2,q3⟩:=zb hr;refine bodyPost_ret (v:=wv r) (by simp[results,results118,go_sem,q0,q1,q2,q3]) rfl (zK (sar_neg HNB.out HSH.out HR.out HN.out) ?_);exact hs.be
def FSl (a b:Nat) (na nb:Bool):Nat->Act->World->Prop
 |0,s,_=>s.tmps.getD 5 undef=wv a
 |1,s,_=>s.tmps.getD 6 undef=.bool na
 |2,s,_=>s.tmps.getD 7 undef=wv b
 |3,s,_=>s.tmps.getD 8 undef=.bool nb
 |4,s,_=>s.tmps.getD 9 undef=.bool (na !=nb)
 |_,_,_=>True
theorem FSl_big (a b:Nat) (na nb:Bool) (j:Nat) (h:5<=j) (s:Act) (x:World):FSl a b na nb j s x:=by
 match j,h with
 |j+5,_=>trivial
def GSl (w:World) (a b:Nat) (s:Act) (x:World):Prop:=∃s5 s6 s7 s8 s9 s10 s11 s12 s13 s14:Value,
 s=⟨#[wv a,wv b,.pointer (some ⟨w.heap.size,0,none⟩),.pointer (some ⟨w.heap.size+1,0,none⟩),.bool false,s5,s6,s7,s8,s9,s10,s11,s12,s13,s14],[]⟩/\S2 w a b x
theorem YV (a b:Nat) (w:World):Calls prog 110 #[wv a,wv b] w fun e w'=>∃r:Bool,Hid (r=zcx (a%M) (b%M))/\e=.returned (.bool r)/\Below w.heap.size w w':=by
 obtain⟨na,HNA⟩:∃na,Hid (neg a=na):=⟨_,rfl⟩;obtain⟨nb,HNB⟩:∃nb,Hid (neg b=nb):=⟨_,rfl⟩;have hS:=S2.start w a b;go_enter func110,ntmps110;go_wp2;refine zR (by kernel_rfl) (GSl w a b) (FSl a b na nb) (ZX (by kernel_rfl)) ?_ ?_ ?_
 ·exact⟨_,_,_,_,_,_,_,_,_,_,rfl,hS.drew⟩
 ·intro i o ho s x hG hdep;obtain⟨s5,s6,s7,s8,s9,s10,s11,s12,s13,s14,rfl,hs⟩:=hG;have hi:i<5:=(Array.getElem?_eq_some_iff.1 ho).1;rcases i5' hi with rfl|rfl|rfl|rfl|rfl;obtain rfl:=sj ho;refine wpOp_step rfl fun K hK=> ?_
  obtain⟨y0,y1,y2,y3⟩:=zb hs.ra;go_simp;refine hK _ _ ⟨⟨_,_,_,_,_,_,_,_,_,_,rfl,hs⟩,rfl,fun j hj hd hF=> ?_⟩;rotate_left;obtain rfl:=sj ho;refine wpOp_step rfl fun K hK=> ?_
  have h0:s5=wv a:=hdep ⟨0,.data⟩ (by simp) rfl;subst h0;go_simp;refine(yy a na HNA _).mono ?_;rintro e y ⟨rfl,hb⟩;dsimp only;refine hK _ _ ⟨⟨_,_,_,_,_,_,_,_,_,_,rfl,hs.call hb⟩,rfl,fun j hj hd hF=> ?_⟩;rotate_left;obtain rfl:=sj ho;refine wpOp_step rfl fun K hK=> ?_
  obtain⟨y0,y1,y2,y3⟩:=zb hs.rb;go_simp;refine hK _ _ ⟨⟨_,_,_,_,_,_,_,_,_,_,rfl,hs⟩,rfl,fun j hj hd hF=> ?_⟩;rotate_left;obtain rfl:=sj ho;refine wpOp_step rfl fun K hK=> ?_
  have h2:s7=wv b:=hdep ⟨2,.data⟩ (by simp) rfl;subst h2;go_simp;refine(yy b nb HNB _).mono ?_;rintro e y ⟨rfl,hb⟩;dsimp only;refine hK _ _ ⟨⟨_,_,_,_,_,_,_,_,_,_,rfl,hs.call hb⟩,rfl,fun j hj hd hF=> ?_⟩;rotate_left;obtain rfl:=sj ho;refine wpOp_step rfl fun K hK=> ?_
  have h1:s6=.bool na:=hdep ⟨1,.data⟩ (by simp) rfl;subst h1;have h3:s8=.bool nb:=hdep ⟨3,.data⟩ (by simp) rfl;subst h3;go_simp;refine hK _ _ ⟨⟨_,_,_,_,_,_,_,_,_,_,rfl,hs⟩,rfl,fun j hj hd hF=> ?_⟩;rotate_left
  all_goals
   rcases Nat.lt_or_ge j 5 with hjn|hjn
   ·rcases i5' hjn with rfl|rfl|rfl|rfl|rfl
    all_goals first
     |exact absurd rfl hj
     |exact hF
     |exact rfl
     |(exfalso;revert hd;exact of_decide_eq_true (by kernel_rfl))
   ·exact FSl_big _ _ _ _ _ hjn _ _
 ·intro s x hG hF;obtain⟨s5,s6,s7,s8,s9,s10,s11,s12,s13,s14,rfl,hs⟩:=hG;have h4:s9=.bool (na !=nb):=hF 4 (by decide);clear hF;subst h4;cases na<;>cases nb
  ·skip;obtain⟨a0,a1,a2,a3⟩:=zb hs.ra;obtain⟨b0,b1,b2,b3⟩:=zb hs.rb;go_wp2_with fail
   refine(zeC a b _).mono ?_;rintro e w2 ⟨t,HT,rfl,hb⟩;go_wp2;go_ret;exact⟨_,by show _=zcx _ _;unfold zcx;rw[Zf,Zf,HNA.out,HNB.out,HT.out];rfl,rfl,zD hs.be hb⟩
  ·skip;obtain⟨a0,a1,a2,a3⟩:=zb hs.ra;go_wp2_with fail
   refine(yy a _ HNA _).mono ?_;rintro e w2 ⟨rfl,hb⟩;go_wp2;go_ret;exact⟨_,by show _=zcx _ _;unfold zcx;rw[Zf,Zf,HNA.out,HNB.out];rfl,rfl,zD hs.be hb⟩
  ·skip;obtain⟨a0,a1,a2,a3⟩:=zb hs.ra;go_wp2_with fail
   refine(yy a _ HNA _).mono ?_;rintro e w2 ⟨rfl,hb⟩;go_wp2;go_ret;exact⟨_,by show _=zcx _ _;unfold zcx;rw[Zf,Zf,HNA.out,HNB.out];rfl,rfl,zD hs.be hb⟩
  ·skip;obtain⟨a0,a1,a2,a3⟩:=zb hs.ra;obtain⟨b0,b1,b2,b3⟩:=zb hs.rb;go_wp2_with fail
   refine(zeC a b _).mono ?_;rintro e w2 ⟨t,HT,rfl,hb⟩;go_wp2;go_ret;exact⟨_,by show _=zcx _ _;unfold zcx;rw[Zf,Zf,HNA.out,HNB.out,HT.out];rfl,rfl,zD hs.be hb⟩
def FSe (w:World) (b lf sl r:Nat):Nat->Act->World->Prop
 |0,s,_=>s.tmps.getD 15 undef=wv lf
 |1,s,_=>s.tmps.getD 16 undef=wv lf
 |2,s,_=>s.tmps.getD 17 undef=wv b
 |3,s,_=>s.tmps.getD 18 undef=wv sl
 |4,s,_=>s.tmps.getD 19 undef=wv r
 |5,s,x=>x.rowIs (w.heap.size+1+1) 24 4 (zj (za r))
 |_,_,_=>True
theorem zaa (w:World) (b lf sl r:Nat) (j:Nat) (h:6<=j) (s:Act) (x:World):FSe w b lf sl r j s x:=by
 match j,h with
 |j+6,_=>trivial
def GSe (w:World) (a b p lf:Nat) (s:Act) (x:World):Prop:=∃s6 s7 s8 s9 s10 s11 s12 s13 s14 s15 s16 s17 s18 s19:Value,
 s=⟨#[wv a,wv b,.pointer (some ⟨w.heap.size,0,none⟩),.pointer (some ⟨w.heap.size+1,0,none⟩),.pointer (some ⟨w.heap.size+1+1,0,none⟩),.pointer (some ⟨p,0,none⟩),s6,s7,s8,s9,s10,s11,s12,s13,s14,s15,s16,s17,s18,s19],[]⟩/\(S3 w a b x/\x.rowIs p 24 4 (zj (za lf)))
theorem zlm {a b:Nat} (h:decide (a%M<31)=false):b%M=zdy (a%M) (b%M)%M:=by
 unfold zdy;rw[if_neg (of_decide_eq_false h),Nat.mod_mod]
theorem sext_in {a b lf sl r:Nat} (h:decide (a%M<31)=true) (h0:lf=248 - 8*(a%M)) (h1:sl=zal (lf%M) b) (h2:r=zgc (lf%M) (sl%M)):r%M=zdy (a%M) (b%M)%M:=by
 have e:lf%M=lf:=Nat.mod_eq_of_lt (by rw[h0];unfold M;omega)
 have e2:zal lf b=zal lf (b%M):=by
  unfold zal;split
  ·rw[Nat.mul_mod b (2^lf) M,Nat.mul_mod (b%M) (2^lf) M,Nat.mod_mod]
  ·rfl
 unfold zdy;rw[if_pos (of_decide_eq_true h),<-h0,h2,h1,e,Nat.mod_eq_of_lt (fshl_lt _ _),e2]
theorem zbF {a:Nat} {k:Nat} (hk:k<=256) (h:decide (a%M<k)=true):∃s:Nat,s<k/\s=a%M/\za a 0=(s:Int):=by
 have h2:=of_decide_eq_true h;refine⟨a%M,h2,rfl, ?_⟩;unfold za M at*;rw[pw0];omega
theorem zja (a k:Nat) (hk:k<18446744073709551616) (t:Bool) (ht:Hid (decide (a%M<k)=t)) (w:World):
  Calls prog 171 #[wv a,.int .u64 (k:Int)] w fun e w'=>e=.returned (.bool t)/\Below w.heap.size w w':=by
 have:=Ya a k hk w;unfold ltw at this;rw[Nat.mod_eq_of_lt (show k<M by unfold M;omega),ht.out] at this;exact this
theorem zY (n:Nat) (h:n<18446744073709551616):za n 0=(n:Int)/\za n 1=0/\za n 2=0/\za n 3=0:=by
 unfold za;rw[pw0,pw1,pw2,pw3];refine⟨?_, ?_, ?_, ?_⟩<;>omega
theorem zcK (a b:Nat) (w:World):Calls prog 107 #[wv a,wv b] w (Ret w (zdy (a%M) (b%M))):=by
 obtain⟨t,HT⟩:∃t,Hid (decide (a%M<31)=t):=⟨_,rfl⟩;have hs:=S3.start w a b;go_enter func107,ntmps107;go_wp2_with fail
 refine(zja a 31 (by omega) t HT _).mono ?_;rintro e w1 ⟨rfl,hb⟩;replace hs:=hs.call hb;clear hb;cases t
 ·obtain⟨b0,b1,b2,b3⟩:=zb hs.rb;obtain⟨f0,hf0⟩:=hs.rz;obtain⟨y0,y1,y2,y3⟩:=zb hf0;have fz:=hf0.frozen;go_wp2;obtain⟨q0,q1,q2,q3⟩:=zb (zm hf0 (za b) rfl rfl rfl rfl);refine bodyPost_ret (v:=wv b) (by simp[results,results107,go_sem,q0,q1,q2,q3]) rfl (zK (zlm HT.out) ?_);exact(hs.put b).be
 ·obtain⟨s,hs1,hs2,hs3⟩:=zbF (k:=31) (by omega) HT.out;have HS2:Hid (s=a%M):=hs2;obtain⟨a0,a1,a2,a3⟩:=zb hs.ra;rw[hs3] at a0;clear hs2 hs3 a1 a2 a3;obtain⟨lf,HLF⟩:∃lf,Hid (lf=248 - 8*s):=⟨_,rfl⟩;obtain⟨sl,HSL⟩:∃sl,Hid (sl=zal (lf%M) b):=⟨_,rfl⟩;obtain⟨r,HR⟩:∃r,Hid (r=zgc (lf%M) (sl%M)):=⟨_,rfl⟩;have hpl:w.heap.size+1+1<w1.heap.size:=by obtain⟨f0,hf0⟩:=hs.rz;exact hf0.lt
  have L0:Hid ((248 - 8*(s:Int))=za lf 0):=by show _=_;rw[(zY lf (by rw[HLF.out];omega)).1,HLF.out];omega
  have L1:Hid ((0:Int)=za lf 1):=(zY lf (by rw[HLF.out];omega)).2.1.symm;have L2:Hid ((0:Int)=za lf 2):=(zY lf (by rw[HLF.out];omega)).2.2.1.symm;have L3:Hid ((0:Int)=za lf 3):=(zY lf (by rw[HLF.out];omega)).2.2.2.symm;go_wp2;refine zR (by kernel_rfl) (GSe w a b w1.heap.size lf) (FSe w b lf sl r) (ZX (by kernel_rfl)) ?_ ?_ ?_
  ·exact⟨_,_,_,_,_,_,_,_,_,_,_,_,_,_,rfl,⟨(hs.alloc _).drew,(zh (za lf) rfl L0.out L1.out L2.out L3.out).drew⟩⟩
  ·intro i o ho s x hG hdep;obtain⟨s6,s7,s8,s9,s10,s11,s12,s13,s14,s15,s16,s17,s18,s19,rfl,hs⟩:=hG;have hi:i<6:=(Array.getElem?_eq_some_iff.1 ho).1;rcases i6 hi with rfl|rfl|rfl|rfl|rfl|rfl
   ·obtain rfl:=sj ho;refine wpOp_step rfl fun K hK=> ?_
    obtain⟨y0,y1,y2,y3⟩:=zb hs.2;go_simp;refine hK _ _ ⟨⟨_,_,_,_,_,_,_,_,_,_,_,_,_,_,rfl,hs⟩,rfl,fun j hj hd hF=> ?_⟩;rcases Nat.lt_or_ge j 6 with hjn|hjn
    ·rcases i6 hjn with rfl|rfl|rfl|rfl|rfl|rfl
     ·exact absurd rfl hj
     ·have h:s16=wv lf:=hF;exact h
     ·have h:s17=wv b:=hF;exact h
     ·have h:s18=wv sl:=hF;exact h
     ·exfalso;revert hd;exact of_decide_eq_true (by kernel_rfl)
     ·have h:x.rowIs (w.heap.size+1+1) 24 4 (zj (za r)):=hF;exact h
    ·exact zaa _ _ _ _ _ _ hjn _ _
   ·obtain rfl:=sj ho;refine wpOp_step rfl fun K hK=> ?_
    obtain⟨y0,y1,y2,y3⟩:=zb hs.2;go_simp;refine hK _ _ ⟨⟨_,_,_,_,_,_,_,_,_,_,_,_,_,_,rfl,hs⟩,rfl,fun j hj hd hF=> ?_⟩;rcases Nat.lt_or_ge j 6 with hjn|hjn
    ·rcases i6 hjn with rfl|rfl|rfl|rfl|rfl|rfl
     ·have h:s15=wv lf:=hF;exact h
     ·exact absurd rfl hj
     ·have h:s17=wv b:=hF;exact h
     ·exfalso;revert hd;exact of_decide_eq_true (by kernel_rfl)
     ·have h:s19=wv r:=hF;exact h
     ·have h:x.rowIs (w.heap.size+1+1) 24 4 (zj (za r)):=hF;exact h
    ·exact zaa _ _ _ _ _ _ hjn _ _
   ·obtain rfl:=sj ho;refine wpOp_step rfl fun K hK=> ?_
    obtain⟨y0,y1,y2,y3⟩:=zb hs.1.rb;go_simp;refine hK _ _ ⟨⟨_,_,_,_,_,_,_,_,_,_,_,_,_,_,rfl,hs⟩,rfl,fun j hj hd hF=> ?_⟩;rcases Nat.lt_or_ge j 6 with hjn|hjn
    ·rcases i6 hjn with rfl|rfl|rfl|rfl|rfl|rfl
     ·have h:s15=wv lf:=hF;exact h
     ·have h:s16=wv lf:=hF;exact h
     ·exact absurd rfl hj
     ·exfalso;revert hd;exact of_decide_eq_true (by kernel_rfl)
     ·have h:s19=wv r:=hF;exact h
     ·have h:x.rowIs (w.heap.size+1+1) 24 4 (zj (za r)):=hF;exact h
    ·exact zaa _ _ _ _ _ _ hjn _ _
   ·obtain rfl:=sj ho;refine wpOp_step rfl fun K hK=> ?_
    have h1:s16=wv lf:=hdep ⟨1,.data⟩ (by simp) rfl;subst h1;have h2:s17=wv b:=hdep ⟨2,.data⟩ (by simp) rfl;subst h2;go_simp;refine(shl_w lf b _).mono ?_;rintro e y ⟨rr,HRR,rfl,hb⟩;obtain rfl:rr=sl:=HRR.out.trans HSL.out.symm;dsimp only;refine hK _ _ ⟨⟨_,_,_,_,_,_,_,_,_,_,_,_,_,_,rfl,⟨hs.1.call hb,zf hs.2 hb⟩⟩,rfl,fun j hj hd hF=> ?_⟩;rcases Nat.lt_or_ge j 6 with hjn|hjn
    ·rcases i6 hjn with rfl|rfl|rfl|rfl|rfl|rfl
     ·have h:s15=wv lf:=hF;exact h
     ·exact(rfl:(wv lf:Value)=wv lf)
     ·exact(rfl:(wv b:Value)=wv b)
     ·exact absurd rfl hj
     ·exfalso;revert hd;exact of_decide_eq_true (by kernel_rfl)
     ·have h:x.rowIs (w.heap.size+1+1) 24 4 (zj (za r)):=hF;exact zf h hb
    ·exact zaa _ _ _ _ _ _ hjn _ _
   ·obtain rfl:=sj ho;refine wpOp_step rfl fun K hK=> ?_
    have h0:s15=wv lf:=hdep ⟨0,.data⟩ (by simp) rfl;subst h0;have h3:s18=wv sl:=hdep ⟨3,.data⟩ (by simp) rfl;subst h3;go_simp;refine(zje lf sl _).mono ?_;rintro e y ⟨rr,HRR,rfl,hb⟩;obtain rfl:rr=r:=HRR.out.trans HR.out.symm;dsimp only;refine hK _ _ ⟨⟨_,_,_,_,_,_,_,_,_,_,_,_,_,_,rfl,⟨hs.1.call hb,zf hs.2 hb⟩⟩,rfl,fun j hj hd hF=> ?_⟩;rcases Nat.lt_or_ge j 6 with hjn|hjn
    ·rcases i6 hjn with rfl|rfl|rfl|rfl|rfl|rfl
     ·exact(rfl:(wv lf:Value)=wv lf)
     ·have h:s16=wv lf:=hF;exact h
     ·have h:s17=wv b:=hF;exact h
     ·exact(rfl:(wv sl:Value)=wv sl)
     ·exact absurd rfl hj
     ·exfalso;revert hd;exact of_decide_eq_true (by kernel_rfl)
    ·exact zaa _ _ _ _ _ _ hjn _ _
   ·obtain rfl:=sj ho;refine wpOp_step rfl fun K hK=> ?_
    have h4:s19=wv r:=hdep ⟨4,.data⟩ (by simp) rfl;subst h4;obtain⟨f0,hf0⟩:=hs.1.rz;obtain⟨y0,y1,y2,y3⟩:=zb hf0;have fz:=hf0.frozen;go_simp;refine hK _ _ ⟨⟨_,_,_,_,_,_,_,_,_,_,_,_,_,_,rfl,⟨hs.1.put r,zE hs.2 (Nat.ne_of_gt hpl) _ _ _ _⟩⟩,zm hf0 (za r) rfl rfl rfl rfl,fun j hj hd hF=> ?_⟩;rcases Nat.lt_or_ge j 6 with hjn|hjn
    ·rcases i6 hjn with rfl|rfl|rfl|rfl|rfl|rfl
     ·have h:s15=wv lf:=hF;exact h
     ·have h:s16=wv lf:=hF;exact h
     ·have h:s17=wv b:=hF;exact h
     ·have h:s18=wv sl:=hF;exact h
     ·exact(rfl:(wv r:Value)=wv r)
     ·exact absurd rfl hj
    ·exact zaa _ _ _ _ _ _ hjn _ _
  ·intro s x hG hF;obtain⟨s6,s7,s8,s9,s10,s11,s12,s13,s14,s15,s16,s17,s18,s19,rfl,hs⟩:=hG;have hr:x.rowIs (w.heap.size+1+1) 24 4 (zj (za r)):=hF 5 (by decide);clear hF;obtain⟨hs, -⟩:=hs;go_wp2;obtain⟨q0,q1,q2,q3⟩:=zb hr;refine bodyPost_ret (v:=wv r) (by simp[results,results107,go_sem,q0,q1,q2,q3]) rfl (zK (sext_in HT.out (by rw[HLF.out,HS2.out]) HSL.out HR.out) ?_);exact hs.be
theorem zmk {a b:Nat} (h:decide (a%M<32)=false):0%M=zdS (a%M) (b%M)%M:=by
 unfold zdS;rw[if_neg (of_decide_eq_false h)]
theorem byte_in {a b k m:Nat} (h:decide (a%M<32)=true) (h0:k=8*(31 - a%M)) (h1:m=zbO (k%M) (b%M)):m%256%M=zdS (a%M) (b%M)%M:=by
 have e:k%M=k:=Nat.mod_eq_of_lt (by rw[h0];unfold M;omega);unfold zdS;rw[if_pos (of_decide_eq_true h),<-h0,h1,e]
theorem and_255 (m:Nat):bits .and .u64 (za m 0) 255=((m%256:Nat):Int):=by
 have h:=bits_and_u64_nat (zy m 0) 255 (ZD _ _) (by omega);rw[show zy m 0 &&& 255=zy m 0%256 from Nat.and_two_pow_sub_one_eq_mod _ 8] at h;rw[zO];refine h.trans ?_;unfold zy;rw[pw0];omega
theorem zh1 (a b:Nat) (w:World):Calls prog 115 #[wv a,wv b] w (Ret w (zdS (a%M) (b%M))):=by
 obtain⟨t,HT⟩:∃t,Hid (decide (a%M<32)=t):=⟨_,rfl⟩;have hs:=S3.start w a b;go_enter func115,ntmps115;go_wp2_with fail
 refine(zja a 32 (by omega) t HT _).mono ?_;rintro e w1 ⟨rfl,hb⟩;replace hs:=hs.call hb;clear hb;cases t
 ·obtain⟨f0,hf0⟩:=hs.rz;obtain⟨y0,y1,y2,y3⟩:=zb hf0;have fz:=hf0.frozen;go_wp2;obtain⟨q0,q1,q2,q3⟩:=zb (zm hf0 (fun _=>0) rfl rfl rfl rfl);refine bodyPost_ret (v:=wv 0) (by rw[<-zbb];simp[results,results115,go_sem,q0,q1,q2,q3]) rfl (zK (zmk HT.out) ?_);exact zn hs.be (by omega) _ _ _ _
 ·obtain⟨s,hs1,hs2,hs3⟩:=zbF (k:=32) (by omega) HT.out;have HS2:Hid (s=a%M):=hs2;obtain⟨a0,a1,a2,a3⟩:=zb hs.ra;obtain⟨b0,b1,b2,b3⟩:=zb hs.rb;rw[hs3] at a0;clear hs2 hs3 a1 a2 a3;obtain⟨k,HK⟩:∃k,Hid (k=8*(31 - s)):=⟨_,rfl⟩;go_wp2_with fail
  rw[show(8*(31 - (s:Int)))=(k:Int) from by rw[HK.out];omega,zcZ k (by rw[HK.out];omega)];refine(ziF k b _).mono ?_;rintro e w2 ⟨m,HM,rfl,hb⟩;replace hs:=hs.call hb;clear hb a0 b0 b1 b2 b3;obtain⟨r,HR⟩:∃r,Hid (r=m%256):=⟨_,rfl⟩;have h255:bits .and .u64 (za m 0) 255=(r:Int):=by rw[HR.out];exact and_255 m
  have hrl:r<18446744073709551616:=by rw[HR.out];omega
  have HRL:Hid (r<18446744073709551616):=hrl;clear hrl;obtain⟨f0,hf0⟩:=hs.rz;obtain⟨y0,y1,y2,y3⟩:=zb hf0;have fz:=hf0.frozen;have z:=hf0.lt;go_wp2;obtain⟨q0,q1,q2,q3⟩:=zb (zm hf0 (za r) (x0:=(r:Int)) (x1:=0) (x2:=0) (x3:=0) (zY r HRL.out).1.symm (zY r HRL.out).2.1.symm (zY r HRL.out).2.2.1.symm (zY r HRL.out).2.2.2.symm);refine bodyPost_ret (v:=wv r) (by simp[results,results115,go_sem,q0,q1,q2,q3,z]) rfl (zK (by rw[HR.out];exact byte_in HT.out (by rw[HK.out,HS2.out]) HM.out) ?_);exact bal (zn hs.be (by omega) _ _ _ _) _
theorem zJ {p:Prop} (h:p):Hid p:=h
theorem Yu (n:Nat) (hn:n<9223372036854775808) (w:World):Calls prog 262 #[.int .i64 (n:Int)] w fun e w'=>e=.returned (wv n)/\Below w.heap.size w w':=by
 obtain⟨g0,g1,g2,g3⟩:=zY n (by omega);have G0:Hid (za n 0=(n:Int)):=g0;have G1:Hid (za n 1=0):=g1;have G2:Hid (za n 2=0):=g2;have G3:Hid (za n 3=0):=g3;clear g0 g1 g2 g3;go_enter func262,ntmps262;go_wp2;refine bodyPost_ret (v:=wv n) (by unfold wv;rw[G0.out,G1.out,G2.out,G3.out];simp[results,results262,go_sem]) rfl ⟨rfl, ?_⟩;exact bal (Below.refl _ _) _
abbrev wc (n:Nat):Obj:=.cells #[.int .u64 (za n 0),.int .u64 (za n 1),.int .u64 (za n 2),.int .u64 (za n 3)] 24
abbrev zS (x:World) (b n:Nat):Prop:=x.rowIs b 24 4 (zj (za n))
theorem Zn (w:World) (n:Nat):zS (w.alloc (wc n)) w.heap.size n:=zh _ rfl rfl rfl rfl rfl
structure W1 (w:World) (a:Nat) (x:World):Prop where
 ra:zS x w.heap.size a
 be:Below w.heap.size w x
theorem W1.start (w:World) (a:Nat):W1 w a (w.alloc (wc a)):=⟨Zn w a,bal (Below.refl _ _) _⟩
theorem W1.alloc {w:World} {a:Nat} {x:World} (h:W1 w a x) (o:Obj):W1 w a (x.alloc o):=⟨h.ra.alloc _,bal h.be _⟩
theorem W1.call {w:World} {a:Nat} {x y:World} (h:W1 w a x) (hb:Below x.heap.size x y):W1 w a y:=⟨zf h.ra hb,zD h.be hb⟩
structure W2 (w:World) (a b:Nat) (x:World):Prop where
 ra:zS x w.heap.size a
 rb:zS x (w.heap.size+1) b
 be:Below w.heap.size w x
theorem W2.start (w:World) (a b:Nat):W2 w a b ((w.alloc (wc a)).alloc (wc b)):=⟨(Zn w a).alloc _,zh _ (by simp) rfl rfl rfl rfl,bal (bal (Below.refl _ _) _) _⟩
theorem W2.call {w:World} {a b:Nat} {x y:World} (h:W2 w a b x) (hb:Below x.heap.size x y):W2 w a b y:=⟨zf h.ra hb,zf h.rb hb,zD h.be hb⟩
structure W3 (w:World) (a b c:Nat) (x:World):Prop where
 ra:zS x w.heap.size a
 rb:zS x (w.heap.size+1) b
 rc:zS x (w.heap.size+1+1) c
 be:Below w.heap.size w x
theorem ziW (a b:Nat):decide (0<zaT a b)=decide (b%M<a%M):=by
 unfold zaT;by_cases h1:a%M<b%M
 ·rw[if_pos h1];simp;omega
 ·rw[if_neg h1];by_cases h2:b%M<a%M
  ·rw[if_pos h2];simp[h2]
  ·rw[if_neg h2];simp[h2]
theorem zf5 {n:Nat} (h:n<9223372036854775808):n%M=n:=Nat.mod_eq_of_lt (by unfold M;omega)
theorem zhe {a:Nat} (h:a%M<9223372036854775808):za a 0=((a%M:Nat):Int):=by
 have h:=(zY (a%M) (by omega)).1;rw[<-h];unfold za M;rw[pw0];omega
theorem Yd (a n:Nat) (hn:n<9223372036854775808) (ha:a%M<=n) (w:World):Calls prog 284 #[wv a,.int .i64 (n:Int)] w fun e w'=>∃m:Nat,Hid (m=a%M)/\e=.returned (.tuple #[.int .i64 (m:Int),.bool true])/\Below w.heap.size w w':=by
 have d:decide (0<zaT a n)=false:=by rw[ziW,zf5 hn];exact decide_eq_false (by omega)
 have hl:za a 0=((a%M:Nat):Int):=zhe (by omega);obtain⟨m,hm⟩:∃m:Nat,m=a%M:=⟨_,rfl⟩;rw[<-hm] at hl ha;have HL:=zJ hl;have HMM:=zJ hm;clear hm hl;have hr:(w.alloc (.cells #[.int .u64 (za a 0),.int .u64 (za a 1),.int .u64 (za a 2),.int .u64 (za a 3)] 24)).rowIs w.heap.size 24 4 (zj (za a)):=zh _ rfl rfl rfl rfl rfl;have HS:=zJ (Yu n hn);have HC:=zJ (YO a n);go_enter func284,ntmps284;go_wp2_with fail
 go_region_with (first
  |(go_at_call 262;refine(HS.out _).mono ?_;rintro e w1 ⟨rfl,hb1⟩;have hr1:=zf hr.drew hb1;obtain⟨y0,y1,y2,y3⟩:=zb hr1)
  |(go_at_call 33;refine(HC.out _).mono ?_;rintro e w2 ⟨rfl,hb2⟩))
 all_goals (
  have hr2:=zf hr1 hb2;obtain⟨z0,z1,z2,z3⟩:=zb hr2;have HB:Hid (Below w.heap.size w w2):=zD (zD (bal (Below.refl _ w) _).drew hb1) hb2;rw[HL.out] at z0;clear hr2 hr1 y0 y1 y2 y3 hb1 hb2 hr HC HS;go_wp2;go_ret2;exact⟨m,HMM,rfl,HB.out⟩)
theorem YN (a n:Nat) (hn:n<9223372036854775808) (ha:n<a%M) (w:World):Calls prog 284 #[wv a,.int .i64 (n:Int)] w fun e w'=>e=.returned (.tuple #[.int .i64 0,.bool false])/\Below w.heap.size w w':=by
 have d:decide (0<zaT a n)=true:=by rw[ziW,zf5 hn];exact decide_eq_true (by omega)
 have hr:(w.alloc (.cells #[.int .u64 (za a 0),.int .u64 (za a 1),.int .u64 (za a 2),.int .u64 (za a 3)] 24)).rowIs w.heap.size 24 4 (zj (za a)):=zh _ rfl rfl rfl rfl rfl;have HS:=zJ (Yu n hn);have HC:=zJ (YO a n);clear ha;go_enter func284,ntmps284;go_wp2_with fail
 go_region_with (first
  |(go_at_call 262;refine(HS.out _).mono ?_;rintro e w1 ⟨rfl,hb1⟩;have hr1:=zf hr.drew hb1;obtain⟨y0,y1,y2,y3⟩:=zb hr1)
  |(go_at_call 33;refine(HC.out _).mono ?_;rintro e w2 ⟨rfl,hb2⟩))
 all_goals (
  have HB:Hid (Below w.heap.size w w2):=zD (zD (bal (Below.refl _ w) _).drew hb1) hb2;clear hr1 y0 y1 y2 y3 hb1 hb2 hr HC HS;go_wp2;go_ret2;exact⟨rfl,HB.out⟩)
theorem zdK (n:Nat) (hn:n<=200000) (w:World):Calls prog 287 #[.int .i64 (n:Int)] w fun e w'=>e=.returned (.int .i64 (((n+31)/32:Nat):Int))/\w'=w:=by
 go_enter func287,ntmps287;go_wp2;go_ret;refine⟨congrArg (fun z=>Ending.returned (Value.int .i64 z)) ?_,rfl⟩;omega
abbrev zcL (p n b:Nat):Prop:=p%M<=b/\n%M<=b/\p%M+n%M<=b
theorem span_in (p n b:Nat) (hb:b<1000000) (h:zcL p n b) (w:World):Calls prog 286 #[wv p,wv n,.int .i64 (b:Int)] w fun e w'=>∃q m:Nat,Hid (q=p%M)/\Hid (m=n%M)/\e=.returned (.tuple #[.int .i64 (q:Int),.int .i64 (m:Int),.bool true])/\Below w.heap.size w w':=by
 obtain⟨h1,h2,h3⟩:=h;have HP:=zJ (Yd p b (by omega) h1);have HN:=zJ (Yd n b (by omega) h2);have hs:=W2.start w p n;go_enter func286,ntmps286;go_wp2_with fail
 refine(HP.out _).mono ?_;rintro e w1 ⟨q,HQ,rfl,hb1⟩;replace hs:=hs.call hb1;obtain⟨x0,x1,x2,x3⟩:=zb hs.rb;go_wp2_with fail
 refine(HN.out _).mono ?_;rintro e w2 ⟨m,HM,rfl,hb2⟩;have hle:q+m<=b:=by rw[HQ.out,HM.out];exact h3
 have d:decide ((b:Int)<(q:Int)+(m:Int))=false:=decide_eq_false (by omega);have HB:=zJ (zD hs.be hb2);clear hs x0 x1 x2 x3;clear hb1 hb2 h1 h2 h3 HP HN;go_wp2
 go_ret3
 exact⟨q,m,HQ,HM,rfl,HB.out⟩
theorem zkS (p n b:Nat) (hb:b<1000000) (h:¬zcL p n b) (w:World):Calls prog 286 #[wv p,wv n,.int .i64 (b:Int)] w fun e w'=>e=.returned (.tuple #[.int .i64 0,.int .i64 0,.bool false])/\Below w.heap.size w w':=by
 by_cases h1:p%M<=b
 ·have HP:=zJ (Yd p b (by omega) h1);by_cases h2:n%M<=b
  ·have HN:=zJ (Yd n b (by omega) h2);have hs:=W2.start w p n;go_enter func286,ntmps286;go_wp2_with fail
   refine(HP.out _).mono ?_;rintro e w1 ⟨q,HQ,rfl,hb1⟩;replace hs:=hs.call hb1;obtain⟨x0,x1,x2,x3⟩:=zb hs.rb;go_wp2_with fail
   refine(HN.out _).mono ?_;rintro e w2 ⟨m,HM,rfl,hb2⟩;have hle:b<q+m:=by rw[HQ.out,HM.out];unfold zcL at h;omega
   have hq:q<=b:=by rw[HQ.out];exact h1
   have hm:m<=b:=by rw[HM.out];exact h2
   have d:decide ((b:Int)<(q:Int)+(m:Int))=true:=decide_eq_true (by omega);have HB:=zJ (zD hs.be hb2);clear hs x0 x1 x2 x3;clear hb1 hb2 h1 h2 h HP HN;go_wp2
   go_ret3
   exact⟨rfl,HB.out⟩
  ·have HN:=zJ (YN n b (by omega) (by omega));have hs:=W2.start w p n;go_enter func286,ntmps286;go_wp2_with fail
   refine(HP.out _).mono ?_;rintro e w1 ⟨q,HQ,rfl,hb1⟩;replace hs:=hs.call hb1;obtain⟨x0,x1,x2,x3⟩:=zb hs.rb;go_wp2_with fail
   refine(HN.out _).mono ?_;rintro e w2 ⟨rfl,hb2⟩;have HB:=zJ (zD hs.be hb2);clear hs x0 x1 x2 x3;clear hb1 hb2 h1 h2 h HP HN;go_wp2
   go_ret3
   exact⟨rfl,HB.out⟩
 ·have HP:=zJ (YN p b (by omega) (by omega))
  have HN:Hid (∀w,Calls prog 284 #[wv n,.int .i64 (b:Int)] w fun e w'=>∃(m:Nat) (t:Bool),e=.returned (.tuple #[.int .i64 (m:Int),.bool t])/\Below w.heap.size w w'):=fun w=>by
   by_cases h2:n%M<=b
   ·exact(Yd n b (by omega) h2 w).mono fun e w' ⟨m,_,h3,h4⟩=>⟨m,true,h3,h4⟩
   ·exact(YN n b (by omega) (by omega) w).mono fun e w' ⟨h3,h4⟩=>⟨0,false,h3,h4⟩
  have hs:=W2.start w p n;go_enter func286,ntmps286;go_wp2_with fail
  refine(HP.out _).mono ?_;rintro e w1 ⟨rfl,hb1⟩;replace hs:=hs.call hb1;obtain⟨x0,x1,x2,x3⟩:=zb hs.rb;go_wp2_with fail
  refine(HN.out _).mono ?_;rintro e w2 ⟨m,t,rfl,hb2⟩;have HB:=zJ (zD hs.be hb2);clear hs x0 x1 x2 x3;clear hb1 hb2 h1 h HP HN;go_wp2
  go_ret3
  exact⟨rfl,HB.out⟩
section
open Go.Maps Go.ChangeMaps
def heldR:Value->Option (DataW Value×List MemPlace):=fun v=>some (.held v,[])
def MapV (P:Program) (kt:TypeId) (x:World) (b n:Nat) (f:Value->Option Value):Prop:=
 ∃D:DataW Value,x.ownsMap P kt heldR b n D/\∀v l,keyOf P kt v=some l->Maps.has D l=(f v).isSome/\∀z,D.atKey l (.held z)=.held ((f v).getD z)
section
variable {P:Program} {kt et t:TypeId} {x y:World} {b n:Nat} {f g:Value->Option Value}
theorem MapV.made (P:Program) (kt:TypeId) (w:World):MapV P kt (w.alloc (.map #[] 0)) w.heap.size 0 (fun _=>none):=
 ⟨.map [],World.ownsMap_made _ _ _ _,fun _ _ _=>⟨rfl,fun _=>rfl⟩⟩
theorem MapV.lt (h:MapV P kt x b n f):b<x.heap.size:=by
 obtain⟨D,h1,_⟩:=h;exact h1.lt
theorem MapV.block (h:MapV P kt x b n f) (hb:y.heap[b]? =x.heap[b]?):MapV P kt y b n f:=by
 obtain⟨D,⟨es,cl,h1,h2,h3,h4⟩,h5⟩:=h;exact⟨D,⟨es,cl,hb.trans h1,h2,h3,h4⟩,h5⟩
theorem MapV.is (h:MapV P kt x b n f):∃es cl,x.heap[b]? =some (.map es cl):=by
 obtain⟨D,⟨es,cl,h1,h2,h3,h4⟩,h5⟩:=h;exact⟨es,cl,h1⟩
theorem MapV.mono {m:Nat} (h:MapV P kt x b n f) (hn:n<=m):MapV P kt x b m f:=by
 obtain⟨D,h1,h2⟩:=h;exact⟨D,h1.mono hn,h2⟩
theorem MapV.look (h:MapV P kt x b n f) (K:Keyed P kt) (ht:P.underlying t=some (.map kt et)) {z:Value} (hz:∀w,(zeroValue et).run P w=.ok z w) {key:Value} {kl:Lit} (hk:keyOf P kt key=some kl):
  (Instr.lookup t (.map (some b)) key false).run P x=.ok ((f key).getD z) x:=by
 obtain⟨D,h1,h2⟩:=h;obtain⟨v,ps,hr,hv⟩:=h1.lookup K ht (hz x) (zd:=.held z) (zp:=[]) rfl hk;rw[(h2 key kl hk).2 z] at hv;injection hv with hv
 injection hv with hv _
 injection hv with hv
 rw[hr,hv]
theorem MapV.store (h:MapV P kt x b n f) (K:Keyed P kt) (ht:P.underlying t=some (.map kt et)) (hn:n<maxLen) {key:Value} (val:Value) {kl:Lit} (hk:keyOf P kt key=some kl):
  ∃y g,(Instr.mapUpdate t (.map (some b)) key val).run P x=.ok () y/\MapV P kt y b (n+1) g/\g key=some val/\(∀v,v≠key->g v=f v)/\x.mapTurned y b:=by
 classical
 obtain⟨D,h1,h2⟩:=h;obtain⟨y,hr,ho,ht⟩:=h1.store K ht hn hk (show heldR val=some (.held val,[]) from rfl);refine⟨y,fun v=>if v=key then some val else f v,hr,⟨_,ho,fun v l hl=> ?_⟩,if_pos rfl,fun v hv=>if_neg hv,ht⟩;by_cases e:v=key
 ·subst e;obtain rfl:l=kl:=Option.some.inj (hl.symm.trans hk);dsimp only;rw[if_pos rfl];exact⟨has_put_same h1.isMap (K.key hk) _,fun z=>atKey_put_same h1.isMap (K.key hk) _ _⟩
 ·have hne:l≠kl:=fun e2=>e (K.inj hl (by rw[e2];exact hk))
  dsimp only;rw[if_neg e];exact⟨(has_put_other hne _).trans (h2 v l hl).1,fun z=>(atKey_put_other hne _ _).trans ((h2 v l hl).2 z)⟩
theorem MapV.drop (h:MapV P kt x b n f) (K:Keyed P kt) (ht:P.underlying t=some (.map kt et)) {key:Value} {kl:Lit} (hk:keyOf P kt key=some kl) (ty:TypeId):
  ∃y g,(Builtin.delete_ #[t,kt] ty #[.map (some b),key]).run P x=.ok (.tuple #[]) y/\MapV P kt y b n g/\g key=none/\(∀v,v≠key->g v=f v)/\x.mapTurned y b:=by
 classical
 obtain⟨D,h1,h2⟩:=h;obtain⟨y,hr,ho,ht⟩:=h1.drop K ht hk ty;refine⟨y,fun v=>if v=key then none else f v,hr,⟨_,ho,fun v l hl=> ?_⟩,if_pos rfl,fun v hv=>if_neg hv,ht⟩;by_cases e:v=key
 ·subst e;obtain rfl:l=kl:=Option.some.inj (hl.symm.trans hk);dsimp only;rw[if_pos rfl];exact⟨has_del_same,fun z=>atKey_del_same _⟩
 ·have hne:l≠kl:=fun e2=>e (K.inj hl (by rw[e2];exact hk))
  dsimp only;rw[if_neg e];exact⟨(has_del_other hne).trans (h2 v l hl).1,fun z=>(atKey_del_other hne _).trans ((h2 v l hl).2 z)⟩
theorem zlW {D:DataW Value} (h:x.ownsMap P kt heldR b n D):∃es,D=.map es/\∀p∈es,∃v,keyOf P kt v=some p.1:=by
 obtain⟨es,cl,h1,h2,h3,rfl⟩:=h;refine⟨_,rfl, ?_⟩;exact keys_perm (List.Perm.symm (WideShapes.sorted_perm _)) (fit_keys h2)
theorem MapV.len (h:MapV P kt x b n f) (K:Keyed P kt) (ht:P.underlying t=some (.map kt et)) (ty:TypeId):
  ∃s:Nat,(Builtin.len_ #[t] ty #[.map (some b)]).run P x=.ok (.int .i64 (s:Int)) x/\s<=n/\(s=0↔∀v l,keyOf P kt v=some l->f v=none):=by
 obtain⟨D,h1,h2⟩:=h;refine⟨Maps.size D,h1.len ht ty,h1.size_le, ?_⟩;obtain⟨es,rfl,h3⟩:=zlW h1;constructor
 ·intro hs v l hl;have e:es=[]:=List.eq_nil_of_length_eq_zero hs;subst e;have h4:=(h2 v l hl).1;cases hf:f v with
  |none=>rfl
  |some u=>rw[hf] at h4;exact absurd h4 (by simp[Maps.has])
 ·intro hs;cases es with
  |nil=>rfl
  |cons p r=>
   obtain⟨v,hv⟩:=h3 p (by simp);have h4:=(h2 v p.1 hv).1;rw[hs v p.1 hv,Maps.has_eq] at h4;simp[WideAt.sameKey_self (K.key hv)] at h4
theorem zjF {x y:World} {b:Nat} (h:x.mapTurned y b):y.os=x.os/\y.tape=x.tape/\y.output=x.output/\x.heap.size<=y.heap.size/\∀k,k<x.heap.size->k≠b->y.heap[k]? =x.heap[k]? :=by
 have:=h.grown;exact⟨this.os,this.tape,this.output,this.size,fun k hk hn=>this.block k hk (fun e=>hn (Option.some.inj e))⟩
end
end
section
open Go.Maps
theorem laidB:laidOutB prog=true:=by kernel_rfl
theorem wd_row:(24:TypeId)<prog.types.size:=of_decide_eq_true (by kernel_rfl)
theorem wd_wide:(match prog.underlying 24 with|some (.array _ _)|some (.struct _)=>true|_=>false)=true:=by kernel_rfl
theorem wd_law:WideMaps.KeyLaw prog 24:=deep_law_laid laidB (m:=3) (by omega) wd_row (by kernel_rfl) wd_wide
theorem YG:Keyed prog 24:=Keyed.of_law wd_law
theorem zcX:prog.cellsOf 24=4:=by kernel_rfl
theorem wd_kt:prog.keyType 24=true:=by kernel_rfl
theorem zdL:∃m,prog.types.size=m+2:=⟨prog.types.size - 2,by
 have h:decide (2<=prog.types.size)=true:=by kernel_rfl
 have:=of_decide_eq_true h;omega⟩
theorem limb_wf (n i:Nat):(Lit.int .u64 (za n i)).wf=true:=by
 have h1:=YY n i;have h2:=zb8 n i;simp[Lit.wf,IntKind.min,IntKind.max,IntKind.signed,IntKind.bits];omega
def zfr (v:Value):Option (List Lit):=match v with
  |.int .u64 a=>if (Lit.int .u64 a).wf=true then some [.int .u64 a] else none
  |_=>none
theorem zaV {v:Value} {l:List Lit} (h:zfr v=some l):∃a,v=.int .u64 a/\(Lit.int .u64 a).wf=true:=by
 unfold zfr at h;split at h
 ·rename_i a;split at h
  ·rename_i hw;exact⟨a,rfl,hw⟩
  ·cases h
 ·cases h
theorem u64L_mk (n i:Nat):zfr (.int .u64 (za n i))=some [.int .u64 (za n i)]:=if_pos (limb_wf n i)
theorem zgr (d:Nat) (v:Value):prog.keyLits (d+1) 22 [v]=zfr v:=by
 unfold Program.keyLits zfr;rw[underlying22];cases v<;>try rfl
 rename_i k a;cases k<;>simp
theorem ziD (d:Nat) (v0 v1 v2 v3:Value):prog.keyLits (d+2) 24 [v0,v1,v2,v3]=((List.range 4).mapM fun i=>prog.keyLits (d+1) 22 (([v0,v1,v2,v3].drop (i*1)).take 1)).map List.flatten:=by
 conv=>lhs;unfold Program.keyLits
 rw[underlying24];simp only[zcX,zlx,List.length_cons,List.length_nil,Nat.zero_add,Nat.reduceAdd,if_true]
theorem zcS (n:Nat):∃l,keyOf prog 24 (wv n)=some l:=by
 obtain⟨m,hm⟩:=zdL;unfold keyOf;rw[underlying24];simp only[wd_kt,Value.formed,underlying24,zcX,Bool.true_and];rw[hm,if_pos (by rfl)];show∃l,Option.map _ (prog.keyLits (m+1+2) 24 [.int .u64 (za n 0),.int .u64 (za n 1),.int .u64 (za n 2),.int .u64 (za n 3)])=some l;rw[ziD];simp[List.range,List.range.loop,zgr,u64L_mk]
theorem zm1 {a b:Nat} (h:wv a=wv b):a%M=b%M:=by
 have h1:eqw a b=true:=by
  rw[<-zd2];injection h with h
  injection h with h
  injection h with h0 h
  injection h with h1 h
  injection h with h2 h
  injection h with h3 h
  injection h0 with _ h0
  injection h1 with _ h1
  injection h2 with _ h2
  injection h3 with _ h3
  rw[h0,h1,h2,h3];simp
 exact of_decide_eq_true h1
theorem zmM {a0 a1 a2 a3:Int} (h0:(Lit.int .u64 a0).wf=true) (h1:(Lit.int .u64 a1).wf=true) (h2:(Lit.int .u64 a2).wf=true) (h3:(Lit.int .u64 a3).wf=true):
  ∃n,Value.agg #[.int .u64 a0,.int .u64 a1,.int .u64 a2,.int .u64 a3]=wv n:=by
 simp[Lit.wf,IntKind.min,IntKind.max,IntKind.signed,IntKind.bits] at h0 h1 h2 h3;refine⟨a0.toNat+a1.toNat*2^64+a2.toNat*2^128+a3.toNat*2^192, ?_⟩;have e0:a0=za (a0.toNat+a1.toNat*2^64+a2.toNat*2^128+a3.toNat*2^192) 0:=by unfold za;rw[pw0];omega
 have e1:a1=za (a0.toNat+a1.toNat*2^64+a2.toNat*2^128+a3.toNat*2^192) 1:=by unfold za;rw[pw1];omega
 have e2:a2=za (a0.toNat+a1.toNat*2^64+a2.toNat*2^128+a3.toNat*2^192) 2:=by unfold za;rw[pw2];omega
 have e3:a3=za (a0.toNat+a1.toNat*2^64+a2.toNat*2^128+a3.toNat*2^192) 3:=by unfold za;rw[pw3];omega
 unfold wv;rw[<-e0,<-e1,<-e2,<-e3]
theorem zii {v:Value} {l:Lit} (h:keyOf prog 24 v=some l):∃n,v=wv n:=by
 obtain⟨m,hm⟩:=zdL;unfold keyOf at h;rw[underlying24] at h;simp only[wd_kt,Bool.true_and] at h;split at h
 case isFalse=>cases h
 rename_i hf;cases v with
 |agg cs=>
  simp only[Value.formed,underlying24,zcX,beq_iff_eq] at hf;obtain⟨l0⟩:=cs
  match l0,hf with
  |[v0,v1,v2,v3],_=>
   rw[hm] at h;have h:Option.map _ (prog.keyLits (m+1+2) 24 [v0,v1,v2,v3])=some l:=h;rw[ziD] at h;simp only[List.range,List.range.loop,List.mapM_cons,List.mapM_nil,Nat.zero_mul,Nat.one_mul,List.drop_zero,List.take_succ_cons,List.take_zero,Nat.mul_one,List.drop_succ_cons,zgr] at h;cases h0:zfr v0 with
   |none=>simp[h0] at h
   |some x0=>
   cases h1:zfr v1 with
   |none=>simp[h0,h1] at h
   |some x1=>
   cases h2:zfr v2 with
   |none=>simp[h0,h1,h2] at h
   |some x2=>
   cases h3:zfr v3 with
   |none=>simp[h0,h1,h2,h3] at h
   |some x3=>
   obtain⟨a0,rfl,q0⟩:=zaV h0;obtain⟨a1,rfl,q1⟩:=zaV h1;obtain⟨a2,rfl,q2⟩:=zaV h2;obtain⟨a3,rfl,q3⟩:=zaV h3;exact zmM q0 q1 q2 q3
 |_=>simp[Value.formed,underlying24] at hf
def AM (w:World) (b n:Nat) (f:Nat->Option Value):Prop:=∃g,MapV prog 24 w b n g/\∀m,g (wv m)=f m
section
variable {x y:World} {b n:Nat} {f g:Nat->Option Value}
theorem AM.made (w:World):AM (w.alloc (.map #[] 0)) w.heap.size 0 (fun _=>none):=⟨_,MapV.made _ _ w,fun _=>rfl⟩
theorem AM.lt (h:AM x b n f):b<x.heap.size:=by
 obtain⟨g,h1,_⟩:=h;exact h1.lt
theorem AM.is (h:AM x b n f):∃es cl,x.heap[b]? =some (.map es cl):=by
 obtain⟨g,h1,_⟩:=h;exact h1.is
theorem AM.block (h:AM x b n f) (hb:y.heap[b]? =x.heap[b]?):AM y b n f:=by
 obtain⟨g,h1,h2⟩:=h;exact⟨g,h1.block hb,h2⟩
theorem AM.mono {m:Nat} (h:AM x b n f) (hn:n<=m):AM x b m f:=by
 obtain⟨g,h1,h2⟩:=h;exact⟨g,h1.mono hn,h2⟩
theorem AM.congr (h:AM x b n f) (e:∀m,g m=f m):AM x b n g:=by
 obtain⟨g',h1,h2⟩:=h;exact⟨g',h1,fun m=>(h2 m).trans (e m).symm⟩
theorem AM.look {t et:TypeId} (h:AM x b n f) (ht:prog.underlying t=some (.map 24 et)) {z:Value} (hz:∀w,(zeroValue et).run prog w=.ok z w) (k:Nat):
  (Instr.lookup t (.map (some b)) (wv k) false).run prog x=.ok ((f k).getD z) x:=by
 obtain⟨g,h1,h2⟩:=h;obtain⟨l,hl⟩:=zcS k;rw[h1.look YG ht hz hl,h2]
theorem AM.store {t et:TypeId} (h:AM x b n f) (ht:prog.underlying t=some (.map 24 et)) (hn:n<maxLen) (k:Nat) (val:Value):
  ∃y,(Instr.mapUpdate t (.map (some b)) (wv k) val).run prog x=.ok () y/\AM y b (n+1) (fun m=>if m%M=k%M then some val else f m)/\x.mapTurned y b:=by
 obtain⟨g,h1,h2⟩:=h;obtain⟨l,hl⟩:=zcS k;obtain⟨y,g',hr,h3,h4,h5,h6⟩:=h1.store YG ht hn val hl;refine⟨y,hr,⟨g',h3,fun m=> ?_⟩,h6⟩;by_cases e:m%M=k%M
 ·dsimp only;rw[if_pos e,yA e,h4]
 ·dsimp only;rw[if_neg e,h5 _ (fun e2=>e (zm1 e2)),h2]
theorem AM.drop {t et:TypeId} (h:AM x b n f) (ht:prog.underlying t=some (.map 24 et)) (k:Nat) (ty:TypeId):
  ∃y,(Builtin.delete_ #[t,24] ty #[.map (some b),wv k]).run prog x=.ok (.tuple #[]) y/\AM y b n (fun m=>if m%M=k%M then none else f m)/\x.mapTurned y b:=by
 obtain⟨g,h1,h2⟩:=h;obtain⟨l,hl⟩:=zcS k;obtain⟨y,g',hr,h3,h4,h5,h6⟩:=h1.drop YG ht hl ty;refine⟨y,hr,⟨g',h3,fun m=> ?_⟩,h6⟩;by_cases e:m%M=k%M
 ·dsimp only;rw[if_pos e,yA e,h4]
 ·dsimp only;rw[if_neg e,h5 _ (fun e2=>e (zm1 e2)),h2]
theorem AM.len {t et:TypeId} (h:AM x b n f) (ht:prog.underlying t=some (.map 24 et)) (ty:TypeId):
  ∃s:Nat,(Builtin.len_ #[t] ty #[.map (some b)]).run prog x=.ok (.int .i64 (s:Int)) x/\s<=n/\(s=0↔∀m,f m=none):=by
 obtain⟨g,h1,h2⟩:=h;obtain⟨s,hr,hs,he⟩:=h1.len YG ht ty;refine⟨s,hr,hs,he.trans ⟨fun h m=> ?_,fun h v l hl=> ?_⟩⟩
 ·obtain⟨l,hl⟩:=zcS m;rw[<-h2 m];exact h _ l hl
 ·obtain⟨m,rfl⟩:=zii hl;rw[h2 m];exact h m
end
end
def byt (s:ByteArray) (i:Nat):Nat:=(s.get! i).toNat
theorem Zj (s:ByteArray) (i:Nat):byt s i<256:=(s.get! i).toNat_lt
theorem zmm (s:ByteArray) (i:Nat) (h:i<s.size):(s[i]'h).toNat=byt s i:=by
 unfold byt
 have e:s.get! i=s[i]'h:=by
  simp[ByteArray.get!,getElem!_pos,h];rfl
 rw[e]
def good (s:ByteArray) (i lo hi j:Nat):Prop:=if j=1 then lo<=byt s (i+j)/\byt s (i+j)<=hi else 128<=byt s (i+j)/\byt s (i+j)<=191
def Rd (s:ByteArray) (i n lo hi:Nat) (r:Nat):Prop:=(r=n/\i+n<=s.size/\∀j,1<=j->j<n->good s i lo hi j)\/(r=0/\¬(i+n<=s.size/\∀j,1<=j->j<n->good s i lo hi j))
def nx (s:ByteArray) (i:Nat):Nat:=if Utf8.decode s i=(65533,1) then 0 else(Utf8.decode s i).2
def dec (z i b0 b1 b2 b3:Nat):Nat×Nat:=
 if b0<128 then(b0,1)
 else if b0/32=6/\(i+1<z/\b1/64=2) then(if 128<=b0%32*64+b1%64 then(b0%32*64+b1%64,2) else(65533,1))
 else if (b0/16=14/\(i+1<z/\b1/64=2))/\(i+2<z/\b2/64=2) then
  (if 2048<=b0%16*4096+b1%64*64+b2%64/\(b0%16*4096+b1%64*64+b2%64<55296\/(57344<=b0%16*4096+b1%64*64+b2%64/\b0%16*4096+b1%64*64+b2%64<=1114111)) then(b0%16*4096+b1%64*64+b2%64,3) else(65533,1))
 else if ((b0/8=30/\(i+1<z/\b1/64=2))/\(i+2<z/\b2/64=2))/\(i+3<z/\b3/64=2) then
  (if 65536<=b0%8*262144+b1%64*4096+b2%64*64+b3%64/\(b0%8*262144+b1%64*4096+b2%64*64+b3%64<55296\/(57344<=b0%8*262144+b1%64*4096+b2%64*64+b3%64/\b0%8*262144+b1%64*4096+b2%64*64+b3%64<=1114111)) then(b0%8*262144+b1%64*4096+b2%64*64+b3%64,4) else(65533,1))
 else(65533,1)
theorem ZP (s:ByteArray) (i:Nat):Utf8.decode s i=dec s.size i (byt s i) (byt s (i+1)) (byt s (i+2)) (byt s (i+3)):=by
 have hv:∀c:Nat,Utf8.valid (c:Int)=true↔(c<55296\/(57344<=c/\c<=1114111)):=fun c=>by
  unfold Utf8.valid;simp only[Bool.or_eq_true,Bool.and_eq_true,decide_eq_true_eq];omega
 unfold Utf8.decode dec byt;simp only[Bool.and_eq_true,decide_eq_true_eq,beq_iff_eq,ge_iff_le,hv,Nat.add_zero,Utf8.runeError]
def wid (z i b0 b1 b2 b3:Nat):Nat:=if dec z i b0 b1 b2 b3=(65533,1) then 0 else(dec z i b0 b1 b2 b3).2
theorem Ye (s:ByteArray) (i:Nat):nx s i=wid s.size i (byt s i) (byt s (i+1)) (byt s (i+2)) (byt s (i+3)):=by
 unfold nx wid;rw[ZP]
theorem zhq {z i b0 b1 b2 b3 c n:Nat} (h:dec z i b0 b1 b2 b3=(c,n)) (hn:2<=n):wid z i b0 b1 b2 b3=n:=by
 unfold wid;rw[h,if_neg];intro e;injection e with e1 e2
 omega
theorem zeP {z i b0 b1 b2 b3:Nat} (h:dec z i b0 b1 b2 b3=(65533,1)):wid z i b0 b1 b2 b3=0:=by
 unfold wid;rw[h,if_pos rfl]
theorem wid_a (z i b0 b1 b2 b3:Nat) (h:b0<128):wid z i b0 b1 b2 b3=1:=by
 unfold wid dec;rw[if_pos h,if_neg];intro e;injection e with e1 e2
 omega
theorem wid_z (z i b0 b1 b2 b3:Nat) (h0:128<=b0) (hl:b0<256) (h:b0<194\/245<=b0) (hb1:b1<256) (hb2:b2<256) (hb3:b3<256):wid z i b0 b1 b2 b3=0:=by
 refine zeP ?_;unfold dec
 repeat' split
 all_goals first|rfl|(exfalso;omega)
theorem wid_2 (z i b0 b1 b2 b3:Nat) (h1:194<=b0) (h2:b0<224) (hb1:b1<256):wid z i b0 b1 b2 b3=if i+2<=z/\128<=b1/\b1<=191 then 2 else 0:=by
 by_cases h:i+2<=z/\128<=b1/\b1<=191
 ·rw[if_pos h];refine zhq (c:=b0%32*64+b1%64) ?_ (by omega);unfold dec;rw[if_neg (by omega),if_pos (by omega),if_pos (by omega)]
 ·rw[if_neg h];refine zeP ?_;unfold dec
  repeat' split
  all_goals first|rfl|(exfalso;omega)
theorem wid_3 (z i b0 b1 b2 b3 lo hi:Nat) (hb1:b1<256) (hb2:b2<256) (hc:(b0=224/\lo=160/\hi=191)\/(225<=b0/\b0<237/\lo=128/\hi=191)\/(b0=237/\lo=128/\hi=159)\/(238<=b0/\b0<240/\lo=128/\hi=191)):
  wid z i b0 b1 b2 b3=if i+3<=z/\(lo<=b1/\b1<=hi)/\(128<=b2/\b2<=191) then 3 else 0:=by
 by_cases h:i+3<=z/\(lo<=b1/\b1<=hi)/\(128<=b2/\b2<=191)
 ·rw[if_pos h];refine zhq (c:=b0%16*4096+b1%64*64+b2%64) ?_ (by omega);unfold dec;rw[if_neg (by omega),if_neg (by omega),if_pos (by omega),if_pos (by omega)]
 ·rw[if_neg h];refine zeP ?_;unfold dec
  repeat' split
  all_goals first|rfl|(exfalso;omega)
theorem wid_4 (z i b0 b1 b2 b3 lo hi:Nat) (hb1:b1<256) (hb2:b2<256) (hb3:b3<256) (hc:(b0=240/\lo=144/\hi=191)\/(241<=b0/\b0<244/\lo=128/\hi=191)\/(b0=244/\lo=128/\hi=143)):
  wid z i b0 b1 b2 b3=if i+4<=z/\(lo<=b1/\b1<=hi)/\(128<=b2/\b2<=191)/\(128<=b3/\b3<=191) then 4 else 0:=by
 by_cases h:i+4<=z/\(lo<=b1/\b1<=hi)/\(128<=b2/\b2<=191)/\(128<=b3/\b3<=191)
 ·rw[if_pos h];refine zhq (c:=b0%8*262144+b1%64*4096+b2%64*64+b3%64) ?_ (by omega);unfold dec;rw[if_neg (by omega),if_neg (by omega),if_neg (by omega),if_pos (by omega),if_pos (by omega)]
 ·rw[if_neg h];refine zeP ?_;unfold dec
  repeat' split
  all_goals first|rfl|(exfalso;omega)
def bl (s:ByteArray):List UInt8:=s.data.toList
theorem Yl (s:ByteArray):(bl s).length=s.size:=rfl
theorem yz (s:ByteArray) (a b:Nat):bl (s.extract a b)=((bl s).drop a).take (b - a):=by
 unfold bl;rw[ByteArray.data_extract,Array.toList_extract]
theorem ZO (s:ByteArray) (i:Nat):byt s i=((bl s).getD i 0).toNat:=by
 unfold byt bl;by_cases h:i<s.size
 ·have e:s.get! i=s[i]'h:=by
   simp[ByteArray.get!,getElem!_pos,h];rfl
  have e2:(s.data.toList).getD i 0=s[i]'h:=by
   rw[List.getD_eq_getElem?_getD,List.getElem?_eq_getElem (by simpa using h)];rfl
  rw[e,e2]
 ·have e:s.get! i=0:=by
   have h2:¬i<s.data.size:=h;exact getElem!_neg s.data i h2
  have e2:(s.data.toList).getD i 0=0:=by
   rw[List.getD_eq_getElem?_getD,List.getElem?_eq_none (by simpa using Nat.le_of_not_lt h)];rfl
  rw[e,e2]
def pf (t pre:ByteArray):Bool:=decide (pre.size<=t.size)&&((t.extract 0 pre.size).toList==pre.toList)
theorem zaq (t pre:ByteArray) (ht:t.size<=2000) (hp:pre.size<=2000) (w:World):Calls prog 77 #[.string t,.string pre] w fun e w'=>e=.returned (.bool (pf t pre))/\w'=w:=by
 by_cases h:pre.size<=t.size
 ·have HP:Hid (pf t pre=((t.extract 0 pre.size).toList==pre.toList)):=by show _=_;unfold pf;rw[decide_eq_true h,Bool.true_and]
  go_enter func77,ntmps77;go_wp2;go_ret;exact⟨by rw[HP.out];rfl,rfl⟩
 ·have HP:Hid (pf t pre=false):=by show _=_;unfold pf;rw[decide_eq_false h,Bool.false_and]
  go_enter func77,ntmps77;go_wp2;go_ret;exact⟨by rw[HP.out];rfl,rfl⟩
theorem zeB (t pre:ByteArray):pf t pre=(bl pre).isPrefixOf (bl t):=by
 unfold pf;rw[Go.ByteArray.toList_eq,Go.ByteArray.toList_eq];show(decide ((bl pre).length<=(bl t).length)&&(bl (t.extract 0 pre.size)==bl pre))=_;rw[yz,List.drop_zero,Nat.sub_zero,<-Yl pre,Bool.eq_iff_iff];simp only[Bool.and_eq_true,decide_eq_true_eq,beq_iff_eq,List.isPrefixOf_iff_prefix];constructor
 ·rintro⟨h1,h2⟩;rw[<-h2];exact List.take_prefix _ _
 ·intro h;exact⟨h.length_le,(List.prefix_iff_eq_take.1 h).symm⟩
theorem pf_mark (s:ByteArray) (p:Nat):pf (s.extract p s.size) ⟨#[239,191,189]⟩=decide (p+3<=s.size/\byt s p=239/\byt s (p+1)=191/\byt s (p+2)=189):=by
 have hb:∀k,byt s (p+k)=(((bl s).drop p).getD k 0).toNat:=fun k=>by
  rw[ZO,List.getD_eq_getElem?_getD,List.getD_eq_getElem?_getD,List.getElem?_drop]
 have h0:=hb 0;have h1:=hb 1;have h2:=hb 2;have hl:(bl s).length=s.size:=rfl;have hd:((bl s).drop p).length=s.size - p:=by rw[List.length_drop,hl]
 have ht:((bl s).drop p).take (s.size - p)=(bl s).drop p:=List.take_of_length_le (by omega);rw[zeB,yz,ht,Bool.eq_iff_iff];rw[Nat.add_zero] at h0;rw[h0,h1,h2];show(([239,191,189]:List UInt8).isPrefixOf ((bl s).drop p)=true)↔_
 match hm:(bl s).drop p with
 |[]=>rw[hm] at hd;simp at hd⊢<;>omega
 |[a]=>rw[hm] at hd;simp at hd⊢<;>omega
 |[a,b]=>rw[hm] at hd;simp at hd⊢<;>omega
 |a::b::c::r=>
  rw[hm] at hd;simp only[List.length_cons] at hd;simp only[List.isPrefixOf,Bool.and_eq_true,beq_iff_eq,decide_eq_true_eq,List.getD_cons_zero,List.getD_cons_succ];constructor
  ·rintro⟨h1,h2,h3,_⟩;subst h1 h2 h3;exact⟨by omega,rfl,rfl,rfl⟩
  ·rintro⟨_,h1,h2,h3⟩;refine⟨?_, ?_, ?_,trivial⟩
   ·exact(UInt8.toNat_inj.1 h1).symm
   ·exact(UInt8.toNat_inj.1 h2).symm
   ·exact(UInt8.toNat_inj.1 h3).symm
theorem zna (z i b0 b1 b2 b3:Nat) (h0:b0<256) (h1:b1<256) (h2:b2<256) (h3:b3<256):dec z i b0 b1 b2 b3=(65533,1)↔((dec z i b0 b1 b2 b3).1=65533/\¬(i+3<=z/\b0=239/\b1=191/\b2=189)):=by
 unfold dec
 repeat' split
 all_goals first
  |exact⟨fun _=>⟨rfl,by omega⟩,fun _=>rfl⟩
  |exact⟨fun h=>by injection h with h1 h2;omega,fun h=>by have h1:=h.1;have h2:=h.2;dsimp only at h1;exfalso;omega⟩
theorem nx_mark (s:ByteArray) (p:Nat):nx s p=0↔((Utf8.decode s p).1=65533/\pf (s.extract p s.size) ⟨#[239,191,189]⟩=false):=by
 have hd:=zna s.size p (byt s p) (byt s (p+1)) (byt s (p+2)) (byt s (p+3)) (Zj _ _) (Zj _ _) (Zj _ _) (Zj _ _);rw[<-ZP] at hd
 have hn:nx s p=0↔Utf8.decode s p=(65533,1):=by
  unfold nx;constructor
  ·intro h;by_cases e:Utf8.decode s p=(65533,1)
   ·exact e
   ·rw[if_neg e] at h;exfalso
    have hp:(dec s.size p (byt s p) (byt s (p+1)) (byt s (p+2)) (byt s (p+3))).2≠0:=by
     unfold dec
     repeat' split
     all_goals simp
    rw[<-ZP] at hp;exact hp h
  ·intro h;rw[if_pos h]
 rw[hn,hd,pf_mark];simp only[decide_eq_false_iff_not]
theorem YR (s:ByteArray) (p:Nat) (h:nx s p≠0):(Utf8.decode s p).2=nx s p:=by
 unfold nx at*;split at h
 ·exact absurd rfl h
 ·rename_i e;rw[if_neg e]
theorem wid_le (z i b0 b1 b2 b3:Nat) (hi:i<z):i+wid z i b0 b1 b2 b3<=z:=by
 unfold wid;split
 ·omega
 ·unfold dec
  repeat' split
  all_goals dsimp only
  all_goals omega
theorem zch (s:ByteArray) (p:Nat) (hp:p<s.size) (h:nx s p≠0):p+nx s p<=s.size:=by
 rw[Ye];exact wid_le _ _ _ _ _ _ hp
def ZJ (s:ByteArray):Nat->Nat->Nat->Nat×Bool
 |0,_,k=>(k,true)
 |f+1,p,k=>if p<s.size then(if nx s p=0 then(k,false) else ZJ s f (p+nx s p) (k+1)) else(k,true)
def cnt (s:ByteArray):Nat×Bool:=ZJ s s.size 0 0
theorem zg3 (s:ByteArray) (f p k:Nat) (h:¬p<s.size):ZJ s f p k=(k,true):=by
 cases f with
 |zero=>rfl
 |succ f=>simp[ZJ,h]
theorem zcQ {s:ByteArray} {f p k:Nat} {c:Nat×Bool} (hp:p<s.size) (h0:nx s p≠0) (hf:0<f) (h:ZJ s f p k=c):ZJ s (f - 1) (p+nx s p) (k+1)=c:=by
 obtain⟨g,rfl⟩:∃g,f=g+1:=⟨f - 1,by omega⟩;rw[<-h];simp[ZJ,hp,h0]
theorem zdg (s:ByteArray) (hs:s.size<=2000) (w:World):Calls prog 50 #[.string s] w fun e w'=>e=.returned (.tuple #[.int .i64 ((cnt s).1:Int),.bool (cnt s).2])/\Below w.heap.size w w':=by
 go_enter func50,ntmps50;go_wp2
 go_loopw [4] (fun t4 wr=>∃p f k:Nat,wr=w.iter s p/\t4=.int .i64 k/\k<=p/\p<=s.size/\s.size<=p+f/\Hid (ZJ s f p k=cnt s)) (fun _ wr=>s.size - wr.iterPos w.heap.size)
 case atStart=>exact⟨0,s.size,0,rfl,rfl,by omega,by omega,by omega,rfl⟩
 case round=>
  obtain⟨p,f,k,rfl,rfl,hk,hps,hf,HC⟩:=hrel;by_cases hp:p<s.size
  ·have hnx:∀ty,(Instr.next (.pointer (some ⟨w.heap.size,0,none⟩)) true ty).run prog (w.iter s p)=_:=fun ty=>run_next_any w s p ty hp
   have hsl:(s.extract p s.size).size<=2000:=by rw[ByteArray.size_extract];omega
   have hr:0<=(Utf8.decode s p).1:=Nat.zero_le _;have hle:=decode_le s p;have hm:=nx_mark s p;by_cases h1:(Utf8.decode s p).1=65533
   ·cases h2:pf (s.extract p s.size) ⟨#[239,191,189]⟩
    ·have h0:nx s p=0:=hm.2 ⟨h1,h2⟩
     have HR:Hid (cnt s=(k,false)):=by
      show _=_;rw[<-HC.out];obtain⟨g,rfl⟩:∃g,f=g+1:=⟨f - 1,by omega⟩;simp[ZJ,hp,h0]
     have hpre:∀w,Calls prog 77 #[.string (s.extract p s.size),.string ⟨#[239,191,189]⟩] w fun e w'=>e=.returned (.bool false)/\w'=w:=fun w=>by have h:=zaq (s.extract p s.size) ⟨#[239,191,189]⟩ hsl (by decide) w;rw[h2] at h;exact h
     have HP:Hid (∀w,Calls prog 77 #[.string (s.extract p s.size),.string ⟨#[239,191,189]⟩] w fun e w'=>e=.returned (.bool false)/\w'=w):=hpre;clear hpre hm h0 h2 hle hr;rw[h1] at hnx;clear h1;go_wp2_with fail
     refine(HP.out _).mono ?_;rintro e w' ⟨rfl,rfl⟩;go_wp2;go_ret2;exact⟨by rw[HR.out];rfl,bal (Below.refl _ _) _⟩
    ·have h0:nx s p≠0:=fun h=>by have:=(hm.1 h).2;rw[h2] at this;cases this
     have hpre:∀w,Calls prog 77 #[.string (s.extract p s.size),.string ⟨#[239,191,189]⟩] w fun e w'=>e=.returned (.bool true)/\w'=w:=fun w=>by have h:=zaq (s.extract p s.size) ⟨#[239,191,189]⟩ hsl (by decide) w;rw[h2] at h;exact h
     have HP:Hid (∀w,Calls prog 77 #[.string (s.extract p s.size),.string ⟨#[239,191,189]⟩] w fun e w'=>e=.returned (.bool true)/\w'=w):=hpre;have HS:Hid (ZJ s (f - 1) (p+nx s p) (k+1)=cnt s):=zcQ hp h0 (by omega) HC.out;rw[h1,YR s p h0] at hnx;have hle2:p+nx s p<=s.size:=zch s p hp h0;have hpos:0<nx s p:=Nat.pos_of_ne_zero h0;clear hpre hm h0 h2 hle hr h1;generalize nx s p=n at*;go_wp2_with fail
     refine(HP.out _).mono ?_;rintro e w' ⟨rfl,rfl⟩;go_wp2
     go_roundw
     case rel=>exact⟨p+n,f - 1,k+1,rfl,by go_num,by omega,hle2,by omega,HS⟩
     case measure=>simp;omega
   ·have h0:nx s p≠0:=fun h=>h1 (hm.1 h).1
    have HS:Hid (ZJ s (f - 1) (p+nx s p) (k+1)=cnt s):=zcQ hp h0 (by omega) HC.out;rw[YR s p h0] at hnx;have hle2:p+nx s p<=s.size:=zch s p hp h0;have hpos:0<nx s p:=Nat.pos_of_ne_zero h0;have hd:(((Utf8.decode s p).1:Int)==65533)=false:=by simp;omega
    clear hm h0 hle hr h1;generalize nx s p=n at*;generalize(Utf8.decode s p).1=r at*;go_wp2
    go_roundw
    case rel=>exact⟨p+n,f - 1,k+1,rfl,by go_num,by omega,hle2,by omega,HS⟩
    case measure=>simp;omega
  ·have HR:Hid (cnt s=(k,true)):=by show _=_;rw[<-HC.out,zg3 s f p k hp]
   have hnx:∀ty,(Instr.next (.pointer (some ⟨w.heap.size,0,none⟩)) true ty).run prog (w.iter s p)=_:=fun ty=>run_next_end w s p ty hp
   go_wp2;go_ret2;exact⟨by rw[HR.out];rfl,bal (Below.refl _ _) _⟩
def zf4 (s:ByteArray) (p:Nat):Bool:=decide (nx s p=0\/(nx s p=1/\(byt s p<97\/122<byt s p)))
def nmF (s:ByteArray):Nat->Nat->Nat->Bool
 |0,_,k=>decide (0<k/\k<11)
 |f+1,p,k=>if p<s.size then(if zf4 s p then false else nmF s f (p+nx s p) (k+1)) else decide (0<k/\k<11)
def nm (s:ByteArray):Bool:=nmF s s.size 0 0
theorem nmF_end (s:ByteArray) (f p k:Nat) (h:¬p<s.size):nmF s f p k=decide (0<k/\k<11):=by
 cases f with
 |zero=>rfl
 |succ f=>simp[nmF,h]
theorem nm_step {s:ByteArray} {f p k:Nat} {c:Bool} (hp:p<s.size) (h0:zf4 s p=false) (hf:0<f) (h:nmF s f p k=c):nmF s (f - 1) (p+nx s p) (k+1)=c:=by
 obtain⟨g,rfl⟩:∃g,f=g+1:=⟨f - 1,by omega⟩;rw[<-h];simp[nmF,hp,h0]
theorem nm_no {s:ByteArray} {f p k:Nat} {c:Bool} (hp:p<s.size) (h0:zf4 s p=true) (hf:0<f) (h:nmF s f p k=c):c=false:=by
 obtain⟨g,rfl⟩:∃g,f=g+1:=⟨f - 1,by omega⟩;rw[<-h];simp[nmF,hp,h0]
theorem zbU {s:ByteArray} {f p k:Nat} (hp:p<s.size) (hf:0<f) (h:(ZJ s f p k).2=true):nx s p≠0/\(ZJ s (f - 1) (p+nx s p) (k+1)).2=true:=by
 obtain⟨g,rfl⟩:∃g,f=g+1:=⟨f - 1,by omega⟩;by_cases h0:nx s p=0
 ·simp[ZJ,hp,h0] at h
 ·refine⟨h0, ?_⟩;simp only[ZJ,if_pos hp,if_neg h0] at h;exact h
theorem zdZ (z i b0 b1 b2 b3:Nat):(dec z i b0 b1 b2 b3).1<=127↔b0<128:=by
 unfold dec
 repeat' split
 all_goals dsimp only
 all_goals omega
theorem zi7 (z i b0 b1 b2 b3:Nat) (h:b0<128):dec z i b0 b1 b2 b3=(b0,1):=by unfold dec;rw[if_pos h]
theorem zcq (s:ByteArray) (p:Nat) (h0:nx s p≠0):((Utf8.decode s p).1<=127↔nx s p=1)/\(nx s p=1->(Utf8.decode s p).1=byt s p):=by
 have hd:=zdZ s.size p (byt s p) (byt s (p+1)) (byt s (p+2)) (byt s (p+3));rw[<-ZP] at hd;have hone:byt s p<128->Utf8.decode s p=(byt s p,1):=fun h=>by rw[ZP,zi7 _ _ _ _ _ _ h]
 have hw:=Ye s p
 have hbig:¬byt s p<128->nx s p≠1:=fun h e=>by
  rw[hw] at e;unfold wid dec at e;rw[if_neg h] at e;revert e
  repeat' split
  all_goals first|(simp;done)|(exfalso;rename_i h9;exact h9 rfl)
 constructor
 ·rw[hd];constructor
  ·intro h;rw[<-YR s p h0,hone h]
  ·intro e;by_cases h:byt s p<128
   ·exact h
   ·exact absurd e (hbig h)
 ·intro e;by_cases h:byt s p<128
  ·rw[hone h]
  ·exact absurd e (hbig h)
theorem zbJ (s:ByteArray) (hs:s.size<=2000) (hv:Hid ((cnt s).2=true)) (w:World):Calls prog 141 #[.string s] w fun e w'=>e=.returned (.bool (nm s))/\Below w.heap.size w w':=by
 go_enter func141,ntmps141;go_wp2
 go_loopw [3] (fun t3 wr=>∃p f k:Nat,wr=w.iter s p/\t3=.int .i64 k/\k<=p/\p<=s.size/\s.size<=p+f/\Hid (nmF s f p k=nm s)/\Hid ((ZJ s f p k).2=true)) (fun _ wr=>s.size - wr.iterPos w.heap.size)
 case atStart=>exact⟨0,s.size,0,rfl,rfl,by omega,by omega,by omega,rfl,hv⟩
 case round=>
  obtain⟨p,f,k,rfl,rfl,hk,hps,hf,HC,HV⟩:=hrel;by_cases hp:p<s.size
  ·have hnx:∀ty,(Instr.next (.pointer (some ⟨w.heap.size,0,none⟩)) true ty).run prog (w.iter s p)=_:=fun ty=>run_next_any w s p ty hp
   obtain⟨h0,hv2⟩:=zbU hp (by omega) HV.out;obtain⟨hr1,hr2⟩:=zcq s p h0;have hle:=zch s p hp h0;have hpos:0<nx s p:=Nat.pos_of_ne_zero h0;rw[YR s p h0] at hnx;have HV2:Hid ((ZJ s (f - 1) (p+nx s p) (k+1)).2=true):=hv2;have hu:zf4 s p=decide (nx s p=0\/(nx s p=1/\(byt s p<97\/122<byt s p))):=rfl;cases hc:zf4 s p
   ·have HS:Hid (nmF s (f - 1) (p+nx s p) (k+1)=nm s):=nm_step hp hc (by omega) HC.out;have hno:¬(nx s p=1/\(byt s p<97\/122<byt s p)):=fun h=>by rw[hc] at hu;exact(of_decide_eq_false hu.symm) (Or.inr h)
    have hcase:((Utf8.decode s p).1<=127/\¬(Utf8.decode s p).1<97/\¬122<(Utf8.decode s p).1)\/¬(Utf8.decode s p).1<=127:=by
     by_cases h:(Utf8.decode s p).1<=127
     ·have h1:=hr1.1 h;have h2:=hr2 h1;refine Or.inl ⟨h, ?_, ?_⟩
      ·rw[h2];exact fun h=>hno ⟨h1,Or.inl h⟩
      ·rw[h2];exact fun h=>hno ⟨h1,Or.inr h⟩
     ·exact Or.inr h
    clear hu hc hr1 hr2 hno h0 hv2;generalize nx s p=n at*;generalize(Utf8.decode s p).1=r at*;rcases hcase with⟨h1,h2,h3⟩|h1
    ·go_wp2
     go_roundw
     case rel=>exact⟨p+n,f - 1,k+1,rfl,by go_num,by omega,hle,by omega,HS,HV2⟩
     case measure=>simp;omega
    ·go_wp2
     go_roundw
     case rel=>exact⟨p+n,f - 1,k+1,rfl,by go_num,by omega,hle,by omega,HS,HV2⟩
     case measure=>simp;omega
   ·have HR:Hid (nm s=false):=nm_no hp hc (by omega) HC.out;have hyes:nx s p=0\/(nx s p=1/\(byt s p<97\/122<byt s p)):=by rw[hc] at hu;exact of_decide_eq_true hu.symm
    have hcase:(Utf8.decode s p).1<=127/\((Utf8.decode s p).1<97\/(¬(Utf8.decode s p).1<97/\122<(Utf8.decode s p).1)):=by
     rcases hyes with h|⟨h1,h2⟩
     ·exact absurd h h0
     ·rw[hr2 h1];have h3:=hr1.2 h1;rw[hr2 h1] at h3;exact⟨h3,by omega⟩
    clear hu hc hr1 hr2 hyes h0 hv2;generalize nx s p=n at*;generalize(Utf8.decode s p).1=r at*;obtain⟨h1,h2|⟨h2,h3⟩⟩:=hcase
    ·go_wp2;go_ret;exact⟨by rw[HR.out];rfl,bal (Below.refl _ _) _⟩
    ·go_wp2;go_ret;exact⟨by rw[HR.out];rfl,bal (Below.refl _ _) _⟩
  ·have HR:Hid (nm s=decide (0<k/\k<11)):=by show _=_;rw[<-HC.out,nmF_end s f p k hp]
   have hnx:∀ty,(Instr.next (.pointer (some ⟨w.heap.size,0,none⟩)) true ty).run prog (w.iter s p)=_:=fun ty=>run_next_end w s p ty hp
   by_cases h1:0<k
   ·by_cases h2:k<11
    ·have HR2:Hid (nm s=true):=HR.out.trans (decide_eq_true ⟨h1,h2⟩);have hd1:decide ((k:Int)<11)=true:=by simp;omega
     have hd2:decide ((k:Int)<=10)=true:=by simp;omega
     go_wp2;go_ret;exact⟨by rw[HR2.out];rfl,bal (Below.refl _ _) _⟩
    ·have HR2:Hid (nm s=false):=HR.out.trans (decide_eq_false (fun h=>h2 h.2));have hd1:decide ((k:Int)<11)=false:=by simp;omega
     have hd2:decide ((k:Int)<=10)=false:=by simp;omega
     go_wp2;go_ret;exact⟨by rw[HR2.out];rfl,bal (Below.refl _ _) _⟩
   ·have HR2:Hid (nm s=false):=HR.out.trans (decide_eq_false (fun h=>h1 h.1));go_wp2;go_ret;exact⟨by rw[HR2.out];rfl,bal (Below.refl _ _) _⟩
end cin
end Go.Proofs.YtohoajjdoihekaaGreatDoor
