import Derived.Test.YtohoajjdoihekaaGreatDoorPe
import Derived.Defers
import Derived.Recover
import Derived.Deep.LoopGhost
set_option linter.unusedVariables false
set_option linter.unusedSimpArgs false
namespace Go.Proofs.YtohoajjdoihekaaGreatDoor
namespace cin
open Go.RowKit Go.Proofs.Tryz Tryz
set_option maxRecDepth 100000
set_option maxHeartbeats 8000000
theorem pay_B {base fb:Nat} {F:Fz} {S:List Nat} {sv mv:Value} (c:Nat) (hc:c<=100000000) (w:World) (h:Fr base fb F S sv mv w):
  Calls prog 204 #[.pointer (some ⟨fb,0,none⟩),.int .i64 (c:Int)] w fun e w'=>if F.gas<c then Pan e/\Kb [] w w' else e=.returned (.tuple #[])/\Fr base fb {F with gas:=F.gas - c} S sv mv w'/\Kb [fb] w w':=by
 have hg:=h.row.cell (i:=16) (by decide);have hz:=h.row.frozen 16;rw[show F.cell sv mv 16=.int .i64 (F.gas:Int) from rfl] at hg;have hgl:=h.gal;by_cases hl:F.gas<c
 ·have d:decide ((F.gas:Int)<(c:Int))=true:=decide_eq_true (by omega);simp only[if_pos hl];go_enter func204,ntmps204;go_wp2;exact⟨rfl,⟨_,_,rfl⟩,Kb.refl _ _⟩
 ·have d:decide ((F.gas:Int)<(c:Int))=false:=decide_eq_false (by omega);simp only[if_neg hl];have HH:=zb h;clear h;go_enter func204,ntmps204;go_wp2;go_end0;have hkb:=((Kb.refl [fb] w).setCell (p:=⟨fb,16,none⟩) (Or.inl (by simp)) (.int .i64 ((F.gas:Int) - (c:Int))));refine⟨rfl,(HH.out.own2 (F':={F with gas:=F.gas - c}) rfl rfl rfl rfl (by show F.gas - c<=_;omega) ?_ hkb).1,hkb⟩;rw[<-zak F sv mv (F.gas - c)];refine(HH.out.row.set 16 _).congr fun i hi=> ?_
  by_cases hi2:i=16
  ·rw[if_pos hi2,if_pos hi2,show((F.gas - c:Nat):Int)=(F.gas:Int) - (c:Int) by omega]
  ·rw[if_neg hi2,if_neg hi2]
theorem PartOf.old {w:World} {mv v:Value} {m:List UInt8} {a b:Nat} (h:PartOf mv v a b) (hm:Old mv m w) (hl:a+b<=m.length):Rds w v (zP m a b):=by
 obtain⟨ad,c,rfl,hbc,hp⟩:=h;have hlen:=zdh hl;refine⟨ad,c,by rw[hlen],by rw[hlen];exact hbc,fun hne=> ?_⟩;obtain⟨g,len,cap,e,rfl,hle⟩:=hp (fun h=>hne (List.eq_nil_of_length_eq_zero (by rw[hlen];exact h)));obtain⟨h1,h2⟩:=hm g len cap e;refine⟨g,a,rfl,h1,fun i hi=> ?_⟩;rw[hlen] at hi;have h3:=zf6 hl hi;rw[List.getElem?_eq_getElem (by rw[hlen];exact hi),List.getElem?_eq_getElem (by omega)] at h3;rw[h2 (a+i) (by omega),<-Option.some.inj h3]
def YR (t f n:Nat) (F:Fz):Option (Unit×Fz):=match zk f n F with
 |none=>none
 |some ((a,b),F1)=>match zk t n F1 with
  |none=>none
  |some ((a2,b2),F2)=>if F2.gas<3*zD b then none else some ((),{F2 with gas:=F2.gas - 3*zD b,mem:=splice F2.mem a2 (zP F1.mem a b)})
def yb (F:Fz):Option (Unit×Fz):=by3 F (YR (zY F) (Zh F) (zci F) (zaF F))
theorem zgT {base fb:Nat} {F:Fz} {S:List Nat} {sv mv:Value} (w:World) (h:Fr base fb F S sv mv w):
  Calls prog 272 #[.pointer (some ⟨fb,0,none⟩)] w (Out (yb F) zx base fb S w):=by
 go_enter func272,ntmps272;go_wp2;refine pops3 _ _ h rfl rfl rfl rfl ?_ ?_
 ·intro u pv s x hno hd hk;have e:yb F=none:=zfw hno;rw[e];exact⟨hd,⟨_,_,rfl⟩,hk⟩
 ·intro x S' sv' mv' b0 b1 b2 hfr hkb hsub hn0 hg0 hr0 hn1 hg1 hr1 hn2 hg2 hr2;have HE:=zb (zj6 (r:=YR (zY F) (Zh F) (zci F) (zaF F)) hfr);change Hid (yb F=_) at HE;change Fr base fb (zaF F) S' sv' mv' x at hfr;change zX x b0 (zY F) at hr0;change zX x b1 (Zh F) at hr1;change zX x b2 (zci F) at hr2;simp only[zF,List.foldl_cons,List.foldl_nil,Act.put];generalize zaF F=F2 at*;generalize zY F=p at*;generalize Zh F=q at*;generalize zci F=r at*;generalize yb F=R at*;have HJ:=zb (zo6 q r x hfr);have hfoot:=hfr.footlt;have h32:=hfr.m32;obtain⟨d0,d1,d2,d3⟩:=ze hr1;obtain⟨e0,e1,e2,e3⟩:=ze hr2;have HKB:=zb hkb;have HSU:=zb hsub;have HR0:=zb hr0;have HR2:=zb hr2;unfold YR at HE;clear hfr hkb hsub hr0 hr1 hr2 h;go_wp2_with fail
  refine HJ.out.mono ?_;rintro e y ⟨ho, -⟩;cases hq:zk q r F2 with
  |none=>
   rw[hq] at ho HE;obtain⟨⟨u,pv,rfl⟩,hk⟩:=ho;have e:R=none:=HE.out;rw[e];exact⟨rfl,⟨_,_,rfl⟩,HKB.out.trans hk HSU.out⟩
  |some z=>
   obtain⟨⟨a,b⟩,F3⟩:=z;rw[hq] at ho HE;obtain⟨v,S3,sv3,mv3,rfl,hf3,hk3,hs3,hpo⟩:=ho;have hr0:=hk3.row HR0.out hn0;have hr2:=hk3.row HR2.out hn2;have HB:=zb (zbm hq);have hlen:=yh hq h32;have h033:b0∉S3:=fun hm=>(hs3 b0 hm).elim hn0 (fun h=>by have:=HR0.out.lt;omega)
   have h232:b2∉S3:=fun hm=>(hs3 b2 hm).elim hn2 (fun h=>by have:=HR2.out.lt;omega)
   have hkS:Kb S w y:=HKB.out.trans hk3 HSU.out;have hsS:∀k∈S3,k∈S\/w.heap.size<=k:=fun k hk=>(hs3 k hk).elim (HSU.out k) (fun h=>Or.inr (Nat.le_trans HKB.out.size h))
   have HJ2:=zb (zo6 p r y hf3);have h323:=hf3.m32;have hml:=hf3.mel;have hfm:=hf3.fm;obtain⟨adv,cv,rfl,hpo2⟩:=hpo;have HPO:Hid (PartOf mv3 (.slice adv b cv) a b):=⟨adv,cv,rfl,hpo2⟩;obtain⟨g0,g1,g2,g3⟩:=ze hr0;obtain⟨k0,k1,k2,k3⟩:=ze hr2;have HKS:=zb hkS;have HSS:=zb hsS;have HFM:=zb hfm;clear hpo2 hf3 hk3 hs3 hr0 hr2 HJ hkS hsS hq hfm;go_wp2_with fail
   refine HJ2.out.mono ?_;rintro e y2 ⟨ho,hol⟩;cases hq2:zk p r F3 with
   |none=>
    rw[hq2] at ho;obtain⟨⟨u,pv,rfl⟩,hk⟩:=ho;have e:R=none:=by rw[HE.out];simp only[hq2]
    rw[e];exact⟨rfl,⟨_,_,rfl⟩,HKS.out.trans hk HSS.out⟩
   |some z2=>
    obtain⟨⟨a2,b2'⟩,F4⟩:=z2;rw[hq2] at ho hol;have hol:=hol (by simp);obtain⟨v2,S4,sv4,mv4,rfl,hf4,hk4,hs4,hpo4⟩:=ho;have HE2:Hid (R=if F4.gas<3*zD b then none else some ((),{F4 with gas:=F4.gas - 3*zD b,mem:=splice F4.mem a2 (zP F3.mem a b)})):=by show _=_;rw[HE.out];simp only[hq2]
    have hb2:b2'=b:=by rw[zbm hq2,HB.out]
    subst hb2;have hlen4:=yh hq2 h323;have hmel4:=hf4.mel;have hb16:b2'<=65536:=by omega
    have HST:Hid (∀w,Calls prog 287 #[.int .i64 (b2':Int)] w fun e w'=>e=.returned (.int .i64 ((zD b2':Nat):Int))/\w'=w):=fun w=>YT b2' (by omega) w
    have hsb:zD b2'<=3000:=by unfold zD;omega
    have HPY:=zb (pay_B (3*zD b2') (by omega) y2 hf4);rw[show((3*zD b2':Nat):Int)=3*(zD b2':Int) by omega] at HPY;obtain⟨adw,cw,rfl,hpw2⟩:=hpo4;have HPW:Hid (PartOf mv4 (.slice adw b2' cw) a2 b2'):=⟨adw,cw,rfl,hpw2⟩;have HK4:=zb (HKS.out.trans hk4 HSS.out);have HS4:Hid (∀k∈S4,k∈S\/w.heap.size<=k):=fun k hk=>(hs4 k hk).elim (HSS.out k) (fun h=>Or.inr (Nat.le_trans HKS.out.size h))
    have HOL:=zb hol;have HFB:Hid (fb∈S4):=by show fb∈S4;rw[hf4.foot];simp
    generalize zD b2'=sb at*;clear hf4 hk4 hs4 hpw2 hol HJ2 hq2 HE g0 g1 g2 g3 k0 k1 k2 k3 d0 d1 d2 d3 e0 e1 e2 e3;go_wp2_with fail
    refine(HST.out _).mono ?_;rintro e y3 ⟨rfl,hy3⟩;obtain rfl:=hy3.symm;go_wp2_with fail
    refine HPY.out.mono ?_;intro e y5 hpay;by_cases hg:F4.gas<3*sb
    ·rw[if_pos hg] at hpay;obtain⟨⟨u,pv,rfl⟩,hk⟩:=hpay;have e:R=none:=HE2.out.trans (if_pos hg);rw[e];exact⟨rfl,⟨_,_,rfl⟩,HK4.out.trans hk (by simp)⟩
    ·rw[if_neg hg] at hpay;obtain⟨rfl,hf5,hk5⟩:=hpay;have e:R=some ((),{F4 with gas:=F4.gas - 3*sb,mem:=splice F4.mem a2 (zP F3.mem a b2')}):=HE2.out.trans (if_neg hg);have hol5:=HOL.out.kb hk5 (fun k hk hm=>HFM.out k hk (List.mem_singleton.1 hm));have hrd:=HPO.out.old hol5 hlen;obtain⟨x',hrun,hf6,hk6⟩:=zeU hf5 HPW.out hrd (by unfold zP;rw[List.length_take,List.length_drop];omega) 3
     have HO:Hid (Out R zx base fb S w (.returned (.tuple #[])) x'):=by
      show Out _ _ _ _ _ _ _ _;rw[e];refine⟨rfl,S4,sv4,mv4,hf6,(HK4.out.trans hk5 (fun i hi=> ?_)).trans hk6 HS4.out,HS4.out⟩;rw[List.mem_singleton.1 hi];exact HS4.out fb HFB.out
     have HRUN:=zb hrun;clear hol5 hrd hf5 hk5 hf6 hk6 hrun HPY HST e;have hrun:=HRUN.out;go_wp2;go_end0;exact HO.out
section
open Go.Maps
section
variable {s:Act} {x:World} {pos:String} {af:Array Edge} {g:Option (Nat×Bool)} {K:Act->World->Prop} {Q:Exit->Act->World->Prop}
theorem zfN {kd a key t0 t1 t2 d:Nat} {ty:TypeId} (e0:s.tmps.getD t0 undef=.int .i64 (kd:Int)) (e1:s.tmps.getD t1 undef=wv a) (e2:s.tmps.getD t2 undef=wv key) (hK:K (s.put (some d) (ZU kd a key)) x):
  Oper.wp prog ⟨some d,.build 217 #[(0,.tmp t0),(1,.tmp t1),(2,.tmp t2)],ty,pos,af,g⟩ s x K Q:=by
 have f0:s.eval (.tmp t0)=.int .i64 (kd:Int):=e0;have f1:s.eval (.tmp t1)=wv a:=e1;have f2:s.eval (.tmp t2)=wv key:=e2;have g0:s.tmps[t0]?.getD undef=.int .i64 (kd:Int):=by rw[<-Array.getD_eq_getD_getElem?];exact e0
 have g1:s.tmps[t1]?.getD undef=wv a:=by rw[<-Array.getD_eq_getD_getElem?];exact e1
 have g2:s.tmps[t2]?.getD undef=wv key:=by rw[<-Array.getD_eq_getD_getElem?];exact e2
 go_simp;exact hK
end
theorem load_r0 {base fb:Nat} {F:Fz} {S:List Nat} {sv mv:Value} {Q:Exit->Act->World->Prop} (a:Act) (w:World) {tb kd r:Nat} {T:TS} {V:TV} (htr:Tr base tb T V w) (hptr:F.trail=.pointer (some ⟨tb,0,none⟩)) (hdis:∀k∈S,¬zG tb T V k) (hno:0∉S) (hget:∀x,Tr base tb T V x->Calls prog 202 #[.pointer (some ⟨tb,0,none⟩),ZU kd F.self (zA (zi (F)))] x fun e w'=>e=.returned (wv r)/\Below x.heap.size x w') (h:Fr base fb F S sv mv w) (hsz:([4,5,6,7,8,9,10,11,12,13,14,15,16,17,18,19,20,21,22]:List Nat).all (fun d=>decide (d<a.tmps.size))=true) (c1:a.tmps.getD 1 undef=.int .i64 (kd:Int)) (c0:a.tmps.getD 0 undef=.pointer (some ⟨fb,0,none⟩))
  (hpan:∀u pv s x,(zi (F)=none\/zl (r) (zh (zi (F)))=none)->s.defers=a.defers->Kb S w x->Q (.panic [{v:=.iface u pv,recovered:=false}]) s x)
  (hok:∀(x:World) (S':List Nat) (sv' mv':Value),Fr base fb (zh (zl (r) (zh (zi (F))))) S' sv' mv' x->Kb S w x->(∀j∈S',j∈S\/w.heap.size<=j)->Q .normal (zF a [(4,.pointer (some ⟨fb,0,none⟩)),(5,.pointer (some ⟨fb,0,none⟩)),(6,.pointer (some ⟨fb,19,none⟩)),(7,.pointer (some ⟨fb,0,none⟩)),(8,.pointer (some ⟨fb,0,none⟩)),(9,.pointer (some ⟨fb,0,none⟩)),(10,F.trail),(11,.int .i64 (kd:Int)),(12,.pointer (some ⟨fb,0,none⟩)),(13,.pointer (some ⟨fb,0,none⟩)),(14,.pointer (some ⟨fb,3,none⟩)),(15,wv (F.self)),(16,.pointer (some ⟨fb,0,none⟩)),(17,.pointer (some ⟨fb,0,none⟩)),(18,.pointer (some ⟨fb,19,none⟩)),(19,wv (zA (zi (F)))),(20,ZU kd F.self (zA (zi (F)))),(21,wv (r)),(22,Value.tuple #[])]) x):
  (Code.region 0 #[⟨some 4,.move (.tmp 0),132,"instructions.go:95",#[],none⟩,⟨some 5,.nilCheck (.tmp 4),0,"instructions.go:95",#[⟨0,.data⟩],none⟩,⟨some 6,.fieldAddr 137 (.tmp 5) 10,0,"instructions.go:95",#[⟨1,.data⟩],none⟩,⟨some 7,.move (.tmp 0),132,"instructions.go:95",#[],none⟩,⟨some 8,.nilCheck (.tmp 7),0,"instructions.go:95",#[⟨3,.data⟩],none⟩,⟨some 9,.fieldAddr 137 (.tmp 8) 0,0,"instructions.go:95",#[⟨4,.data⟩],none⟩,⟨some 10,.load 96 (.tmp 9),96,"instructions.go:95",#[⟨5,.data⟩],none⟩,⟨some 11,.move (.tmp 1),215,"instructions.go:95",#[],none⟩,⟨some 12,.move (.tmp 0),132,"instructions.go:95",#[],none⟩,⟨some 13,.nilCheck (.tmp 12),0,"instructions.go:95",#[⟨8,.data⟩],none⟩,⟨some 14,.fieldAddr 137 (.tmp 13) 3,0,"instructions.go:95",#[⟨9,.data⟩],none⟩,⟨some 15,.load 24 (.tmp 14),24,"instructions.go:95",#[⟨10,.data⟩],none⟩,⟨some 16,.move (.tmp 0),132,"instructions.go:95",#[],none⟩,⟨some 17,.nilCheck (.tmp 16),0,"instructions.go:95",#[⟨12,.data⟩],none⟩,⟨some 18,.fieldAddr 137 (.tmp 17) 10,0,"instructions.go:95",#[⟨13,.data⟩],none⟩,⟨some 19,.call ⟨.value (.func 257),#[.tmp 18],#[135]⟩,24,"instructions.go:95",#[⟨14,.data⟩],none⟩,⟨some 20,.build 217 #[(0,.tmp 11),(1,.tmp 15),(2,.tmp 19)],217,"instructions.go:95",#[⟨7,.data⟩,⟨11,.data⟩,⟨15,.data⟩],none⟩,⟨some 21,.call ⟨.value (.func 202),#[.tmp 10,.tmp 20],#[96,217]⟩,24,"instructions.go:95",#[⟨6,.data⟩,⟨16,.data⟩,⟨15,.chain⟩],none⟩,⟨some 22,.call ⟨.value (.func 259),#[.tmp 6,.tmp 21],#[135,24]⟩,0,"instructions.go:95",#[⟨2,.data⟩,⟨17,.data⟩,⟨17,.chain⟩],none⟩] true).wp prog Q a w:=by
 have hsame:∀k:Nat,100000<((fun k=>match k with|0=>F|1=>zh (zi (F))|_=>zh (zl (r) (zh (zi (F))))) k).gas\/Same F ((fun k=>match k with|0=>F|1=>zh (zi (F))|_=>zh (zl (r) (zh (zi (F))))) k):=by
  intro k;have s0:100000<(F).gas\/Same F F:=Or.inr (Same.refl F);have s1:=Zp s0;have s2:=ZW s1 (r)
  match k with
  |0=>exact s0
  |1=>exact s1
  |_+2=>exact s2
 exact ZC (fun k=>match k with|0=>F|1=>zh (zi (F))|_=>zh (zl (r) (zh (zi (F))))) h [(1,.int .i64 (kd:Int)),(0,.pointer (some ⟨fb,0,none⟩))] [(some 4,.v (.pointer (some ⟨fb,0,none⟩))),(some 5,.v (.pointer (some ⟨fb,0,none⟩))),(some 6,.v (.pointer (some ⟨fb,19,none⟩))),(some 7,.v (.pointer (some ⟨fb,0,none⟩))),(some 8,.v (.pointer (some ⟨fb,0,none⟩))),(some 9,.v (.pointer (some ⟨fb,0,none⟩))),(some 10,.v (F.trail)),(some 11,.v (.int .i64 (kd:Int))),(some 12,.v (.pointer (some ⟨fb,0,none⟩))),(some 13,.v (.pointer (some ⟨fb,0,none⟩))),(some 14,.v (.pointer (some ⟨fb,3,none⟩))),(some 15,.v (wv (F.self))),(some 16,.v (.pointer (some ⟨fb,0,none⟩))),(some 17,.v (.pointer (some ⟨fb,0,none⟩))),(some 18,.v (.pointer (some ⟨fb,19,none⟩))),(some 19,.v (wv (zA (zi (F))))),(some 20,.v (ZU kd F.self (zA (zi (F))))),(some 21,.v (wv (r))),(some 22,.v (Value.tuple #[]))] [15,18] [6,11,16,17] (by kernel_rfl) hsz (Zi c1 (Zi c0 rfl)) (by kernel_rfl) trivial
  (zf _ _ _ rfl rfl (fun s x S1 sv1 mv1 hfr hkb hsub hdf hv hl K hK=>zbn (r:=zi (F)) (val:=wv) YO (ev1 (hv 18 _ rfl)) (Ym x hfr) rfl (fun _ _ e=>by rw[e];rfl) (fun hrn u pv x' hk=>hpan u pv s x' (Or.inl hrn) hdf (hkb.trans hk hsub)) hK)
  (zf _ _ _ rfl rfl (fun s x S1 sv1 mv1 hfr hkb hsub hdf hv hl K hK=>zbn (r:=zl (r) (zh (zi (F)))) (val:=zx) zbC (ev2 (hv 6 _ rfl) (hv 21 _ rfl)) (yg (r) x hfr) rfl (fun _ _ _=>rfl) (fun hrn u pv x' hk=>hpan u pv s x' (Or.inr hrn) hdf (hkb.trans hk hsub)) hK)
  True.intro))
  (zf _ _ _ rfl rfl (fun s x k S1 sv1 mv1 hfr hkb hkp hv hl K hK=>by
    rcases hsame k with hbd|hsm
    ·exact absurd hfr.gal (Nat.not_le.2 hbd)
    ·have e:=hsm.trail;exact zv (v:=F.trail) (fun w=>by kernel_rfl) (hv 9 _ rfl) ((hfr.row.cell (i:=0) (by decide)).trans (congrArg (fun z=>some z) e)) (hK _ x (Below.refl _ _) nn1 rfl))
  (zf _ _ _ rfl rfl (fun s x k S1 sv1 mv1 hfr hkb hkp hv hl K hK=>by
    rcases hsame k with hbd|hsm
    ·exact absurd hfr.gal (Nat.not_le.2 hbd)
    ·have e:=hsm.self;exact zB (n:=F.self) (hv 14 _ rfl) ((hfr.row.cell (i:=3) (by decide)).trans (congrArg (fun z=>some (Value.int .u64 (za z 0))) e)) ((hfr.row.cell (i:=4) (by decide)).trans (congrArg (fun z=>some (Value.int .u64 (za z 1))) e)) ((hfr.row.cell (i:=5) (by decide)).trans (congrArg (fun z=>some (Value.int .u64 (za z 2))) e)) ((hfr.row.cell (i:=6) (by decide)).trans (congrArg (fun z=>some (Value.int .u64 (za z 3))) e)) (hK _ x (Below.refl _ _) nn1 rfl))
  (zf _ _ _ rfl rfl (fun s x k S1 sv1 mv1 hfr hkb hkp hv hl K hK=>zfN (hv 11 _ rfl) (hv 15 _ rfl) (hv 19 _ rfl) (hK _ x (Below.refl _ _) nn1 rfl))
  (zf _ _ _ rfl rfl (fun s x k S1 sv1 mv1 hfr hkb hkp hv hl K hK=>ZL zll (ev2 (((hv 10 _ rfl)).trans hptr) (hv 20 _ rfl)) (hget x (htr.kb hkb hdis hno)) (fun e y h9=>⟨_,h9.1,hK _ y h9.2 nn1 rfl⟩))
  True.intro))))
  fun g x S' sv' mv' hfr hkb hsub hT=>hok x S' sv' mv' hfr hkb hsub
end
section
open Go.Maps
def PhO (R:World->Prop) (w:World):Nat->World->Prop
 |0,x=>Below w.heap.size w x
 |_,x=>R x
theorem Yj {R:World->Prop} {w x:World} {k:Nat} (h:PhO R w k x) (hk:k<=0):Below w.heap.size w x:=by
 match k,hk,h with
 |0,_,h=>exact h
theorem zpn {fb tb kd self key v bk bv:Nat} {R:World->Prop} {Q:Exit->Act->World->Prop} (a:Act) (w:World) (rk:zX w bk key) (rv:zX w bv v) (hlt:fb<w.heap.size) (htp:w.cell? ⟨fb,0,none⟩=some (.pointer (some ⟨tb,0,none⟩))) (hself:∀x,Below w.heap.size w x->x.cell? ⟨fb,3,none⟩=some (.int .u64 (za self 0))/\x.cell? ⟨fb,4,none⟩=some (.int .u64 (za self 1))/\x.cell? ⟨fb,5,none⟩=some (.int .u64 (za self 2))/\x.cell? ⟨fb,6,none⟩=some (.int .u64 (za self 3))) (hset:∀x,Below w.heap.size w x->Calls prog 154 #[.pointer (some ⟨tb,0,none⟩),.agg #[.int .i64 (kd:Int),.int .u64 (za self 0),.int .u64 (za self 1),.int .u64 (za self 2),.int .u64 (za self 3),.int .u64 (za key 0),.int .u64 (za key 1),.int .u64 (za key 2),.int .u64 (za key 3)],wv v] x fun e w'=>e=.returned (.tuple #[])/\R w') (h0:Below w.heap.size w w.drew) (hsz:([16,17,18,19,20,21,22,23,24,25,26,27,28]:List Nat).all (fun d=>decide (d<a.tmps.size))=true) (c0:a.tmps.getD 0 undef=.pointer (some ⟨fb,0,none⟩)) (c1:a.tmps.getD 1 undef=.int .i64 (kd:Int)) (c4:a.tmps.getD 4 undef=.pointer (some ⟨bk,0,none⟩)) (c5:a.tmps.getD 5 undef=.pointer (some ⟨bv,0,none⟩))
  (hok:∀(x:World),(PhO R w) 1 x->Q .normal (zF a [(16,.pointer (some ⟨fb,0,none⟩)),(17,.pointer (some ⟨fb,0,none⟩)),(18,.pointer (some ⟨fb,0,none⟩)),(19,.pointer (some ⟨tb,0,none⟩)),(20,.int .i64 (kd:Int)),(21,.pointer (some ⟨fb,0,none⟩)),(22,.pointer (some ⟨fb,0,none⟩)),(23,.pointer (some ⟨fb,3,none⟩)),(24,wv self),(25,wv key),(26,.agg #[.int .i64 (kd:Int),.int .u64 (za self 0),.int .u64 (za self 1),.int .u64 (za self 2),.int .u64 (za self 3),.int .u64 (za key 0),.int .u64 (za key 1),.int .u64 (za key 2),.int .u64 (za key 3)]),(27,wv v),(28,Value.tuple #[])]) x):
  (Code.region 2 #[⟨some 16,.move (.tmp 0),132,"instructions.go:101",#[],none⟩,⟨some 17,.nilCheck (.tmp 16),0,"instructions.go:101",#[⟨0,.data⟩],none⟩,⟨some 18,.fieldAddr 137 (.tmp 17) 0,0,"instructions.go:101",#[⟨1,.data⟩],none⟩,⟨some 19,.load 96 (.tmp 18),96,"instructions.go:101",#[⟨2,.data⟩],none⟩,⟨some 20,.move (.tmp 1),215,"instructions.go:101",#[],none⟩,⟨some 21,.move (.tmp 0),132,"instructions.go:101",#[],none⟩,⟨some 22,.nilCheck (.tmp 21),0,"instructions.go:101",#[⟨5,.data⟩],none⟩,⟨some 23,.fieldAddr 137 (.tmp 22) 3,0,"instructions.go:101",#[⟨6,.data⟩],none⟩,⟨some 24,.load 24 (.tmp 23),24,"instructions.go:101",#[⟨7,.data⟩],none⟩,⟨some 25,.load 24 (.tmp 4),24,"instructions.go:101",#[],none⟩,⟨some 26,.build 217 #[(0,.tmp 20),(1,.tmp 24),(2,.tmp 25)],217,"instructions.go:101",#[⟨4,.data⟩,⟨8,.data⟩,⟨9,.data⟩],none⟩,⟨some 27,.load 24 (.tmp 5),24,"instructions.go:101",#[],none⟩,⟨some 28,.call ⟨.value (.func 154),#[.tmp 19,.tmp 26,.tmp 27],#[96,217,24]⟩,0,"instructions.go:101",#[⟨3,.data⟩,⟨10,.data⟩,⟨11,.data⟩],none⟩] true).wp prog Q a w:=by
 refine ZQ (PhO R w) (fun _ _ _=>True) [(0,.pointer (some ⟨fb,0,none⟩)),(1,.int .i64 (kd:Int)),(4,.pointer (some ⟨bk,0,none⟩)),(5,.pointer (some ⟨bv,0,none⟩))] [(some 16,.v (.pointer (some ⟨fb,0,none⟩))),(some 17,.v (.pointer (some ⟨fb,0,none⟩))),(some 18,.v (.pointer (some ⟨fb,0,none⟩))),(some 19,.v (.pointer (some ⟨tb,0,none⟩))),(some 20,.v (.int .i64 (kd:Int))),(some 21,.v (.pointer (some ⟨fb,0,none⟩))),(some 22,.v (.pointer (some ⟨fb,0,none⟩))),(some 23,.v (.pointer (some ⟨fb,3,none⟩))),(some 24,.v (wv self)),(some 25,.v (wv key)),(some 26,.v (.agg #[.int .i64 (kd:Int),.int .u64 (za self 0),.int .u64 (za self 1),.int .u64 (za self 2),.int .u64 (za self 3),.int .u64 (za key 0),.int .u64 (za key 1),.int .u64 (za key 2),.int .u64 (za key 3)])),(some 27,.v (wv v)),(some 28,.v (Value.tuple #[]))] [12] [3,8,9,11] (by kernel_rfl) hsz (Zi c0 (Zi c1 (Zi c4 (Zi c5 rfl)))) (by kernel_rfl) h0
  (zf _ _ _ rfl rfl (fun s x hph hdf hv hl K hK=>by
   refine ZL zey (ev3 (hv 19 _ rfl) (hv 26 _ rfl) (hv 27 _ rfl)) (hset x hph) ?_;rintro e y ⟨rfl,hR⟩;exact⟨_,rfl,hK _ y hR trivial nn1 rfl⟩
  )
  True.intro)
  (zf _ _ _ rfl rfl (fun k s x hk hlo hhi hph hdf hv hl K hK=>by
   have k0:x.cell? ⟨fb,0,none⟩=some (.pointer (some ⟨tb,0,none⟩)):=((Yj hph (by have:=hhi 0 12 rfl (by kernel_rfl);omega)).cell hlt).trans htp;exact zv (fun w=>by kernel_rfl) (hv 18 _ rfl) k0 (hK _ x rfl nn1 rfl)
  )
  (zf _ _ _ rfl rfl (fun k s x hk hlo hhi hph hdf hv hl K hK=>by
   obtain⟨y0,y1,y2,y3⟩:=hself x (Yj hph (by have:=hhi 0 12 rfl (by kernel_rfl);omega));exact zB (n:=self) (hv 23 _ rfl) y0 y1 y2 y3 (hK _ x rfl nn1 rfl)
  )
  (zf _ _ _ rfl rfl (fun k s x hk hlo hhi hph hdf hv hl K hK=>by
   obtain⟨y0,y1,y2,y3⟩:=ze (zg rk (Yj hph (by have:=hhi 0 12 rfl (by kernel_rfl);omega)));exact zB (n:=key) (hv 4 _ rfl) y0 y1 y2 y3 (hK _ x rfl nn1 rfl)
  )
  (zf _ _ _ rfl rfl (fun k s x hk hlo hhi hph hdf hv hl K hK=>by
   obtain⟨y0,y1,y2,y3⟩:=ze (zg rv (Yj hph (by have:=hhi 0 12 rfl (by kernel_rfl);omega)));exact zB (n:=v) (hv 5 _ rfl) y0 y1 y2 y3 (hK _ x rfl nn1 rfl)
  )
  True.intro))))
  (fun _ _ _ h=>(zo rfl h).elim) ?_
 intro g x hph hT;exact hok x hph
end
section
open Go.Maps
structure FT (base fb tb:Nat) (F:Fz) (T:TS) (S:List Nat) (sv mv:Value) (V:TV) (w:World):Prop where
 fr:Fr base fb F S sv mv w
 tr:Tr base tb T V w
 ptr:F.trail=.pointer (some ⟨tb,0,none⟩)
 dis:∀k∈S,¬zG tb T V k
def KF (S:List Nat) (tb:Nat) (T:TS) (V:TV) (w w':World):Prop:=∃S2,Kb S2 w w'/\∀k∈S2,k∈S\/zG tb T V k
def To2 (base fb tb:Nat) (F':Fz) (T:TS) (T':TS) (V:TV) (S:List Nat) (m:Nat) (w w':World):Prop:=
 ∃S' sv' mv' V',FT base fb tb F' T' S' sv' mv' V' w'/\KF S tb T V w w'/\(∀k∈S',k∈S\/w.heap.size<=k)/\(∀k,zG tb T' V' k->zG tb T V k\/w.heap.size<=k)/\V'.n<=V.n+m/\V'.ab=V.ab
def Out2 (r:Option (Fz×TS)) (base fb tb:Nat) (T:TS) (V:TV) (S:List Nat) (m:Nat) (w:World) (e:Ending) (w':World):Prop:=
 match r with
 |some (F',T')=>e=.returned (.tuple #[])/\To2 base fb tb F' T T' V S m w w'
 |none=>Pan e/\Kb S w w'
theorem FT.below {base fb tb:Nat} {F:Fz} {T:TS} {S:List Nat} {sv mv:Value} {V:TV} {w w':World} (h:FT base fb tb F T S sv mv V w) (hb:Below w.heap.size w w'):FT base fb tb F T S sv mv V w':=⟨h.fr.below hb,h.tr.below hb,h.ptr,h.dis⟩
theorem FT.lift {base fb tb:Nat} {F F':Fz} {T:TS} {S:List Nat} {sv mv:Value} {V:TV} {w w':World} (h:FT base fb tb F T S sv mv V w) (ht:F'.trail=F.trail) (hto:To base fb F' S w w'):To2 base fb tb F' T T V S 0 w w':=by
 obtain⟨S',sv',mv',h1,h2,h3⟩:=hto;refine⟨S',sv',mv',V,⟨h1,h.tr.kb h2 h.dis h.fr.no0,ht.trans h.ptr,fun k hk hf=> ?_⟩,⟨S,h2,fun k hk=>Or.inl hk⟩,h3,fun k hk=>Or.inl hk,Nat.le_refl _,rfl⟩;rcases h3 k hk with e|e
 ·exact h.dis k e hf
 ·have:=h.tr.lt hf;omega
theorem FT.lift' {α:Type} {val:α->Value} {base fb tb:Nat} {F:Fz} {T:TS} {S:List Nat} {sv mv:Value} {V:TV} {w w':World} {e:Ending} {r:Option (Unit×Fz)} (h:FT base fb tb F T S sv mv V w) (ht:∀F',r=some ((),F')->F'.trail=F.trail) (ho:Out r zx base fb S w e w'):Out2 (r.map fun y=>(y.2,T)) base fb tb T V S 0 w e w':=by
 cases r with
 |none=>exact ho
 |some y=>
  obtain⟨⟨⟩,F'⟩:=y;exact⟨ho.1,h.lift (ht F' rfl) ho.2⟩
theorem To2.comp {base fb tb m m':Nat} {F2:Fz} {T T1 T2:TS} {V V1:TV} {S S1:List Nat} {w w1 w2:World} (hS:∀k∈S,k<w.heap.size) (hT:∀k,zG tb T V k->k<w.heap.size) (h2:KF S tb T V w w1) (h3:∀k∈S1,k∈S\/w.heap.size<=k) (h4:∀k,zG tb T1 V1 k->zG tb T V k\/w.heap.size<=k) (h5:V1.n<=V.n+m) (h6:V1.ab=V.ab) (k:To2 base fb tb F2 T1 T2 V1 S1 m' w1 w2):To2 base fb tb F2 T T2 V S (m+m') w w2:=by
 obtain⟨S2,sv2,mv2,V2,k1,⟨Sk,k2,k2'⟩,k3,k4,k5,k6⟩:=k;obtain⟨Sh,h2,h2'⟩:=h2;refine⟨S2,sv2,mv2,V2,k1,⟨Sh++Sk.filter (fun k=>decide (k<w.heap.size)),(h2.mono (fun i hi=>List.mem_append_left _ hi)).trans k2 (fun i hi=> ?_),fun i hi=> ?_⟩,fun i hi=> ?_,fun i hi=> ?_,by omega,k6.trans h6⟩
 ·by_cases hl:i<w.heap.size
  ·exact Or.inl (List.mem_append_right _ (List.mem_filter.2 ⟨hi,by simpa using hl⟩))
  ·exact Or.inr (by omega)
 ·rcases List.mem_append.1 hi with e|e
  ·exact h2' i e
  ·obtain⟨e1,e2⟩:=List.mem_filter.1 e;have e2:i<w.heap.size:=by simpa using e2
   rcases k2' i e1 with e3|e3
   ·rcases h3 i e3 with e4|e4
    ·exact Or.inl e4
    ·omega
   ·rcases h4 i e3 with e4|e4
    ·exact Or.inr e4
    ·omega
 ·rcases k3 i hi with e|e
  ·exact h3 i e
  ·exact Or.inr (Nat.le_trans h2.size e)
 ·rcases k4 i hi with e|e
  ·exact h4 i e
  ·exact Or.inr (Nat.le_trans h2.size e)
def zb7 (kd:Nat) (F:Fz) (T:TS):Option (Unit×Fz):=zK (zi F) (zl (zeA T kd F.self (zA (zi F))) (zh (zi F)))
theorem zlJ {base fb tb:Nat} {F:Fz} {T:TS} {S:List Nat} {sv mv:Value} {V:TV} (kd:Nat) (w:World) (h:FT base fb tb F T S sv mv V w)
  (hget:∀x,Tr base tb T V x->Calls prog 202 #[.pointer (some ⟨tb,0,none⟩),ZU kd F.self (zA (zi F))] x fun e w'=>e=.returned (wv (zeA T kd F.self (zA (zi F))))/\Below x.heap.size x w'):
  Calls prog 268 #[.pointer (some ⟨fb,0,none⟩),.int .i64 (kd:Int)] w (Out (zb7 kd F T) zx base fb S w):=by
 go_enter func268,ntmps268;go_wp2;refine load_r0 _ _ h.tr h.ptr h.dis h.fr.no0 hget h.fr rfl rfl rfl ?_ ?_
 ·intro u pv s x hno hd hk
  have e:zb7 kd F T=none:=by
   rcases hno with e|e
   ·exact zn (Or.inl e)
   ·exact zn (Or.inr e)
  rw[e];exact⟨hd,⟨_,_,rfl⟩,hk⟩
 ·intro x S' sv' mv' hfr hkb hsub;have e:zb7 kd F T=_:=(zT fun e=>ZS (zcQ (zV e)) hfr).trans (zaW fun e=>ZS (zV e) hfr)
  have HO:Hid (Out (zb7 kd F T) zx base fb S w (.returned (.tuple #[])) x):=by
   rw[e];exact⟨rfl,S',sv',mv',hfr,hkb,hsub⟩
  clear e hfr hkb hsub hget h;simp only[zF,List.foldl_cons,List.foldl_nil,Act.put];go_wp2;go_end0;exact HO.out
end
section
open Go.Maps
theorem Tr.no0 {base tb:Nat} {T:TS} {V:TV} {w:World} (h:Tr base tb T V w):¬zG tb T V 0:=by
 have hb1:=h.hb1;rintro(e|e|e|e|e|⟨t,ht,e⟩)
 ·have h1:=h.row.cell (i:=0) (by decide);rw[<-e] at h1;rw[h.zr.1.1] at h1;cases h1
 ·exact zbQ h.zr (h.acc.isMap e) rfl
 ·exact zbQ h.zr (e▸h.pas.is) rfl
 ·have:=(h.ch.lt 0 e).1;omega
 ·have:=(h.lo.2.1.lt 0 e).1;omega
 ·obtain⟨l,hl⟩:=h.lo.tv ht;have:=(hl.lt 0 e).1;omega
theorem tbT:(4:Nat)≠131:=by decide
theorem tbC:(4:Nat)≠220:=by decide
theorem tbL:(4:Nat)≠112:=by decide
theorem Tr.bno {base tb:Nat} {T:TS} {V:TV} {w:World} (h:Tr base tb T V w) {g N:Nat} {f:Nat->Value} (hr:w.rowIs g 4 N f):¬zG tb T V g:=by
 rintro(e|e|e|e|e|⟨t,ht,e⟩)
 ·exact yZ hr h.row tbT e
 ·exact ZN hr (h.acc.isMap e) rfl
 ·exact ZN hr h.pas.is e
 ·exact zI hr h.ch tbC g e rfl
 ·exact zI hr h.lo.2.1 tbL g e rfl
 ·obtain⟨l,hl⟩:=h.lo.tv ht;exact zI hr hl tb1 g e rfl
theorem FT.trail {base fb tb m:Nat} {F:Fz} {T T':TS} {S:List Nat} {sv mv:Value} {V:TV} {w w':World} (h:FT base fb tb F T S sv mv V w) (ht:TTo base tb T V T' m w w'):To2 base fb tb F T T' V S m w w':=by
 obtain⟨V',S2,h1,h2,h3,h4,h5,h6⟩:=ht;refine⟨S,sv,mv,V',⟨h.fr.kb h3 (fun k hk hm=>h.dis k hk (h4 k hm)) (fun hm=>h.tr.no0 (h4 0 hm)) (fun g N f hr hm=>h.tr.bno hr (h4 g hm)),h1,h.ptr,fun k hk hf=> ?_⟩,⟨S2,h3,fun k hk=>Or.inr (h4 k hk)⟩,fun k hk=>Or.inl hk,h5,h2,h6⟩;rcases h5 k hf with e|e
 ·exact h.dis k hk e
 ·have:=h.fr.footlt k hk;omega
theorem FT.next {base fb tb:Nat} {F F':Fz} {T:TS} {S S':List Nat} {sv mv sv' mv':Value} {V:TV} {w w':World} (h:FT base fb tb F T S sv mv V w) (ht:F'.trail=F.trail) (h1:Fr base fb F' S' sv' mv' w') (h2:Kb S w w') (h3:∀k∈S',k∈S\/w.heap.size<=k):FT base fb tb F' T S' sv' mv' V w':=by
 refine⟨h1,h.tr.kb h2 h.dis h.fr.no0,ht.trans h.ptr,fun k hk hf=> ?_⟩;rcases h3 k hk with e|e
 ·exact h.dis k e hf
 ·have:=h.tr.lt hf;omega
theorem FT.foot {base fb tb:Nat} {F:Fz} {T:TS} {S:List Nat} {sv mv:Value} {V:TV} {w:World} (h:FT base fb tb F T S sv mv V w):∀k∈S,k<w.heap.size:=h.fr.footlt
theorem zbo {base fb:Nat} {F:Fz} {S:List Nat} {sv mv:Value} (w:World) (h:Fr base fb F S sv mv w):
  Calls prog 274 #[.pointer (some ⟨fb,0,none⟩)] w fun e w'=>(if F.ro=true then Pan e else e=.returned (.tuple #[]))/\w'=w:=by
 have hg:=h.row.cell (i:=17) (by decide);rw[show F.cell sv mv 17=.bool F.ro from rfl] at hg;clear h;cases hr:F.ro
 ·rw[hr] at hg;go_enter func274,ntmps274;go_wp2;go_end0;exact⟨rfl,rfl⟩
 ·rw[hr] at hg;go_enter func274,ntmps274;go_wp2;exact⟨rfl,⟨_,_,rfl⟩,rfl⟩
def yK (kd:Nat) (F:Fz) (T:TS):Option (Fz×TS):=if F.ro=true then none else(zK (zi F) (zK (zi (zh (zi F))) (some ((),zE F)))).map fun y=>(y.2,yY T kd F.self (zY F) (Zh F))
theorem zox {F:Fz}:100000<(zE F).gas\/Same F (zE F):=Zp (Zp (Or.inr (Same.refl F)))
theorem ziQ {base fb tb:Nat} {F:Fz} {T:TS} {S:List Nat} {sv mv:Value} {V:TV} (kd:Nat) (w:World) (h:FT base fb tb F T S sv mv V w)
  (hset:∀key v x,Tr base tb T V x->Calls prog 154 #[.pointer (some ⟨tb,0,none⟩),ZU kd F.self key,wv v] x fun e w'=>e=.returned (.tuple #[])/\TTo base tb T V (yY T kd F.self key v) 2 x w'):
  Calls prog 269 #[.pointer (some ⟨fb,0,none⟩),.int .i64 (kd:Int)] w (Out2 (yK kd F T) base fb tb T V S 2 w):=by
 have HM:=zb (zbo w h.fr);go_enter func269,ntmps269;go_wp2_with fail
 refine HM.out.mono ?_;rintro e w1 ⟨h1,rfl⟩;by_cases hro:F.ro=true
 ·rw[if_pos hro] at h1;obtain⟨u,pv,rfl⟩:=h1;refine⟨rfl, ?_⟩;unfold yK;rw[if_pos hro];exact⟨⟨_,_,rfl⟩,Kb.refl _ _⟩
 rw[if_neg hro] at h1;subst h1;go_wp2;refine zbg _ _ h.fr rfl rfl rfl rfl ?_ ?_
 ·intro u pv s x hno hd hk
  have e:yK kd F T=none:=by
   unfold yK;rw[if_neg hro];rcases hno with e|e
   ·rw[zn (Or.inl e)];rfl
   ·rw[zn (Or.inr (zn (Or.inl e)))];rfl
  rw[e];exact⟨hd,⟨_,_,rfl⟩,hk⟩
 ·intro x S' sv' mv' b0 b1 hfr hkb hsub hn0 hg0 hr0 hn1 hg1 hr1
  have e:yK kd F T=some (zE F,yY T kd F.self (zY F) (Zh F)):=by
   unfold yK;rw[if_neg hro,zT fun e=>ZS (YJ (zV e)) hfr,zT fun e=>ZS (zV e) hfr];rfl
  have hsm:=(zox (F:=F)).resolve_left (fun hb=>absurd hfr.gal (by have:(zh (zi (zh (zi F)))).gas=(zE F).gas:=rfl;omega));have HE:=zb e;clear e;change Fr base fb (zE F) S' sv' mv' x at hfr;change zX x b0 (zY F) at hr0;change zX x b1 (Zh F) at hr1;have hx:=h.next hsm.trail hfr hkb hsub
  have hself:∀y,Below x.heap.size x y->y.cell? ⟨fb,3,none⟩=some (.int .u64 (za F.self 0))/\y.cell? ⟨fb,3+1,none⟩=some (.int .u64 (za F.self 1))/\y.cell? ⟨fb,3+2,none⟩=some (.int .u64 (za F.self 2))/\y.cell? ⟨fb,3+3,none⟩=some (.int .u64 (za F.self 3)):=by
   intro y hy;have hr:=zg hfr.row hy;rw[<-hsm.self];exact⟨hr.cell (i:=3) (by decide),hr.cell (i:=3+1) (by decide),hr.cell (i:=3+2) (by decide),hr.cell (i:=3+3) (by decide)⟩
  have htp:x.cell? ⟨fb,0,none⟩=some (.pointer (some ⟨tb,0,none⟩)):=(hfr.row.cell (i:=0) (by decide)).trans (congrArg some hx.ptr);simp only[zF,List.foldl_cons,List.foldl_nil,Act.put];simp only[sx9];go_wp2;refine zpn (R:=fun y=>TTo base tb T V (yY T kd F.self (zY F) (Zh F)) 2 x y) (self:=F.self) (key:=zY F) (v:=Zh F) (bk:=b0) (bv:=b1) _ _ hr0 hr1 hfr.row.lt htp hself ?_ (Below.refl _ _).drew rfl rfl rfl rfl rfl ?_
  ·intro y hy;exact(hset (zY F) (Zh F) y (hx.tr.below hy)).mono fun e w' ⟨h1,h3⟩=>⟨h1,TTo.pre hy h3⟩
  intro y hR
  have HO:Hid (Out2 (yK kd F T) base fb tb T V S 2 w1 (.returned (.tuple #[])) y):=by
   show Out2 _ _ _ _ _ _ _ _ _ _ _;rw[HE.out];exact⟨rfl,To2.comp (m:=0) h.foot (fun k hk=>h.tr.lt hk) ⟨S,hkb,fun k hk=>Or.inl hk⟩ hsub (fun k hk=>Or.inl hk) (Nat.le_refl _) rfl (hx.trail hR)⟩
  clear hR HE hsm hkb hsub hr0 hr1 hself htp hx hfr hset h;simp only[zF,List.foldl_cons,List.foldl_nil,Act.put];simp only[sx9];go_wp2;go_end0;exact HO.out
end
theorem Fr.kb1 {base fb b n:Nat} {F:Fz} {S:List Nat} {sv mv:Value} {w w':World} (h:Fr base fb F S sv mv w) (hk:Kb [b] w w') (hb:b∉S) (hb0:0<b) (hr:zX w b n):Fr base fb F S sv mv w':=
 h.kb hk (fun k hk hm=>hb (by rw[<-List.mem_singleton.1 hm];exact hk)) (fun hm=>by have:=List.mem_singleton.1 hm;omega) (fun g N f hg hm=>yZ hg hr tb1 (List.mem_singleton.1 hm))
def Zt (op:Nat) (F:Fz):Option (Nat×Fz):=if op=241 then zi F else some (0,F)
theorem zj9 {base fb:Nat} {F:Fz} {S:List Nat} {sv mv:Value} (op:Nat) (hop:op<=255) (w:World) (h:Fr base fb F S sv mv w):
  Calls prog 276 #[.pointer (some ⟨fb,0,none⟩),.int .u8 (op:Int)] w (Out (Zt op F) wv base fb S w):=by
 have hB:Below w.heap.size w (w.alloc zc):=bal (Below.refl _ w) _;have h1:=h.below hB;unfold Zt;by_cases hv:op=241
 ·rw[if_pos hv];subst hv;have HP:=zb (Ym _ h1);have HB:=zb hB;have hbx:=zez w;have hlt:∀k∈S,k<w.heap.size:=h.footlt;have HPOS:=zb h.hs;cases hp:zi F with
  |none=>
   rw[hp] at HP;clear h h1 hB hbx;go_enter func276,ntmps276;go_wp2_with fail
   refine HP.out.mono ?_;rintro e x ⟨⟨u,pv,rfl⟩,hk⟩;exact⟨rfl,⟨_,_,rfl⟩,(Kb.of_below HB.out).trans hk (fun i hi=>Or.inl hi)⟩
  |some r=>
   obtain⟨n,F1⟩:=r;rw[hp] at HP;have HBX:=zb hbx;have HLT:=zb hlt;clear h h1 hB hbx hlt hp;go_enter func276,ntmps276;go_wp2_with fail
   refine HP.out.mono ?_;rintro e x ⟨rfl,S',sv',mv',hf,hk,hs⟩;have hne:w.heap.size∉S':=fun hm=>(hs _ hm).elim (fun h=>absurd (HLT.out _ h) (Nat.lt_irrefl _)) (fun h=>by simp at h;omega)
   have hr:zX x w.heap.size 0:=hk.row HBX.out (fun hm=>absurd (HLT.out _ hm) (Nat.lt_irrefl _));have hfz:=hr.frozen;obtain⟨q0,q1,q2,q3⟩:=ze hr;have HK:=zb ((Kb.of_below (S:=S) HB.out).trans hk (fun i hi=>Or.inl hi));have HS:Hid (∀k∈S',k∈S\/w.heap.size<=k):=fun k hk=>(hs k hk).imp id (fun h=>Nat.le_trans HB.out.size h)
   have HF:=zb hf;have HNE:=zb hne;have HR:=zb hr;clear hf hk hs hr HP hne;go_wp2;obtain⟨Y,HY⟩:∃Y,Hid (Y=(((x.setCell ⟨w.heap.size,0,none⟩ (.int .u64 (za n 0))).setCell ⟨w.heap.size,1,none⟩ (.int .u64 (za n 1))).setCell ⟨w.heap.size,2,none⟩ (.int .u64 (za n 2))).setCell ⟨w.heap.size,3,none⟩ (.int .u64 (za n 3))):=⟨_,rfl⟩;rw[<-HY.out]
   have hY:zX Y w.heap.size n:=by
    rw[HY.out];refine((((HR.out.set 0 _).set 1 _).set 2 _).set 3 _).congr fun i hi=> ?_
    rcases ltq4 hi with rfl|rfl|rfl|rfl<;>rfl
   have HKY:Hid (Kb [w.heap.size] x Y):=by
    show Kb _ _ _;rw[HY.out];exact((((Kb.refl [w.heap.size] x).setCell (p:=⟨w.heap.size,0,none⟩) (Or.inl (by simp)) _).setCell (p:=⟨w.heap.size,1,none⟩) (Or.inl (by simp)) _).setCell (p:=⟨w.heap.size,2,none⟩) (Or.inl (by simp)) _).setCell (p:=⟨w.heap.size,3,none⟩) (Or.inl (by simp)) _
   obtain⟨y0,y1,y2,y3⟩:=ze hY;clear hY q0 q1 q2 q3 hfz HY;refine bodyPost_ret (v:=wv n) (by simp[results,results276,go_sem,y0,y1,y2,y3]) rfl ⟨rfl, ?_⟩;exact⟨S',sv',mv',HF.out.kb1 HKY.out HNE.out (Nat.lt_of_lt_of_le HPOS.out (Nat.le_refl _)) HR.out,HK.out.trans HKY.out (fun i hi=>Or.inr (by rw[List.mem_singleton.1 hi];exact Nat.le_refl _)),HS.out⟩
 ·rw[if_neg hv];have hne:((op:Int)==241)=false:=by simp;omega
  obtain⟨z0,z1,z2,z3⟩:_/\_/\_/\_:=⟨h1.zr 0 (by omega),h1.zr 1 (by omega),h1.zr 2 (by omega),h1.zr 3 (by omega)⟩;have HT:Hid (To base fb F S w (w.alloc zc)):=⟨S,sv,mv,h1,Kb.of_below hB,fun k hk=>Or.inl hk⟩;clear h h1 hB;go_enter func276,ntmps276;go_wp2;refine bodyPost_ret (v:=wv 0) (by unfold wv;rw[zs,zs,zs,zs];simp[results,results276,go_sem]) rfl ⟨rfl,HT.out⟩
def zdZ (F:Fz):Nat:=F.gas - F.gas/64
def Ze (F:Fz) (a:Nat):Nat:=if a%M<=zdZ F then a%M else zdZ F
theorem zjh {base fb:Nat} {F:Fz} {S:List Nat} {sv mv:Value} (a:Nat) (w:World) (h:Fr base fb F S sv mv w):
  Calls prog 279 #[.pointer (some ⟨fb,0,none⟩),wv a] w fun e w'=>e=.returned (.int .i64 (Ze F a:Int))/\Below w.heap.size w w':=by
 have hB:Below w.heap.size w (w.alloc (wc a)):=bal (Below.refl _ w) _;have hg:(w.alloc (wc a)).drew.cell? ⟨fb,16,none⟩=some (.int .i64 (F.gas:Int)):=(h.below hB.drew).row.cell (i:=16) (by decide);have hgl:=h.gal;obtain⟨m,hm⟩:∃m,m=zdZ F:=⟨_,rfl⟩;have hml:m<=100000:=by rw[hm];unfold zdZ;omega
 have e1:(F.gas:Int) - (F.gas:Int)/64=(m:Int):=by rw[hm];unfold zdZ;omega
 have e2:(F.gas:Int) - Int.tdiv (F.gas:Int) 64=(m:Int):=by rw[Int.tdiv_eq_ediv_of_nonneg (by omega)];exact e1
 have hrow:zX (w.alloc (wc a)).drew w.heap.size a:=(W1.start w a).ra.drew;unfold Ze;rw[<-hm];clear hm;by_cases ha:a%M<=m
 ·rw[if_pos ha];have HU:=zb (zar a m (by omega) ha);obtain⟨z,HZ⟩:∃z:Nat,Hid (z=a%M):=⟨_,rfl⟩;rw[<-HZ.out];have HB:=zb hB;obtain⟨q0,q1,q2,q3⟩:=ze hrow;clear h hB ha hrow;go_enter func279,ntmps279;go_wp2
  go_region
  go_wp2_with fail
  refine(HU.out _).mono ?_;rintro e x ⟨k,HK,rfl,hb⟩;have HX:Hid (Below w.heap.size w x):=HB.out.drew.trans (hb.mono HB.out.drew.size);obtain rfl:k=z:=HK.out.trans HZ.out.symm;clear hb HU HK;go_wp2;go_ret;exact⟨rfl,HX.out⟩
 ·rw[if_neg ha];have HU:=zb (zaJ a m (by omega) (by omega));have HB:=zb hB;obtain⟨q0,q1,q2,q3⟩:=ze hrow;clear h hB ha hrow;go_enter func279,ntmps279;go_wp2
  go_region
  go_wp2_with fail
  refine(HU.out _).mono ?_;rintro e x ⟨rfl,hb⟩;have HX:Hid (Below w.heap.size w x):=HB.out.drew.trans (hb.mono HB.out.drew.size);clear hb HU;go_wp2;go_ret;exact⟨rfl,HX.out⟩
theorem cmpw_ge (a b:Nat):decide (0<=ZZ a b)=decide (b%M<=a%M):=by
 unfold ZZ;split
 ·rw[decide_eq_false (by omega),decide_eq_false (by omega)]
 ·split
  ·rw[decide_eq_true (by omega),decide_eq_true (by omega)]
  ·rw[decide_eq_true (by omega),decide_eq_true (by omega)]
def zal (F:Fz) (T:TS) (v:Nat):Bool:=decide (F.depth<16)&&decide (v%M<=(T.acc F.self).bal%M)
theorem zh7 {base fb tb:Nat} {F:Fz} {T:TS} {S:List Nat} {sv mv:Value} {V:TV} (v:Nat) (w:World) (h:FT base fb tb F T S sv mv V w) (hdl:F.depth<=1000):
  Calls prog 277 #[.pointer (some ⟨fb,0,none⟩),wv v] w fun e w'=>e=.returned (.bool (zal F T v))/\Below w.heap.size w w':=by
 have hB0:Below w.heap.size w (w.alloc (wc v)):=bal (Below.refl _ w) _;have h1:=h.below hB0;have htr:=h.tr
 have hrow:∀o,o<27->(w.alloc (wc v)).cell? ⟨fb,o,none⟩=some (({F with trail:=.pointer (some ⟨tb,0,none⟩)}:Fz).cell sv mv o):=fun o ho=>by
  have e:({F with trail:=.pointer (some ⟨tb,0,none⟩)}:Fz)=F:=by rw[<-h.ptr]
  rw[e];exact h1.fr.row.cell (i:=o) ho
 have hlt:=h1.fr.row.lt;have hbx:zX (w.alloc (wc v)) w.heap.size v:=(W1.start w v).ra;by_cases hdp:F.depth<16
 ·have hd:decide ((F.depth:Int)<16)=true:=decide_eq_true (by omega)
  have HO:Hid (zal F T v=decide (0<=ZZ (T.acc F.self).bal v)):=by
   show zal F T v=_;unfold zal;rw[decide_eq_true hdp,cmpw_ge,Bool.true_and]
  rw[HO.out];clear h h1;go_enter func277,ntmps277;go_wp2
  refine zq (fun _ x=>Below (w.alloc (wc v)).heap.size (w.alloc (wc v)) x) (fun _ _ _=>True) [(0,(.pointer (some ⟨fb,0,none⟩))),(3,(.pointer (some ⟨w.heap.size,0,none⟩)))] [(some 5,.v (.pointer (some ⟨fb,0,none⟩))),(some 6,.v (.pointer (some ⟨fb,0,none⟩))),(some 7,.v (.pointer (some ⟨fb,18,none⟩))),(some 8,.v (.int .i64 (F.depth:Int))),(some 9,.v (.bool true)),(some 10,.v (.bool true)),(some 11,.v (.pointer (some ⟨fb,0,none⟩))),(some 12,.v (.pointer (some ⟨fb,0,none⟩))),(some 13,.v (.pointer (some ⟨fb,0,none⟩))),(some 14,.v (.pointer (some ⟨tb,0,none⟩))),(some 15,.v (.pointer (some ⟨fb,0,none⟩))),(some 16,.v (.pointer (some ⟨fb,0,none⟩))),(some 17,.v (.pointer (some ⟨fb,3,none⟩))),(some 18,.v (wv F.self)),(some 19,.v (wv (T.acc F.self).bal)),(some 20,.v (wv v)),(some 21,.v (.int .i64 (ZZ (T.acc F.self).bal v))),(some 22,.v (.bool (decide (0<=ZZ (T.acc F.self).bal v)))),(some 23,.v (.bool (decide (0<=ZZ (T.acc F.self).bal v)))),(some 4,.v (.bool (decide (0<=ZZ (T.acc F.self).bal v))))] [] [3,4,9,13,14,15,16,17] (by kernel_rfl) (by rfl) (by rfl) (by kernel_rfl) ((Below.refl _ _).drew) (fun _ _ _ h hb=>h.trans (hb.mono h.size))
    True.intro
    (zf _ _ _ rfl rfl
    (fun k s x hk hlo hhi hph hdf hv hl K hK=>by
     exact zv (v:=.int .i64 (F.depth:Int)) (fun w=>by kernel_rfl) (hv 7 _ rfl) ((hph.cell (by exact hlt)).trans (hrow 18 (by decide))) (hK _ x (Below.refl _ _) nn1 rfl))
    (zf _ _ _ rfl rfl
    (fun k s x hk hlo hhi hph hdf hv hl K hK=>by
     refine zdH (v:=.bool true) (x':=x) hv ?_ (hK _ x (Below.refl _ _) nn1 rfl);show Result.ok (Next.value (.bool (decide ((F.depth:Int)<16)))) x=_;rw[hd])
    (zf _ _ _ rfl rfl
    (fun k s x hk hlo hhi hph hdf hv hl K hK=>by
     exact zv (v:=.pointer (some ⟨tb,0,none⟩)) (fun w=>by kernel_rfl) (hv 13 _ rfl) ((hph.cell (by exact hlt)).trans (hrow 0 (by decide))) (hK _ x (Below.refl _ _) nn1 rfl))
    (zf _ _ _ rfl rfl
    (fun k s x hk hlo hhi hph hdf hv hl K hK=>by
     exact zB (n:=F.self) (hv 17 _ rfl) ((hph.cell (by exact hlt)).trans (hrow 3 (by decide))) ((hph.cell (by exact hlt)).trans (hrow 4 (by decide))) ((hph.cell (by exact hlt)).trans (hrow 5 (by decide))) ((hph.cell (by exact hlt)).trans (hrow 6 (by decide))) (hK _ x (Below.refl _ _) nn1 rfl))
    (zf _ _ _ rfl rfl
    (fun k s x hk hlo hhi hph hdf hv hl K hK=>by
     refine zW hv (zau F.self x (htr.below (hB0.trans (hph.mono hB0.size)))) (by kernel_rfl) (fun v y h=> ?_) (fun l y h=>absurd h.1 (by simp)) (fun y h=>absurd h.1 (by simp));obtain⟨e,hb⟩:=h;injection e with e
     subst e;exact hK _ y hb nn1 rfl)
    (zf _ _ _ rfl rfl
    (fun k s x hk hlo hhi hph hdf hv hl K hK=>by
     obtain⟨q0,q1,q2,q3⟩:=ze (zg hbx hph);exact zB (n:=v) (hv 3 _ rfl) q0 q1 q2 q3 (hK _ x (Below.refl _ _) nn1 rfl))
    (zf _ _ _ rfl rfl
    (fun k s x hk hlo hhi hph hdf hv hl K hK=>by
     refine zW hv (Yg (T.acc F.self).bal v x) (by kernel_rfl) (fun v y h=> ?_) (fun l y h=>absurd h.1 (by simp)) (fun y h=>absurd h.1 (by simp));obtain⟨e,hb⟩:=h;injection e with e
     subst e;exact hK _ y hb nn1 rfl)
    (zf _ _ _ rfl rfl
    (fun k s x hk hlo hhi hph hdf hv hl K hK=>by
     exact zdH (v:=.bool (decide (0<=ZZ (T.acc F.self).bal v))) (x':=x) hv rfl (hK _ x (Below.refl _ _) nn1 rfl))
    True.intro))))))))
    (fun _ _ _ h=>(zo rfl h).elim) (fun _ _ _ h=>(zo rfl h).elim) ?_
  intro gg x hph _;have HX:=zb (hB0.trans (hph.mono hB0.size));clear hph hrow hlt hbx htr hB0;simp only[yy,yw,yx,Zg,zF,List.foldl_cons,List.foldl_nil,Act.put];simp only[sx9];go_wp2;go_ret;exact⟨rfl,HX.out⟩
 ·have hd:decide ((F.depth:Int)<16)=false:=decide_eq_false (by omega)
  have HO:Hid (zal F T v=false):=by
   show zal F T v=_;unfold zal;rw[decide_eq_false hdp,Bool.false_and]
  rw[HO.out];have c9:=(zg h1.fr.row (Below.refl _ _).drew).cell (i:=18) (by decide);rw[show F.cell sv mv 18=.int .i64 (F.depth:Int) from rfl] at c9;have HB:=zb hB0;clear h h1 hrow hbx htr hB0;go_enter func277,ntmps277;go_wp2
  go_region
  go_wp2;go_ret;exact⟨rfl,HB.out.drew⟩
theorem zaB {p:Prop} (h:p):Hid p:=h
def opN (op:Nat):Bool:=(decide (1<=op)&&decide (op<=11))||(decide (16<=op)&&decide (op<=29))
def zab (op:Nat):Bool:=decide (95<=op)&&decide (op<=127)
def zdD (op:Nat):Bool:=decide (128<=op)&&decide (op<=143)
def zby (op:Nat):Bool:=decide (144<=op)&&decide (op<=159)
def zhn (op:Nat):Bool:=decide (160<=op)&&decide (op<=164)
theorem yX (op:Nat) (h:op<=255) (w:World):Calls prog 235 #[.int .u8 (op:Int)] w fun e w'=>e=.returned (.bool (zab op))/\w'=w:=by
 have e1:decide ((95:Int)<=(op:Int))=decide (95<=op):=by rw[decide_eq_decide];omega
 have e2:decide ((op:Int)<=127)=decide (op<=127):=by rw[decide_eq_decide];omega
 unfold zab;go_enter func235,ntmps235;go_wp2
 all_goals go_ret
 all_goals (refine⟨congrArg (fun z=>Ending.returned (Value.bool z)) ?_,rfl⟩;simp;try omega)
theorem YV (op:Nat) (h:op<=255) (w:World):Calls prog 237 #[.int .u8 (op:Int)] w fun e w'=>e=.returned (.bool (zdD op))/\w'=w:=by
 have e1:decide ((128:Int)<=(op:Int))=decide (128<=op):=by rw[decide_eq_decide];omega
 have e2:decide ((op:Int)<=143)=decide (op<=143):=by rw[decide_eq_decide];omega
 unfold zdD;go_enter func237,ntmps237;go_wp2
 all_goals go_ret
 all_goals (refine⟨congrArg (fun z=>Ending.returned (Value.bool z)) ?_,rfl⟩;simp;try omega)
theorem zaa (op:Nat) (h:op<=255) (w:World):Calls prog 239 #[.int .u8 (op:Int)] w fun e w'=>e=.returned (.bool (zby op))/\w'=w:=by
 have e1:decide ((144:Int)<=(op:Int))=decide (144<=op):=by rw[decide_eq_decide];omega
 have e2:decide ((op:Int)<=159)=decide (op<=159):=by rw[decide_eq_decide];omega
 unfold zby;go_enter func239,ntmps239;go_wp2
 all_goals go_ret
 all_goals (refine⟨congrArg (fun z=>Ending.returned (Value.bool z)) ?_,rfl⟩;simp;try omega)
theorem zbP (op:Nat) (h:op<=255) (w:World):Calls prog 241 #[.int .u8 (op:Int)] w fun e w'=>e=.returned (.bool (zhn op))/\w'=w:=by
 have e1:decide ((160:Int)<=(op:Int))=decide (160<=op):=by rw[decide_eq_decide];omega
 have e2:decide ((op:Int)<=164)=decide (op<=164):=by rw[decide_eq_decide];omega
 unfold zhn;go_enter func241,ntmps241;go_wp2
 all_goals go_ret
 all_goals (refine⟨congrArg (fun z=>Ending.returned (Value.bool z)) ?_,rfl⟩;simp;try omega)
theorem Zl (op:Nat) (h:op<=255) (w:World):Calls prog 231 #[.int .u8 (op:Int)] w fun e w'=>e=.returned (.bool (opN op))/\w'=w:=by
 have e1:decide ((1:Int)<=(op:Int))=decide (1<=op):=by rw[decide_eq_decide];omega
 have e2:decide ((op:Int)<=11)=decide (op<=11):=by rw[decide_eq_decide];omega
 have e3:decide ((16:Int)<=(op:Int))=decide (16<=op):=by rw[decide_eq_decide];omega
 have e4:decide ((op:Int)<=29)=decide (op<=29):=by rw[decide_eq_decide];omega
 unfold opN;go_enter func231,ntmps231;go_wp2
 all_goals go_ret
 all_goals (refine⟨congrArg (fun z=>Ending.returned (Value.bool z)) ?_,rfl⟩;first|rfl|(simp;done)|(simp;omega)|(simp_all;done)|(simp_all;omega))
def ziy (op:Nat):Bool:=decide (op=241)||decide (op=244)||decide (op=250)
theorem zeu (op:Nat) (h:op<=255) (w:World):Calls prog 243 #[.int .u8 (op:Int)] w fun e w'=>e=.returned (.bool (ziy op))/\w'=w:=by
 have e1:((op:Int)==241)=decide (op=241):=by rw[Bool.eq_iff_iff,beq_iff_eq,decide_eq_true_eq];omega
 have e2:((op:Int)==244)=decide (op=244):=by rw[Bool.eq_iff_iff,beq_iff_eq,decide_eq_true_eq];omega
 have e3:((op:Int)==250)=decide (op=250):=by rw[Bool.eq_iff_iff,beq_iff_eq,decide_eq_true_eq];omega
 unfold ziy;go_enter func243,ntmps243;go_wp2
 all_goals go_ret
 all_goals (refine⟨congrArg (fun z=>Ending.returned (Value.bool z)) ?_,rfl⟩;first|rfl|(simp;done)|(simp;omega)|(simp_all;done)|(simp_all;omega))
def zbE (op:Nat):Option Nat:=if opN op then some 5 else if zab op then some 3 else if zdD op then some 3 else if zby op then some 3 else if zhn op then some 300 else none
def ZA (op:Nat):Option Nat:=
 if op=0\/op=243\/op=253 then some 0 else if op=91 then some 1
 else if op=48\/op=51\/op=52\/op=54\/op=56\/op=61\/op=80\/op=88\/op=89\/op=90 then some 2
 else if op=53\/op=55\/op=57\/op=62\/op=81\/op=82\/op=83\/op=94 then some 3
 else if op=86 then some 8 else if op=87\/op=10 then some 10
 else if op=49\/op=84\/op=92\/op=93\/op=241\/op=244\/op=250 then some 100 else if op=85 then some 200 else zbE op
def zcB (o:Option Nat):Value:=.tuple #[.int .i64 ((o.getD 0:Nat):Int),.bool o.isSome]
theorem zcO (op:Nat) (h:op<=255) (w:World):Calls prog 230 #[.int .u8 (op:Int)] w fun e w'=>e=.returned (zcB (zbE op))/\w'=w:=by
 have H1:=zaB (Zl op h);have H2:=zaB (yX op h);have H3:=zaB (YV op h);have H4:=zaB (zaa op h);have H5:=zaB (zbP op h);unfold zbE;generalize opN op=b1 at*;generalize zab op=b2 at*;generalize zdD op=b3 at*;generalize zby op=b4 at*;generalize zhn op=b5 at*;cases b1<;>cases b2<;>cases b3<;>cases b4<;>cases b5
 all_goals (
  go_enter func230,ntmps230
  go_wp2_with (first
   |(go_at_call 231;refine(H1.out _).mono ?_;rintro e w1 ⟨rfl,rfl⟩)
   |(go_at_call 235;refine(H2.out _).mono ?_;rintro e w1 ⟨rfl,rfl⟩)
   |(go_at_call 237;refine(H3.out _).mono ?_;rintro e w1 ⟨rfl,rfl⟩)
   |(go_at_call 239;refine(H4.out _).mono ?_;rintro e w1 ⟨rfl,rfl⟩)
   |(go_at_call 241;refine(H5.out _).mono ?_;rintro e w1 ⟨rfl,rfl⟩))
  go_ret2;exact⟨rfl,rfl⟩)
theorem zc2 (op:Nat) (h:op<=255) (w:World):Calls prog 203 #[.int .u8 (op:Int)] w fun e w'=>e=.returned (zcB (ZA op))/\w'=w:=by
 have H1:=zaB (zcO op h);have HC:Hid (∀q:Nat,ZA op=some q->Value.tuple #[.int .i64 (q:Int),.bool true]=zcB (ZA op)):=fun q e=>by rw[e];rfl
 have HD:Hid (ZA op=zbE op->Value.tuple #[.int .i64 (((zbE op).getD 0:Nat):Int),.bool (zbE op).isSome]=zcB (ZA op)):=fun e=>by rw[e];rfl
 unfold zcB at H1;generalize zcB (ZA op)=V at*;go_enter func203,ntmps203;go_wp2_with (go_at_call 230;refine(H1.out _).mono ?_;rintro e w1 ⟨rfl,rfl⟩)
 all_goals go_ret2
 all_goals refine⟨congrArg Ending.returned ?_,rfl⟩
 all_goals first
  |exact HC.out 0 (by simp only[beq_iff_eq,beq_eq_false_iff_ne,ne_eq] at*;unfold ZA;rw[if_pos (by omega)])
  |exact HC.out 1 (by simp only[beq_iff_eq,beq_eq_false_iff_ne,ne_eq] at*;unfold ZA;rw[if_neg (by omega),if_pos (by omega)])
  |exact HC.out 2 (by simp only[beq_iff_eq,beq_eq_false_iff_ne,ne_eq] at*;unfold ZA;rw[if_neg (by omega),if_neg (by omega),if_pos (by omega)])
  |exact HC.out 3 (by simp only[beq_iff_eq,beq_eq_false_iff_ne,ne_eq] at*;unfold ZA;rw[if_neg (by omega),if_neg (by omega),if_neg (by omega),if_pos (by omega)])
  |exact HC.out 8 (by simp only[beq_iff_eq,beq_eq_false_iff_ne,ne_eq] at*;unfold ZA;rw[if_neg (by omega),if_neg (by omega),if_neg (by omega),if_neg (by omega),if_pos (by omega)])
  |exact HC.out 10 (by simp only[beq_iff_eq,beq_eq_false_iff_ne,ne_eq] at*;unfold ZA;rw[if_neg (by omega),if_neg (by omega),if_neg (by omega),if_neg (by omega),if_neg (by omega),if_pos (by omega)])
  |exact HC.out 100 (by simp only[beq_iff_eq,beq_eq_false_iff_ne,ne_eq] at*;unfold ZA;rw[if_neg (by omega),if_neg (by omega),if_neg (by omega),if_neg (by omega),if_neg (by omega),if_neg (by omega),if_pos (by omega)])
  |exact HC.out 200 (by simp only[beq_iff_eq,beq_eq_false_iff_ne,ne_eq] at*;unfold ZA;rw[if_neg (by omega),if_neg (by omega),if_neg (by omega),if_neg (by omega),if_neg (by omega),if_neg (by omega),if_neg (by omega),if_pos (by omega)])
  |exact HD.out (by simp only[beq_iff_eq,beq_eq_false_iff_ne,ne_eq] at*;unfold ZA;rw[if_neg (by omega),if_neg (by omega),if_neg (by omega),if_neg (by omega),if_neg (by omega),if_neg (by omega),if_neg (by omega),if_neg (by omega)])
def yr (op:Nat):Nat:=if op=21\/op=25 then 1 else if op=8\/op=9 then 3 else 2
theorem yH (op:Nat) (h:op<=255) (w:World):Calls prog 256 #[.int .u8 (op:Int)] w fun e w'=>e=.returned (.int .i64 (yr op:Int))/\w'=w:=by
 have HC:Hid (∀q:Nat,yr op=q->Value.int .i64 (q:Int)=.int .i64 (yr op:Int)):=fun q e=>by rw[e]
 generalize Value.int .i64 (yr op:Int)=V at*;go_enter func256,ntmps256;go_wp2
 all_goals go_ret
 all_goals refine⟨congrArg Ending.returned ?_,rfl⟩
 all_goals first
  |exact HC.out 1 (by simp only[beq_iff_eq,beq_eq_false_iff_ne,ne_eq] at*;unfold yr;rw[if_pos (by omega)])
  |exact HC.out 3 (by simp only[beq_iff_eq,beq_eq_false_iff_ne,ne_eq] at*;unfold yr;rw[if_neg (by omega),if_pos (by omega)])
  |exact HC.out 2 (by simp only[beq_iff_eq,beq_eq_false_iff_ne,ne_eq] at*;unfold yr;rw[if_neg (by omega),if_neg (by omega)])
def Zd:Nat->Fz->Option (List Nat×Fz)
 |0,F=>some ([],F)
 |i+1,F=>match Zd i F with
  |none=>none
  |some (l,G)=>match zi G with
   |none=>none
   |some (n,G')=>some (l++[n],G')
theorem zad {F:Fz} {i:Nat} (h:Zd i F=none):∀j,i<=j->Zd j F=none
 |0,hj=>by
  obtain rfl:i=0:=by omega
  exact h
 |j+1,hj=>by
  by_cases e:i=j+1
  ·rw[<-e];exact h
  ·rw[Zd,zad h j (by omega)]
theorem YW {F:Fz}:∀{i:Nat} {l:List Nat} {G:Fz},Zd i F=some (l,G)->l.length=i
 |0,l,G,h=>by obtain⟨rfl,_⟩:=Prod.mk.inj (Option.some.inj h);rfl
 |i+1,l,G,h=>by
  rw[Zd] at h;split at h
  ·cases h
  ·rename_i l1 G1 h1;split at h
   ·cases h
   ·obtain⟨rfl,_⟩:=Prod.mk.inj (Option.some.inj h);rw[List.length_append,YW h1];rfl
def opsC (l:List Nat):Nat->Value:=fun i=>.int .u64 (za (l.getD (i/4) 0) (i%4))
theorem zfb {base fb:Nat} {F:Fz} {S:List Nat} {sv mv:Value} {Q:Exit->Act->World->Prop} (a:Act) (w:World) {br nr:Nat} (hr6:zX w br (nr)) (hr6n:br∉S) (h:Fr base fb F S sv mv w) (hsz:([39,40,41,42,43]:List Nat).all (fun d=>decide (d<a.tmps.size))=true) (c6:a.tmps.getD 6 undef=.pointer (some ⟨br,0,none⟩)) (c0:a.tmps.getD 0 undef=.pointer (some ⟨fb,0,none⟩))
  (hpan:∀u pv s x,(zl (nr) (F)=none)->s.defers=a.defers->Kb S w x->Q (.panic [{v:=.iface u pv,recovered:=false}]) s x)
  (hok:∀(x:World) (S':List Nat) (sv' mv':Value),Fr base fb (zh (zl (nr) (F))) S' sv' mv' x->Kb S w x->(∀j∈S',j∈S\/w.heap.size<=j)->Q .normal (zF a [(39,.pointer (some ⟨fb,0,none⟩)),(40,.pointer (some ⟨fb,0,none⟩)),(41,.pointer (some ⟨fb,19,none⟩)),(42,wv (nr)),(43,Value.tuple #[])]) x):
  (Code.region 9 #[⟨some 39,.move (.tmp 0),132,"instructions.go:18",#[],none⟩,⟨some 40,.nilCheck (.tmp 39),0,"instructions.go:18",#[⟨0,.data⟩],none⟩,⟨some 41,.fieldAddr 137 (.tmp 40) 10,0,"instructions.go:18",#[⟨1,.data⟩],none⟩,⟨some 42,.load 24 (.tmp 6),24,"instructions.go:18",#[],none⟩,⟨some 43,.call ⟨.value (.func 259),#[.tmp 41,.tmp 42],#[135,24]⟩,0,"instructions.go:18",#[⟨2,.data⟩,⟨3,.data⟩],none⟩] true).wp prog Q a w:=by
 exact ZC (fun k=>match k with|0=>F|_=>zh (zl (nr) (F))) h [(6,.pointer (some ⟨br,0,none⟩)),(0,.pointer (some ⟨fb,0,none⟩))] [(some 39,.v (.pointer (some ⟨fb,0,none⟩))),(some 40,.v (.pointer (some ⟨fb,0,none⟩))),(some 41,.v (.pointer (some ⟨fb,19,none⟩))),(some 42,.v (wv (nr))),(some 43,.v (Value.tuple #[]))] [4] [3] (by kernel_rfl) hsz (Zi c6 (Zi c0 rfl)) (by kernel_rfl) trivial
  (zf _ _ _ rfl rfl (fun s x S1 sv1 mv1 hfr hkb hsub hdf hv hl K hK=>zbn (r:=zl (nr) (F)) (val:=zx) zbC (ev2 (hv 41 _ rfl) (hv 42 _ rfl)) (yg (nr) x hfr) rfl (fun _ _ _=>rfl) (fun hrn u pv x' hk=>hpan u pv s x' hrn hdf (hkb.trans hk hsub)) hK)
  True.intro)
  (zf _ _ _ rfl rfl (fun s x k S1 sv1 mv1 hfr hkb hkp hv hl K hK=>YQ 6 42 _ _ (hv 6 _ rfl) (hkb.row hr6 hr6n) (hK _ x (Below.refl _ _) nn1 rfl))
  True.intro)
  fun g x S' sv' mv' hfr hkb hsub hT=>hok x S' sv' mv' hfr hkb hsub
def zdQ (op:Nat) (F:Fz):Option (Unit×Fz):=match Zd (yr op) F with
 |none=>none
 |some (l,G)=>match(if op=10 then yC (10*(pl (l.getD 1 0) 0).length) G else some ((),G)) with
  |none=>none
  |some (_,G2)=>zl (zU op (l.getD 0 0%M) (l.getD 1 0%M) (l.getD 2 0%M)) G2
structure OL (base fb:Nat) (F:Fz) (S:List Nat) (w:World) (l:List Nat) (G:Fz) (S':List Nat) (sv' mv':Value) (x:World):Prop where
 fr:Fr base fb G S' sv' mv' x
 kb:Kb S w x
 sub:∀j∈S',j∈S\/w.heap.size<=j
 row:x.rowIs w.heap.size 284 12 (opsC l)
 out:w.heap.size∉S'
 hw:0<w.heap.size
theorem OL.start {base fb:Nat} {F:Fz} {S:List Nat} {sv mv:Value} {w:World} (h:Fr base fb F S sv mv w):OL base fb F S w [] F S sv mv (w.alloc (.cells #[.int .u64 0,.int .u64 0,.int .u64 0,.int .u64 0,.int .u64 0,.int .u64 0,.int .u64 0,.int .u64 0,.int .u64 0,.int .u64 0,.int .u64 0,.int .u64 0] 284)):=by
 refine⟨h.below (bal (Below.refl _ w) _),Kb.of_below (bal (Below.refl _ w) _),fun j hj=>Or.inl hj, ?_,fun hm=>Nat.lt_irrefl _ (h.footlt _ hm),h.hs⟩;refine World.rowIs_alloc w _ _ _ fun i hi=> ?_
 have hi2:i<12:=hi;rcases zla hi2 with rfl|rfl|rfl|rfl|rfl|rfl|rfl|rfl|rfl|rfl|rfl|rfl<;>simp[opsC,za]
theorem tb4:(4:Nat)≠284:=by decide
def put4a (x:World) (b o n:Nat):World:=(((x.setCell ⟨b,o,none⟩ (.int .u64 (za n 0))).setCell ⟨b,o+1,none⟩ (.int .u64 (za n 1))).setCell ⟨b,o+2,none⟩ (.int .u64 (za n 2))).setCell ⟨b,o+3,none⟩ (.int .u64 (za n 3))
theorem zop (x:World) (b o n:Nat):Kb [b] x (put4a x b o n):=((((Kb.refl [b] x).setCell (Or.inl (by simp)) _).setCell (Or.inl (by simp)) _).setCell (Or.inl (by simp)) _).setCell (Or.inl (by simp)) _
theorem znE {x:World} {b:Nat} {l:List Nat} (h:x.rowIs b 284 12 (opsC l)) (n:Nat):(put4a x b (l.length*4) n).rowIs b 284 12 (opsC (l++[n])):=by
 refine((((h.set (l.length*4) _).set (l.length*4+1) _).set (l.length*4+2) _).set (l.length*4+3) _).congr fun i hi=> ?_
 have hg:∀j,j≠l.length->(l++[n]).getD j 0=l.getD j 0:=fun j hj=>by
  rw[List.getD_eq_getElem?_getD,List.getD_eq_getElem?_getD];by_cases hlt:j<l.length
  ·rw[List.getElem?_append_left hlt]
  ·rw[List.getElem?_eq_none (by simp;omega),List.getElem?_eq_none (by omega)]
 have hgn:(l++[n]).getD l.length 0=n:=by simp[List.getD_eq_getElem?_getD]
 unfold opsC;show(if i=l.length*4+3 then _ else if i=l.length*4+2 then _ else if i=l.length*4+1 then _ else if i=l.length*4 then _ else _)=_;by_cases e3:i=l.length*4+3
 ·rw[if_pos e3,show i/4=l.length by omega,show i%4=3 by omega,hgn]
 ·rw[if_neg e3];by_cases e2:i=l.length*4+2
  ·rw[if_pos e2,show i/4=l.length by omega,show i%4=2 by omega,hgn]
  ·rw[if_neg e2];by_cases e1:i=l.length*4+1
   ·rw[if_pos e1,show i/4=l.length by omega,show i%4=1 by omega,hgn]
   ·rw[if_neg e1];by_cases e0:i=l.length*4
    ·rw[if_pos e0,show i/4=l.length by omega,show i%4=0 by omega,hgn]
    ·rw[if_neg e0,hg (i/4) (by omega)]
theorem OL.step {base fb:Nat} {F:Fz} {S:List Nat} {w:World} {l:List Nat} {G G':Fz} {S' S'':List Nat} {sv' mv' sv'' mv'':Value} {x x':World} (h:OL base fb F S w l G S' sv' mv' x) (hf:Fr base fb G' S'' sv'' mv'' x') (hk:Kb S' x x') (hs:∀j∈S'',j∈S'\/x.heap.size<=j) (n:Nat):
  OL base fb F S w (l++[n]) G' S'' sv'' mv'' (put4a x' w.heap.size (l.length*4) n):=by
 have hlt:w.heap.size<x.heap.size:=h.row.lt;have ho:w.heap.size∉S'':=fun hm=>(hs _ hm).elim h.out (fun h2=>by omega)
 have hkp:=zop x' w.heap.size (l.length*4) n;have h0:=h.hw;exact⟨hf.kb hkp (fun j hj=>by simp;exact fun e=>ho (e▸hj)) (by simp;omega) (fun g N f hr hm=>yZ hr (hk.row h.row h.out) tb4 (by simpa using hm)),(h.kb.trans hk h.sub).trans hkp (fun j hj=>Or.inr (by simp at hj;omega)),fun j hj=>(hs j hj).elim (h.sub j) (fun h2=>Or.inr (Nat.le_trans h.kb.size h2)),znE (hk.row h.row h.out) n,ho,h0⟩
theorem zg2 {base fb:Nat} {F:Fz} {S:List Nat} {sv mv:Value} (op:Nat) (ho:op<=255) (w:World) (h:Fr base fb F S sv mv w) (hp:Zd (yr op) F=none):
  Calls prog 232 #[.pointer (some ⟨fb,0,none⟩),.int .u8 (op:Int)] w (Out (none:Option (Unit×Fz)) zx base fb S w):=by
 have HC:=zb (yH op ho);have hk:yr op<=3:=by unfold yr;split;omega;split<;>omega
 generalize yr op=k at*;have HP:=zb hp;have HF:=zb h;clear h hp;go_enter func232,ntmps232;go_wp2_with fail
 refine(HC.out _).mono ?_;rintro e w1 ⟨rfl,rfl⟩;go_wp2
 go_loopw [10] (fun t10 x=>∃(i:Nat) (l:List Nat) (G:Fz) (S':List Nat) (sv' mv':Value),i<=k/\t10=.int .i64 (i:Int)/\Hid (Zd i F=some (l,G))/\OL base fb F S w l G S' sv' mv' x) (fun t10 _=>k - (RowKit.intOf t10).toNat)
 case atStart=>exact⟨0,[],F,S,sv,mv,by omega,rfl,rfl,OL.start HF.out⟩
 case round=>
  obtain⟨i,l,G,S',sv',mv',hi,rfl,HL,hol⟩:=hrel;by_cases hlt:i<k
  ·have d:decide ((i:Int)<(k:Int))=true:=decide_eq_true (by omega);have hll:=YW HL.out;have HPO:=zb (Ym _ hol.fr);cases hpo:zi G with
   |none=>
    rw[hpo] at HPO;have HKB:=zb hol.kb;have HSB:=zb hol.sub;clear hol hpo;go_wp2_with fail
    refine HPO.out.mono ?_;rintro e x2 ⟨⟨u,pv,rfl⟩,hk2⟩;exact⟨rfl,⟨_,_,rfl⟩,HKB.out.trans hk2 HSB.out⟩
   |some r=>
    obtain⟨n,G'⟩:=r;rw[hpo] at HPO;have HL2:Hid (Zd (i+1) F=some (l++[n],G')):=by show _=_;rw[Zd,HL.out];show(match zi G with|none=>none|some (n,G')=>some (l++[n],G'))=_;rw[hpo]
    have HOL:=zb hol;clear hol hpo;go_wp2_with fail
    refine HPO.out.mono ?_;rintro e x2 ⟨rfl,S2,sv2,mv2,hf2,hk2,hs2⟩;have hr2:=hk2.row HOL.out.row HOL.out.out;have HOL2:=zb (HOL.out.step hf2 hk2 hs2 n);have hfz:=hr2.frozen;have c0:=hr2.cell (i:=i*4) (by omega);have c1:=hr2.cell (i:=i*4+1) (by omega);have c2:=hr2.cell (i:=i*4+2) (by omega);have c3:=hr2.cell (i:=i*4+3) (by omega);clear hf2 hk2 hs2 hr2;have hi3:i<3:=by omega
    go_wp2;refine⟨⟨i+1,l++[n],G',S2,sv2,mv2,by omega,by go_num,HL2, ?_⟩,by simp[RowKit.intOf];omega⟩;have h9:=HOL2.out;rw[hll] at h9;exact h9
  ·obtain rfl:i=k:=by omega
   rw[HP.out] at HL;exact absurd HL.out (by simp)
theorem OL.words {base fb:Nat} {F:Fz} {S:List Nat} {w:World} {l:List Nat} {G:Fz} {S':List Nat} {sv' mv':Value} {x:World} (h:OL base fb F S w l G S' sv' mv' x):
  (x.cell? ⟨w.heap.size,0,none⟩=some (.int .u64 (za (l.getD 0 0) 0))/\x.cell? ⟨w.heap.size,1,none⟩=some (.int .u64 (za (l.getD 0 0) 1))/\x.cell? ⟨w.heap.size,2,none⟩=some (.int .u64 (za (l.getD 0 0) 2))/\x.cell? ⟨w.heap.size,3,none⟩=some (.int .u64 (za (l.getD 0 0) 3)))/\
  (x.cell? ⟨w.heap.size,4,none⟩=some (.int .u64 (za (l.getD 1 0) 0))/\x.cell? ⟨w.heap.size,5,none⟩=some (.int .u64 (za (l.getD 1 0) 1))/\x.cell? ⟨w.heap.size,6,none⟩=some (.int .u64 (za (l.getD 1 0) 2))/\x.cell? ⟨w.heap.size,7,none⟩=some (.int .u64 (za (l.getD 1 0) 3)))/\
  (x.cell? ⟨w.heap.size,8,none⟩=some (.int .u64 (za (l.getD 2 0) 0))/\x.cell? ⟨w.heap.size,9,none⟩=some (.int .u64 (za (l.getD 2 0) 1))/\x.cell? ⟨w.heap.size,10,none⟩=some (.int .u64 (za (l.getD 2 0) 2))/\x.cell? ⟨w.heap.size,11,none⟩=some (.int .u64 (za (l.getD 2 0) 3))):=
 ⟨⟨h.row.cell (i:=0) (by omega),h.row.cell (i:=1) (by omega),h.row.cell (i:=2) (by omega),h.row.cell (i:=3) (by omega)⟩,⟨h.row.cell (i:=4) (by omega),h.row.cell (i:=5) (by omega),h.row.cell (i:=6) (by omega),h.row.cell (i:=7) (by omega)⟩,⟨h.row.cell (i:=8) (by omega),h.row.cell (i:=9) (by omega),h.row.cell (i:=10) (by omega),h.row.cell (i:=11) (by omega)⟩⟩
theorem zfL {base fb:Nat} {F G:Fz} {S:List Nat} {sv mv:Value} {l:List Nat} (op:Nat) (ho:op<=255) (h10:op≠10) (w:World) (h:Fr base fb F S sv mv w) (hp:Zd (yr op) F=some (l,G)):
  Calls prog 232 #[.pointer (some ⟨fb,0,none⟩),.int .u8 (op:Int)] w (Out (zl (zU op (l.getD 0 0%M) (l.getD 1 0%M) (l.getD 2 0%M)) G) zx base fb S w):=by
 have HC:=zb (yH op ho);have hk:yr op<=3:=by unfold yr;split;omega;split<;>omega
 generalize yr op=k at*;have HP:=zb hp;have HF:=zb h;have hne:((op:Int)==10)=false:=by simp;omega
 obtain⟨a,HA⟩:∃a,Hid (a=l.getD 0 0):=⟨_,rfl⟩;obtain⟨b,HB⟩:∃b,Hid (b=l.getD 1 0):=⟨_,rfl⟩;obtain⟨c,HCC⟩:∃c,Hid (c=l.getD 2 0):=⟨_,rfl⟩;rw[<-HA.out,<-HB.out,<-HCC.out];have HCA:=zb (zbB op ho a b c);obtain⟨y,HY⟩:∃y,Hid (y=zU op (a%M) (b%M) (c%M)):=⟨_,rfl⟩;rw[<-HY.out] at HCA⊢;clear h hp;go_enter func232,ntmps232;go_wp2_with fail
 refine(HC.out _).mono ?_;rintro e w1 ⟨rfl,rfl⟩;go_wp2
 go_loopw [10] (fun t10 x=>∃(i:Nat) (l:List Nat) (G:Fz) (S':List Nat) (sv' mv':Value),i<=k/\t10=.int .i64 (i:Int)/\Hid (Zd i F=some (l,G))/\OL base fb F S w l G S' sv' mv' x) (fun t10 _=>k - (RowKit.intOf t10).toNat)
 case atStart=>exact⟨0,[],F,S,sv,mv,by omega,rfl,rfl,OL.start HF.out⟩
 case round=>
  obtain⟨i,l1,G1,S',sv',mv',hi,rfl,HL,hol⟩:=hrel;by_cases hlt:i<k
  ·have d:decide ((i:Int)<(k:Int))=true:=decide_eq_true (by omega);have hll:=YW HL.out;have HPO:=zb (Ym _ hol.fr);cases hpo:zi G1 with
   |none=>
    exfalso;have h1:Zd (i+1) F=none:=by rw[Zd,HL.out];show(match zi G1 with|none=>none|some (n,G')=>some (l1++[n],G'))=_;rw[hpo]
    have h2:=zad h1 k (by omega);rw[HP.out] at h2;cases h2
   |some r=>
    obtain⟨n,G'⟩:=r;rw[hpo] at HPO;have HL2:Hid (Zd (i+1) F=some (l1++[n],G')):=by show _=_;rw[Zd,HL.out];show(match zi G1 with|none=>none|some (n,G')=>some (l1++[n],G'))=_;rw[hpo]
    have HOL:=zb hol;clear hol hpo;go_wp2_with fail
    refine HPO.out.mono ?_;rintro e x2 ⟨rfl,S2,sv2,mv2,hf2,hk2,hs2⟩;have hr2:=hk2.row HOL.out.row HOL.out.out;have HOL2:=zb (HOL.out.step hf2 hk2 hs2 n);have hfz:=hr2.frozen;have c0:=hr2.cell (i:=i*4) (by omega);have c1:=hr2.cell (i:=i*4+1) (by omega);have c2:=hr2.cell (i:=i*4+2) (by omega);have c3:=hr2.cell (i:=i*4+3) (by omega);clear hf2 hk2 hs2 hr2;have hi3:i<3:=by omega
    go_wp2;refine⟨⟨i+1,l1++[n],G',S2,sv2,mv2,by omega,by go_num,HL2, ?_⟩,by simp[RowKit.intOf];omega⟩;have h9:=HOL2.out;rw[hll] at h9;exact h9
  ·obtain rfl:i=k:=by omega
   have hle:Zd i F=some (l1,G1):=HL.out;rw[HP.out] at hle;obtain⟨rfl,rfl⟩:=Prod.mk.inj (Option.some.inj hle);have d:decide ((i:Int)<(i:Int))=false:=decide_eq_false (by omega);obtain⟨⟨a0,a1,a2,a3⟩,⟨b0,b1,b2,b3⟩,⟨c0,c1,c2,c3⟩⟩:=hol.words;rw[<-HA.out] at a0 a1 a2 a3;rw[<-HB.out] at b0 b1 b2 b3;rw[<-HCC.out] at c0 c1 c2 c3;have HOL:=zb hol;clear hol hle HL;go_wp2_with fail
   refine(HCA.out _).mono ?_;rintro e x2 ⟨r,HR,rfl,hb2⟩;obtain rfl:r=y:=HR.out;have HB2:=zb hb2;clear hb2 HR;go_wp2;have hbe:Below wr.heap.size wr (x2.alloc (wc r)):=bal HB2.out _;have hkb:Kb S w (x2.alloc (wc r)):=HOL.out.kb.below hbe;refine zfb _ (x2.alloc (wc r)) (br:=x2.heap.size) (nr:=r) (yz x2 r) (fun hm=>by have h5:=HOL.out.fr.footlt _ hm;have h6:=HB2.out.size;omega) (HOL.out.fr.below hbe) rfl rfl rfl ?_ ?_
   ·intro u pv s x hno hd hk;refine⟨hd, ?_⟩;rw[hno];exact⟨⟨_,_,rfl⟩,hkb.trans hk HOL.out.sub⟩
   ·intro x S2 sv2 mv2 hfr hk2 hs2;cases hpu:zl r G with
    |none=>
     rw[hpu] at hfr;exact absurd hfr (fun h=>zcg h)
    |some q=>
     obtain⟨u,G2⟩:=q;rw[hpu] at hfr
     first|go_end0|refine bodyPost_ret (results_none rfl _ _ _) rfl ?_
     exact⟨rfl,S2,sv2,mv2,hfr,hkb.trans hk2 HOL.out.sub,fun j hj=>(hs2 j hj).elim (HOL.out.sub j) (fun h=>Or.inr (Nat.le_trans hkb.size h))⟩
theorem ze7 {base fb:Nat} {F G:Fz} {S:List Nat} {sv mv:Value} {l:List Nat} (w:World) (h:Fr base fb F S sv mv w) (hp:Zd 2 F=some (l,G)) (hpay:yC (10*(pl (l.getD 1 0) 0).length) G=none):
  Calls prog 232 #[.pointer (some ⟨fb,0,none⟩),.int .u8 10] w (Out (none:Option (Unit×Fz)) zx base fb S w):=by
 have HC:Hid (∀w,Calls prog 256 #[.int .u8 10] w fun e w'=>e=.returned (.int .i64 2)/\w'=w):=fun w=>yH 10 (by omega) w
 obtain⟨k,hkk⟩:∃k,k=2:=⟨_,rfl⟩;have hk:k<=3:=by omega
 rw[<-hkk] at hp;have HC2:Hid (∀w,Calls prog 256 #[.int .u8 10] w fun e w'=>e=.returned (.int .i64 (k:Int))/\w'=w):=by rw[hkk];exact HC
 clear HC hkk;have HP:=zb hp;have HF:=zb h;have HPAY:=zb hpay;clear hpay;obtain⟨a,HA⟩:∃a,Hid (a=l.getD 0 0):=⟨_,rfl⟩;obtain⟨b,HB⟩:∃b,Hid (b=l.getD 1 0):=⟨_,rfl⟩;obtain⟨c,HCC⟩:∃c,Hid (c=l.getD 2 0):=⟨_,rfl⟩;rw[<-HB.out] at HPAY;have HCA:=zb (zbB 10 (by omega) a b c);obtain⟨y,HY⟩:∃y,Hid (y=zU 10 (a%M) (b%M) (c%M)):=⟨_,rfl⟩;rw[<-HY.out] at HCA;clear h hp;go_enter func232,ntmps232;go_wp2_with fail
 refine(HC2.out _).mono ?_;rintro e w1 ⟨rfl,rfl⟩;go_wp2
 go_loopw [10] (fun t10 x=>∃(i:Nat) (l:List Nat) (G:Fz) (S':List Nat) (sv' mv':Value),i<=k/\t10=.int .i64 (i:Int)/\Hid (Zd i F=some (l,G))/\OL base fb F S w l G S' sv' mv' x) (fun t10 _=>k - (RowKit.intOf t10).toNat)
 case atStart=>exact⟨0,[],F,S,sv,mv,by omega,rfl,rfl,OL.start HF.out⟩
 case round=>
  obtain⟨i,l1,G1,S',sv',mv',hi,rfl,HL,hol⟩:=hrel;by_cases hlt:i<k
  ·have d:decide ((i:Int)<(k:Int))=true:=decide_eq_true (by omega);have hll:=YW HL.out;have HPO:=zb (Ym _ hol.fr);cases hpo:zi G1 with
   |none=>
    exfalso;have h1:Zd (i+1) F=none:=by rw[Zd,HL.out];show(match zi G1 with|none=>none|some (n,G')=>some (l1++[n],G'))=_;rw[hpo]
    have h2:=zad h1 k (by omega);rw[HP.out] at h2;cases h2
   |some r=>
    obtain⟨n,G'⟩:=r;rw[hpo] at HPO;have HL2:Hid (Zd (i+1) F=some (l1++[n],G')):=by show _=_;rw[Zd,HL.out];show(match zi G1 with|none=>none|some (n,G')=>some (l1++[n],G'))=_;rw[hpo]
    have HOL:=zb hol;clear hol hpo;go_wp2_with fail
    refine HPO.out.mono ?_;rintro e x2 ⟨rfl,S2,sv2,mv2,hf2,hk2,hs2⟩;have hr2:=hk2.row HOL.out.row HOL.out.out;have HOL2:=zb (HOL.out.step hf2 hk2 hs2 n);have hfz:=hr2.frozen;have c0:=hr2.cell (i:=i*4) (by omega);have c1:=hr2.cell (i:=i*4+1) (by omega);have c2:=hr2.cell (i:=i*4+2) (by omega);have c3:=hr2.cell (i:=i*4+3) (by omega);clear hf2 hk2 hs2 hr2;have hi3:i<3:=by omega
    go_wp2;refine⟨⟨i+1,l1++[n],G',S2,sv2,mv2,by omega,by go_num,HL2, ?_⟩,by simp[RowKit.intOf];omega⟩;have h9:=HOL2.out;rw[hll] at h9;exact h9
  ·obtain rfl:i=k:=by omega
   have hle:Zd i F=some (l1,G1):=HL.out;rw[HP.out] at hle;obtain⟨rfl,rfl⟩:=Prod.mk.inj (Option.some.inj hle);have d:decide ((i:Int)<(i:Int))=false:=decide_eq_false (by omega);obtain⟨⟨a0,a1,a2,a3⟩,⟨b0,b1,b2,b3⟩,⟨c0,c1,c2,c3⟩⟩:=hol.words;rw[<-HA.out] at a0 a1 a2 a3;rw[<-HB.out] at b0 b1 b2 b3;rw[<-HCC.out] at c0 c1 c2 c3;have HOL:=zb hol;clear hol hle HL;obtain⟨m,HM⟩:∃m,Hid (m=(pl b 0).length):=⟨_,rfl⟩;have hm32:m<=32:=by rw[HM.out];exact zpj b 0
   have HBL:=zb (zbq b);rw[<-HM.out] at HBL HPAY;go_wp2_with fail
   refine(HBL.out _).mono ?_;rintro e x1 ⟨rfl,hb1⟩
   have HPA:Hid (Calls prog 204 #[.pointer (some ⟨fb,0,none⟩),.int .i64 (10*(m:Int))] x1 (Out (yC (10*m) G) zx base fb S' x1)):=by
    have h9:=zhW (10*m) (by omega) x1 (HOL.out.fr.below hb1);rw[show((10*m:Nat):Int)=10*(m:Int) by omega] at h9;exact h9
   rw[HPAY.out] at HPA;have HK1:=zb (HOL.out.kb.below hb1);have hro1:=zg HOL.out.row hb1;have HB1:=zb hb1;clear hb1;go_wp2_with fail
   refine HPA.out.mono ?_;rintro e x2 ⟨⟨u,pv,rfl⟩,hk2⟩;exact⟨rfl,⟨_,_,rfl⟩,HK1.out.trans hk2 HOL.out.sub⟩
theorem zif {base fb:Nat} {F G G3:Fz} {S:List Nat} {sv mv:Value} {l:List Nat} (w:World) (h:Fr base fb F S sv mv w) (hp:Zd 2 F=some (l,G)) (hpay:yC (10*(pl (l.getD 1 0) 0).length) G=some ((),G3)):
  Calls prog 232 #[.pointer (some ⟨fb,0,none⟩),.int .u8 10] w (Out (zl (zU 10 (l.getD 0 0%M) (l.getD 1 0%M) (l.getD 2 0%M)) G3) zx base fb S w):=by
 have HC:Hid (∀w,Calls prog 256 #[.int .u8 10] w fun e w'=>e=.returned (.int .i64 2)/\w'=w):=fun w=>yH 10 (by omega) w
 obtain⟨k,hkk⟩:∃k,k=2:=⟨_,rfl⟩;have hk:k<=3:=by omega
 rw[<-hkk] at hp;have HC2:Hid (∀w,Calls prog 256 #[.int .u8 10] w fun e w'=>e=.returned (.int .i64 (k:Int))/\w'=w):=by rw[hkk];exact HC
 clear HC hkk;have HP:=zb hp;have HF:=zb h;have HPAY:=zb hpay;clear hpay;obtain⟨a,HA⟩:∃a,Hid (a=l.getD 0 0):=⟨_,rfl⟩;obtain⟨b,HB⟩:∃b,Hid (b=l.getD 1 0):=⟨_,rfl⟩;obtain⟨c,HCC⟩:∃c,Hid (c=l.getD 2 0):=⟨_,rfl⟩;rw[<-HB.out] at HPAY;rw[<-HA.out,<-HB.out,<-HCC.out];have HCA:=zb (zbB 10 (by omega) a b c);obtain⟨y,HY⟩:∃y,Hid (y=zU 10 (a%M) (b%M) (c%M)):=⟨_,rfl⟩;rw[<-HY.out] at HCA⊢;clear h hp;go_enter func232,ntmps232;go_wp2_with fail
 refine(HC2.out _).mono ?_;rintro e w1 ⟨rfl,rfl⟩;go_wp2
 go_loopw [10] (fun t10 x=>∃(i:Nat) (l:List Nat) (G:Fz) (S':List Nat) (sv' mv':Value),i<=k/\t10=.int .i64 (i:Int)/\Hid (Zd i F=some (l,G))/\OL base fb F S w l G S' sv' mv' x) (fun t10 _=>k - (RowKit.intOf t10).toNat)
 case atStart=>exact⟨0,[],F,S,sv,mv,by omega,rfl,rfl,OL.start HF.out⟩
 case round=>
  obtain⟨i,l1,G1,S',sv',mv',hi,rfl,HL,hol⟩:=hrel;by_cases hlt:i<k
  ·have d:decide ((i:Int)<(k:Int))=true:=decide_eq_true (by omega);have hll:=YW HL.out;have HPO:=zb (Ym _ hol.fr);cases hpo:zi G1 with
   |none=>
    exfalso;have h1:Zd (i+1) F=none:=by rw[Zd,HL.out];show(match zi G1 with|none=>none|some (n,G')=>some (l1++[n],G'))=_;rw[hpo]
    have h2:=zad h1 k (by omega);rw[HP.out] at h2;cases h2
   |some r=>
    obtain⟨n,G'⟩:=r;rw[hpo] at HPO;have HL2:Hid (Zd (i+1) F=some (l1++[n],G')):=by show _=_;rw[Zd,HL.out];show(match zi G1 with|none=>none|some (n,G')=>some (l1++[n],G'))=_;rw[hpo]
    have HOL:=zb hol;clear hol hpo;go_wp2_with fail
    refine HPO.out.mono ?_;rintro e x2 ⟨rfl,S2,sv2,mv2,hf2,hk2,hs2⟩;have hr2:=hk2.row HOL.out.row HOL.out.out;have HOL2:=zb (HOL.out.step hf2 hk2 hs2 n);have hfz:=hr2.frozen;have c0:=hr2.cell (i:=i*4) (by omega);have c1:=hr2.cell (i:=i*4+1) (by omega);have c2:=hr2.cell (i:=i*4+2) (by omega);have c3:=hr2.cell (i:=i*4+3) (by omega);clear hf2 hk2 hs2 hr2;have hi3:i<3:=by omega
    go_wp2;refine⟨⟨i+1,l1++[n],G',S2,sv2,mv2,by omega,by go_num,HL2, ?_⟩,by simp[RowKit.intOf];omega⟩;have h9:=HOL2.out;rw[hll] at h9;exact h9
  ·obtain rfl:i=k:=by omega
   have hle:Zd i F=some (l1,G1):=HL.out;rw[HP.out] at hle;obtain⟨rfl,rfl⟩:=Prod.mk.inj (Option.some.inj hle);have d:decide ((i:Int)<(i:Int))=false:=decide_eq_false (by omega);obtain⟨⟨a0,a1,a2,a3⟩,⟨b0,b1,b2,b3⟩,⟨c0,c1,c2,c3⟩⟩:=hol.words;rw[<-HA.out] at a0 a1 a2 a3;rw[<-HB.out] at b0 b1 b2 b3;rw[<-HCC.out] at c0 c1 c2 c3;have HOL:=zb hol;clear hol hle HL;obtain⟨m,HM⟩:∃m,Hid (m=(pl b 0).length):=⟨_,rfl⟩;have hm32:m<=32:=by rw[HM.out];exact zpj b 0
   have HBL:=zb (zbq b);rw[<-HM.out] at HBL HPAY;go_wp2_with fail
   refine(HBL.out _).mono ?_;rintro e x1 ⟨rfl,hb1⟩
   have HPA:Hid (Calls prog 204 #[.pointer (some ⟨fb,0,none⟩),.int .i64 (10*(m:Int))] x1 (Out (yC (10*m) G) zx base fb S' x1)):=by
    have h9:=zhW (10*m) (by omega) x1 (HOL.out.fr.below hb1);rw[show((10*m:Nat):Int)=10*(m:Int) by omega] at h9;exact h9
   rw[HPAY.out] at HPA;have HK1:=zb (HOL.out.kb.below hb1);have hro1:=zg HOL.out.row hb1;have HB1:=zb hb1;clear hb1;go_wp2_with fail
   refine HPA.out.mono ?_;rintro e x2 ⟨rfl,S3,sv3,mv3,hf3,hk3,hs3⟩;have hro2:=hk3.row hro1 HOL.out.out;have hcell:∀i,i<12->x2.cell? ⟨w.heap.size,i,none⟩=some (opsC l i):=fun i hi=>hro2.cell hi
   obtain⟨p0,p1,p2,p3⟩:_/\_/\_/\_:=⟨hcell 0 (by omega),hcell 1 (by omega),hcell 2 (by omega),hcell 3 (by omega)⟩;obtain⟨q0,q1,q2,q3⟩:_/\_/\_/\_:=⟨hcell 4 (by omega),hcell 5 (by omega),hcell 6 (by omega),hcell 7 (by omega)⟩;obtain⟨r0,r1,r2,r3⟩:_/\_/\_/\_:=⟨hcell 8 (by omega),hcell 9 (by omega),hcell 10 (by omega),hcell 11 (by omega)⟩;simp only[opsC,Nat.reduceDiv,Nat.reduceMod] at p0 p1 p2 p3 q0 q1 q2 q3 r0 r1 r2 r3;rw[<-HA.out] at p0 p1 p2 p3;rw[<-HB.out] at q0 q1 q2 q3;rw[<-HCC.out] at r0 r1 r2 r3;have HKW:=zb (HK1.out.trans hk3 HOL.out.sub);have HSW:Hid (∀j∈S3,j∈S\/w.heap.size<=j):=fun j hj=>(hs3 j hj).elim (HOL.out.sub j) (fun h=>Or.inr (Nat.le_trans HK1.out.size h))
   have HF3:=zb hf3;clear hf3 hk3 hs3 hro1 hro2 hcell a0 a1 a2 a3 b0 b1 b2 b3 c0 c1 c2 c3;go_wp2_with fail
   refine(HCA.out _).mono ?_;rintro e x4 ⟨r,HR,rfl,hb4⟩;obtain rfl:r=y:=HR.out;have HB4:=zb hb4;clear hb4 HR;go_wp2;have hbe:Below x2.heap.size x2 (x4.alloc (wc r)):=bal HB4.out _;have hkb:Kb S w (x4.alloc (wc r)):=HKW.out.below hbe;refine zfb _ (x4.alloc (wc r)) (br:=x4.heap.size) (nr:=r) (yz x4 r) (fun hm=>by have h5:=HF3.out.footlt _ hm;have h6:=HB4.out.size;omega) (HF3.out.below hbe) rfl rfl rfl ?_ ?_
   ·intro u pv s x hno hd hk;refine⟨hd, ?_⟩;rw[hno];exact⟨⟨_,_,rfl⟩,hkb.trans hk HSW.out⟩
   ·intro x S2 sv2 mv2 hfr hk2 hs2;cases hpu:zl r G3 with
    |none=>
     rw[hpu] at hfr;exact absurd hfr (fun h=>zcg h)
    |some q=>
     obtain⟨u,G2⟩:=q;rw[hpu] at hfr
     first|go_end0|refine bodyPost_ret (results_none rfl _ _ _) rfl ?_
     exact⟨rfl,S2,sv2,mv2,hfr,hkb.trans hk2 HSW.out,fun j hj=>(hs2 j hj).elim (HSW.out j) (fun h=>Or.inr (Nat.le_trans hkb.size h))⟩
theorem zmA {base fb:Nat} {F:Fz} {S:List Nat} {sv mv:Value} (op:Nat) (ho:op<=255) (w:World) (h:Fr base fb F S sv mv w):
  Calls prog 232 #[.pointer (some ⟨fb,0,none⟩),.int .u8 (op:Int)] w (Out (zdQ op F) zx base fb S w):=by
 unfold zdQ;cases hp:Zd (yr op) F with
 |none=>exact zg2 op ho w h hp
 |some r=>
  obtain⟨l,G⟩:=r
  show Calls _ _ _ _ (Out (match(if op=10 then yC (10*(pl (l.getD 1 0) 0).length) G else some ((),G)) with
   |none=>none
   |some (_,G2)=>zl (zU op (l.getD 0 0%M) (l.getD 1 0%M) (l.getD 2 0%M)) G2) zx base fb S w)
  by_cases h10:op=10
  ·subst h10;rw[if_pos rfl];cases hpay:yC (10*(pl (l.getD 1 0) 0).length) G with
   |none=>exact ze7 w h hp hpay
   |some q=>
    obtain⟨u,G3⟩:=q;exact zif w h hp hpay
  ·rw[if_neg h10];exact zfL op ho h10 w h hp
section
open Go.Maps
def zaD (Post:Ending->World->Prop):Prop:=∀e w,Post e w->e=.returned (.tuple #[])\/Pan e
theorem Zz {r:Option (Fz×TS)} {base fb tb:Nat} {T:TS} {V:TV} {S:List Nat} {m:Nat} {w:World}:zaD (Out2 r base fb tb T V S m w):=fun e w' h=>by
 unfold Out2 at h;split at h
 ·exact Or.inl h.1
 ·exact Or.inr h.1
theorem do_oper {Post:Ending->World->Prop} (fb op:Nat) (ho:op<=255) (hop:opN op=true) (w:World) (hP:zaD Post) (hc:Calls prog 232 #[.pointer (some ⟨fb,0,none⟩),.int .u8 (op:Int)] w Post):
  Calls prog 205 #[.pointer (some ⟨fb,0,none⟩),.int .u8 (op:Int)] w Post:=by
 have H1:=zb (Zl op ho);rw[hop] at H1;have HC:=zb hc;have HP:=zb hP;clear hc hP hop;go_enter func205,ntmps205
 go_wp2_with (first
  |(go_at_call 231;refine(H1.out _).mono ?_;rintro e w1 ⟨rfl,rfl⟩)
  |fail)
 refine HC.out.mono ?_;intro e w2 hq;have HQ:=zb hq;rcases HP.out e w2 hq with rfl|⟨u,pv,rfl⟩
 ·clear hq HC;go_wp2;go_end0;exact HQ.out
 ·exact⟨rfl,HQ.out⟩
theorem do_keep {Post:Ending->World->Prop} (fb op:Nat) (h1:80<=op) (h2:op<=94) (w:World) (hP:zaD Post) (hc:Calls prog 234 #[.pointer (some ⟨fb,0,none⟩),.int .u8 (op:Int)] w Post):
  Calls prog 205 #[.pointer (some ⟨fb,0,none⟩),.int .u8 (op:Int)] w Post:=by
 have H1:=zb (Zl op (by omega));rw[show opN op=false by unfold opN;simp;omega] at H1;have d1:decide ((48:Int)<=(op:Int))=true:=decide_eq_true (by omega);have d2:decide ((op:Int)<=62)=false:=decide_eq_false (by omega);have d3:decide ((80:Int)<=(op:Int))=true:=decide_eq_true (by omega);have d4:decide ((op:Int)<=94)=true:=decide_eq_true (by omega);have HC:=zb hc;have HP:=zb hP;clear hc hP h1 h2;go_enter func205,ntmps205
 go_wp2_with (first
  |(go_at_call 231;refine(H1.out _).mono ?_;rintro e w1 ⟨rfl,rfl⟩)
  |fail)
 refine HC.out.mono ?_;intro e w2 hq;have HQ:=zb hq;rcases HP.out e w2 hq with rfl|⟨u,pv,rfl⟩
 ·clear hq HC;go_wp2;go_end0;exact HQ.out
 ·exact⟨rfl,HQ.out⟩
theorem do_push {Post:Ending->World->Prop} (fb op:Nat) (h1:95<=op) (h2:op<=127) (w:World) (hP:zaD Post) (hc:Calls prog 236 #[.pointer (some ⟨fb,0,none⟩),.int .i64 ((op - 95:Nat):Int)] w Post):
  Calls prog 205 #[.pointer (some ⟨fb,0,none⟩),.int .u8 (op:Int)] w Post:=by
 have H1:=zb (Zl op (by omega));rw[show opN op=false by unfold opN;simp;omega] at H1;have H2:=zb (yX op (by omega));rw[show zab op=true by unfold zab;simp;omega] at H2;have d1:decide ((48:Int)<=(op:Int))=true:=decide_eq_true (by omega);have d2:decide ((op:Int)<=62)=false:=decide_eq_false (by omega);have d3:decide ((80:Int)<=(op:Int))=true:=decide_eq_true (by omega);have d4:decide ((op:Int)<=94)=false:=decide_eq_false (by omega);have d5:IntKind.u8.wrap ((op:Int) - 95)=((op - 95:Nat):Int):=by simp[IntKind.wrap,IntKind.signed,IntKind.bits];omega
 have d6:IntKind.i64.wrap ((op - 95:Nat):Int)=((op - 95:Nat):Int):=by simp[IntKind.wrap,IntKind.signed,IntKind.bits];omega
 have HC:=zb hc;have HP:=zb hP;clear hc hP;go_enter func205,ntmps205
 go_wp2_with (first
  |(go_at_call 231;refine(H1.out _).mono ?_;rintro e w1 ⟨rfl,rfl⟩)
  |(go_at_call 235;refine(H2.out _).mono ?_;rintro e w1 ⟨rfl,rfl⟩)
  |fail)
 refine HC.out.mono ?_;intro e w2 hq;have HQ:=zb hq;rcases HP.out e w2 hq with rfl|⟨u,pv,rfl⟩
 ·clear hq HC;go_wp2;go_end0;exact HQ.out
 ·exact⟨rfl,HQ.out⟩
theorem znr {Post:Ending->World->Prop} (fb op:Nat) (h0:op=0\/op=243\/op=253) (w:World) (hP:zaD Post) (hc:Calls prog 245 #[.pointer (some ⟨fb,0,none⟩),.int .u8 (op:Int)] w Post):
  Calls prog 205 #[.pointer (some ⟨fb,0,none⟩),.int .u8 (op:Int)] w Post:=by
 have hop:op<=255:=by omega
 have H1:=zb (Zl op hop);rw[show opN op=false by rcases h0 with rfl|rfl|rfl<;>rfl] at H1;have H2:=zb (yX op hop);rw[show zab op=false by rcases h0 with rfl|rfl|rfl<;>rfl] at H2;have H3:=zb (YV op hop);rw[show zdD op=false by rcases h0 with rfl|rfl|rfl<;>rfl] at H3;have H4:=zb (zaa op hop);rw[show zby op=false by rcases h0 with rfl|rfl|rfl<;>rfl] at H4;have H5:=zb (zbP op hop);rw[show zhn op=false by rcases h0 with rfl|rfl|rfl<;>rfl] at H5;have H6:=zb (zeu op hop);rw[show ziy op=false by rcases h0 with rfl|rfl|rfl<;>rfl] at H6;have HC:=zb hc;have HP:=zb hP;clear hc hP hop;rcases h0 with rfl|rfl|rfl
 all_goals (
  go_enter func205,ntmps205
  go_wp2_with (first
   |(go_at_call 231;refine(H1.out _).mono ?_;rintro e w1 ⟨rfl,rfl⟩)
   |(go_at_call 235;refine(H2.out _).mono ?_;rintro e w1 ⟨rfl,rfl⟩)
   |(go_at_call 237;refine(H3.out _).mono ?_;rintro e w1 ⟨rfl,rfl⟩)
   |(go_at_call 239;refine(H4.out _).mono ?_;rintro e w1 ⟨rfl,rfl⟩)
   |(go_at_call 241;refine(H5.out _).mono ?_;rintro e w1 ⟨rfl,rfl⟩)
   |(go_at_call 243;refine(H6.out _).mono ?_;rintro e w1 ⟨rfl,rfl⟩)
   |fail)
  refine HC.out.mono ?_;intro e w2 hq;have HQ:=zb hq;rcases HP.out e w2 hq with rfl|⟨u,pv,rfl⟩
  ·clear hq HC;go_wp2;go_end0;exact HQ.out
  ·exact⟨rfl,HQ.out⟩)
end
section
open Go.Maps
theorem keep_81 {Post:Ending->World->Prop} (fb:Nat) (w:World) (hP:zaD Post) (hc:Calls prog 265 #[.pointer (some ⟨fb,0,none⟩)] w Post):
  Calls prog 234 #[.pointer (some ⟨fb,0,none⟩),.int .u8 81] w Post:=by
 have HC:=zb hc;have HP:=zb hP;clear hc hP;go_enter func234,ntmps234;go_wp2_with fail
 refine HC.out.mono ?_;intro e w2 hq;have HQ:=zb hq;rcases HP.out e w2 hq with rfl|⟨u,pv,rfl⟩
 ·clear hq HC;go_wp2;go_end0;exact HQ.out
 ·exact⟨rfl,HQ.out⟩
theorem keep_82 {Post:Ending->World->Prop} (fb:Nat) (w:World) (hP:zaD Post) (hc:Calls prog 266 #[.pointer (some ⟨fb,0,none⟩)] w Post):
  Calls prog 234 #[.pointer (some ⟨fb,0,none⟩),.int .u8 82] w Post:=by
 have HC:=zb hc;have HP:=zb hP;clear hc hP;go_enter func234,ntmps234;go_wp2_with fail
 refine HC.out.mono ?_;intro e w2 hq;have HQ:=zb hq;rcases HP.out e w2 hq with rfl|⟨u,pv,rfl⟩
 ·clear hq HC;go_wp2;go_end0;exact HQ.out
 ·exact⟨rfl,HQ.out⟩
theorem keep_83 {Post:Ending->World->Prop} (fb:Nat) (w:World) (hP:zaD Post) (hc:Calls prog 267 #[.pointer (some ⟨fb,0,none⟩)] w Post):
  Calls prog 234 #[.pointer (some ⟨fb,0,none⟩),.int .u8 83] w Post:=by
 have HC:=zb hc;have HP:=zb hP;clear hc hP;go_enter func234,ntmps234;go_wp2_with fail
 refine HC.out.mono ?_;intro e w2 hq;have HQ:=zb hq;rcases HP.out e w2 hq with rfl|⟨u,pv,rfl⟩
 ·clear hq HC;go_wp2;go_end0;exact HQ.out
 ·exact⟨rfl,HQ.out⟩
theorem keep_84 {Post:Ending->World->Prop} (fb:Nat) (w:World) (hP:zaD Post) (hc:Calls prog 268 #[.pointer (some ⟨fb,0,none⟩),.int .i64 1] w Post):
  Calls prog 234 #[.pointer (some ⟨fb,0,none⟩),.int .u8 84] w Post:=by
 have HC:=zb hc;have HP:=zb hP;clear hc hP;go_enter func234,ntmps234;go_wp2_with fail
 refine HC.out.mono ?_;intro e w2 hq;have HQ:=zb hq;rcases HP.out e w2 hq with rfl|⟨u,pv,rfl⟩
 ·clear hq HC;go_wp2;go_end0;exact HQ.out
 ·exact⟨rfl,HQ.out⟩
theorem keep_85 {Post:Ending->World->Prop} (fb:Nat) (w:World) (hP:zaD Post) (hc:Calls prog 269 #[.pointer (some ⟨fb,0,none⟩),.int .i64 1] w Post):
  Calls prog 234 #[.pointer (some ⟨fb,0,none⟩),.int .u8 85] w Post:=by
 have HC:=zb hc;have HP:=zb hP;clear hc hP;go_enter func234,ntmps234;go_wp2_with fail
 refine HC.out.mono ?_;intro e w2 hq;have HQ:=zb hq;rcases HP.out e w2 hq with rfl|⟨u,pv,rfl⟩
 ·clear hq HC;go_wp2;go_end0;exact HQ.out
 ·exact⟨rfl,HQ.out⟩
theorem keep_87 {Post:Ending->World->Prop} (fb:Nat) (w:World) (hP:zaD Post) (hc:Calls prog 271 #[.pointer (some ⟨fb,0,none⟩)] w Post):
  Calls prog 234 #[.pointer (some ⟨fb,0,none⟩),.int .u8 87] w Post:=by
 have HC:=zb hc;have HP:=zb hP;clear hc hP;go_enter func234,ntmps234;go_wp2_with fail
 refine HC.out.mono ?_;intro e w2 hq;have HQ:=zb hq;rcases HP.out e w2 hq with rfl|⟨u,pv,rfl⟩
 ·clear hq HC;go_wp2;go_end0;exact HQ.out
 ·exact⟨rfl,HQ.out⟩
theorem keep_92 {Post:Ending->World->Prop} (fb:Nat) (w:World) (hP:zaD Post) (hc:Calls prog 268 #[.pointer (some ⟨fb,0,none⟩),.int .i64 2] w Post):
  Calls prog 234 #[.pointer (some ⟨fb,0,none⟩),.int .u8 92] w Post:=by
 have HC:=zb hc;have HP:=zb hP;clear hc hP;go_enter func234,ntmps234;go_wp2_with fail
 refine HC.out.mono ?_;intro e w2 hq;have HQ:=zb hq;rcases HP.out e w2 hq with rfl|⟨u,pv,rfl⟩
 ·clear hq HC;go_wp2;go_end0;exact HQ.out
 ·exact⟨rfl,HQ.out⟩
theorem keep_93 {Post:Ending->World->Prop} (fb:Nat) (w:World) (hP:zaD Post) (hc:Calls prog 269 #[.pointer (some ⟨fb,0,none⟩),.int .i64 2] w Post):
  Calls prog 234 #[.pointer (some ⟨fb,0,none⟩),.int .u8 93] w Post:=by
 have HC:=zb hc;have HP:=zb hP;clear hc hP;go_enter func234,ntmps234;go_wp2_with fail
 refine HC.out.mono ?_;intro e w2 hq;have HQ:=zb hq;rcases HP.out e w2 hq with rfl|⟨u,pv,rfl⟩
 ·clear hq HC;go_wp2;go_end0;exact HQ.out
 ·exact⟨rfl,HQ.out⟩
theorem keep_94 {Post:Ending->World->Prop} (fb:Nat) (w:World) (hP:zaD Post) (hc:Calls prog 272 #[.pointer (some ⟨fb,0,none⟩)] w Post):
  Calls prog 234 #[.pointer (some ⟨fb,0,none⟩),.int .u8 94] w Post:=by
 have HC:=zb hc;have HP:=zb hP;clear hc hP;go_enter func234,ntmps234;go_wp2_with fail
 refine HC.out.mono ?_;intro e w2 hq;have HQ:=zb hq;rcases HP.out e w2 hq with rfl|⟨u,pv,rfl⟩
 ·clear hq HC;go_wp2;go_end0;exact HQ.out
 ·exact⟨rfl,HQ.out⟩
theorem keep_91 (fb:Nat) (w:World):
  Calls prog 234 #[.pointer (some ⟨fb,0,none⟩),.int .u8 91] w fun e w'=>e=.returned (.tuple #[])/\w'=w:=by
 go_enter func234,ntmps234;go_wp2;go_end0;exact⟨rfl,rfl⟩
def zbd (F:Fz):Option (Unit×Fz):=zK (zi F) (zan (zA (zi F)) (zh (zi F)))
theorem keep_86 {base fb:Nat} {F:Fz} {S:List Nat} {sv mv:Value} (hcs:F.code.size<=100000) (w:World) (h:Fr base fb F S sv mv w):
  Calls prog 234 #[.pointer (some ⟨fb,0,none⟩),.int .u8 86] w (Out (zbd F) zx base fb S w):=by
 have HPOP:=zb (Ym w h);have hsm:=Zp (F:=F) (G:=F) (Or.inr (Same.refl F));go_enter func234,ntmps234;go_wp2_with fail
 refine HPOP.out.mono ?_;intro e x hq;cases hp:zi F with
 |none=>
  rw[hp] at hq;obtain⟨⟨u,pv,rfl⟩,hk⟩:=hq;refine⟨rfl, ?_⟩;unfold zbd;rw[hp];exact⟨⟨_,_,rfl⟩,hk⟩
 |some r=>
  obtain⟨p,F1⟩:=r;rw[hp] at hq hsm;obtain⟨rfl,hto⟩:=hq;obtain⟨S1,sv1,mv1,h1,h2,h3⟩:=hto
  have hcd:F1.code.size<=100000:=by
   rcases hsm with hb|hs
   ·exact absurd h1.gal (by have:(zh (some (p,F1))).gas=F1.gas:=rfl;omega)
   ·rw[show F1.code=F.code from hs.code];exact hcs
  have HJ:=zb (zni p hcd x h1)
  have HE:Hid (zbd F=zan p F1):=by
   show zbd F=_;unfold zbd;rw[hp];rfl
  have HK:=zb h2;have HS:=zb h3;clear h1 h2 h3 hsm hcd h HPOP;go_wp2_with fail
  refine HJ.out.mono ?_;intro e y ho
  have HO:Hid (Out (zbd F) zx base fb S w e y):=by
   show Out _ _ _ _ _ _ _ _;rw[HE.out];cases hj:zan p F1 with
   |none=>
    rw[hj] at ho;exact⟨ho.1,HK.out.trans ho.2 HS.out⟩
   |some r2=>
    rw[hj] at ho;exact⟨ho.1,To.pre HK.out HS.out ho.2⟩
  rcases hj:zan p F1 with _|r2
  ·rw[hj] at ho;obtain⟨⟨u,pv,rfl⟩,_⟩:=ho;exact⟨rfl,HO.out⟩
  ·rw[hj] at ho;obtain⟨rfl,_⟩:=ho;clear HJ HE hj;obtain⟨⟨⟩,F9⟩:=r2;unfold zx at HO⊢;go_wp2;go_end0;exact HO.out
end
theorem zjU (n:Nat) (hn:n<=281474976710656) (w:World):(Instr.makeSlice 134 (.int .i64 (n:Int)) (.int .i64 (n:Int))).run prog w=.ok (.slice (some ⟨w.heap.size,0,none⟩) n n) (w.alloc (.cells (madeCells #[.bool false] n) 4)):=
 run_make_row' 134 4 (.bool false) 1 (by kernel_rfl) (by kernel_rfl) rfl .i64 .i64 n (by omega) (by omega) w
theorem zoU {code:ByteArray} {f i:Nat} {acc:List Bool} (h:code.size<=i):jdF code f i acc=acc:=by
 cases f with
 |zero=>rfl
 |succ f=>exact if_neg (by omega)
def JdI (code:ByteArray) (i:Nat) (acc:List Bool):Prop:=acc.length=code.size+1/\∃f,code.size<=i+f/\jdF code f i acc=jdL code
theorem JdI.start (code:ByteArray):JdI code 0 (List.replicate (code.size+1) false):=⟨by simp,code.size,by omega,rfl⟩
theorem JdI.step {code:ByteArray} {i:Nat} {acc:List Bool} (h:JdI code i acc) (hi:i<code.size):JdI code (i+1+(if 95<byt code i/\byt code i<=127 then byt code i - 95 else 0)) (if byt code i=91 then acc.set i true else acc):=by
 obtain⟨h1,f,h2,h3⟩:=h;cases f with
 |zero=>omega
 |succ f=>
  refine⟨by split<;>simp[h1],f,by omega, ?_⟩;rw[<-h3];exact(if_pos hi).symm
theorem JdI.done {code:ByteArray} {i:Nat} {acc:List Bool} (h:JdI code i acc) (hi:code.size<=i):acc=jdL code:=by
 obtain⟨_,f,_,h3⟩:=h;rw[<-h3,zoU hi]
theorem zlZ {acc:List Bool} {i j:Nat} (hi:i<acc.length):(if j=i then Value.bool true else .bool (acc.getD j false))=.bool ((acc.set i true).getD j false):=by
 by_cases e:j=i
 ·subst e;simp[List.getD_eq_getElem?_getD,hi]
 ·rw[if_neg e];rw[List.getD_eq_getElem?_getD,List.getD_eq_getElem?_getD,List.getElem?_set,if_neg (fun h:i=j=>e h.symm)]
theorem zct (code:ByteArray) (hcs:code.size<=100000) (w:World):Calls prog 92 #[.string code] w fun e w'=>∃v,e=.returned v/\Jds w' v code/\Below w.heap.size w w':=by
 have hmk:=zjU (code.size+1) (by omega);rw[show((code.size+1:Nat):Int)=(code.size:Int)+1 by omega] at hmk;go_enter func92,ntmps92;go_wp2
 go_loopw [4] (fun t4 wr=>∃(i:Nat) (acc:List Bool),i<=100100/\t4=.int .i64 (i:Int)/\Hid (JdI code i acc)/\Hid (wr.rowIs w.heap.size 4 (code.size+1) (fun j=>.bool (acc.getD j false)))/\Hid (Below w.heap.size w wr)) (fun t4 _=>200000 - (RowKit.intOf t4).toNat)
 case atStart=>
  refine⟨0,_,by omega,rfl,JdI.start code, ?_,bal (Below.refl _ _) _⟩;refine(World.rowIs_made w (.bool false) (code.size+1) 4).congr fun j hj=> ?_
  simp[List.getD_eq_getElem?_getD,List.getElem?_replicate];split<;>rfl
 case round=>
  obtain⟨i,acc,hi,rfl,HJ,HR,HB⟩:=hrel;by_cases hlt:i<code.size
  ·have hd:decide ((i:Int)<(code.size:Int))=true:=decide_eq_true (by omega);have hb:=zgV code i hlt;have hbl:=ze8 code i;have HS:=zb (HJ.out.step hlt);have hal:=HJ.out.1;have hc:=HR.out.cell (i:=i) (by omega);have hz:=HR.out.frozen i;generalize byt code i=b at*;by_cases h91:b=91
   ·subst h91;rw[if_pos rfl,if_neg (by omega)] at HS;go_wp2
    go_roundw
    case rel=>
     refine⟨i+1,_,by omega,by go_num,HS.out,(HR.out.set i _).congr fun j hj=>zlZ (by omega),HB.out.setCell (by simp) _⟩
    case measure=>simp[RowKit.intOf];omega
   ·rw[if_neg h91] at HS;have d91:((b:Int)==91)=false:=by simp;omega
    by_cases hp:95<b/\b<=127
    ·rw[if_pos hp] at HS;obtain⟨hp1,hp2⟩:=hp;have d1:decide ((95:Int)<(b:Int))=true:=decide_eq_true (by omega);have d2:decide ((b:Int)<=127)=true:=decide_eq_true (by omega);obtain⟨k,hk⟩:∃k:Nat,(b:Int) - 95=(k:Int):=⟨b - 95,by omega⟩;go_wp2
     go_roundw
     case rel=>
      refine⟨i+1+(b - 95),_,by omega,by go_num,HS.out,HR.out,HB.out⟩
     case measure=>simp[RowKit.intOf];omega
    ·rw[if_neg hp] at HS;by_cases hp1:95<b
     ·have d1:decide ((95:Int)<(b:Int))=true:=decide_eq_true (by omega);have d2:decide ((b:Int)<=127)=false:=decide_eq_false (by omega);go_wp2
      go_roundw
      case rel=>exact⟨i+1,_,by omega,by go_num,HS.out,HR.out,HB.out⟩
      case measure=>simp[RowKit.intOf];omega
     ·have d1:decide ((95:Int)<(b:Int))=false:=decide_eq_false (by omega);go_wp2
      go_roundw
      case rel=>exact⟨i+1,_,by omega,by go_num,HS.out,HR.out,HB.out⟩
      case measure=>simp[RowKit.intOf];omega
  ·have hd:decide ((i:Int)<(code.size:Int))=false:=decide_eq_false (by omega);have HD:=zb (HJ.out.done (by omega));go_wp2;go_ret;refine⟨_,rfl,⟨_,_,rfl, ?_⟩,HB.out⟩;rw[<-HD.out];exact HR.out
section
open Go.Maps
theorem zlk (F:Fz) (sv mv:Value) (n:Nat):(fun i=>if i=22 then .int .i64 (n:Int) else F.cell sv mv i)=({F with pc:=n}:Fz).cell sv mv:=by
 funext i;by_cases h:i=22
 ·subst h;rfl
 ·simp only[Fz.cell,if_neg h]
def opF (F:Fz):Nat:=if F.nx<F.code.size then byt F.code F.nx else 0
def onF (F:Fz):Fz:={F with pc:=F.nx,nx:=F.nx+1}
theorem step_of {base fb tb m:Nat} {F:Fz} {T:TS} {S:List Nat} {sv mv:Value} {V:TV} {c:Nat} {r:Option (Fz×TS)} (w:World) (h:FT base fb tb F T S sv mv V w) (hnx:F.nx<=1000000) (hcs:F.code.size<=1000) (hc:ZA (opF F)=some c) (hcl:c<=1000) (hpay:c<=F.gas)
  (hdo:∀S1 sv1 mv1 x,FT base fb tb {onF F with gas:=F.gas - c} T S1 sv1 mv1 V x->Calls prog 205 #[.pointer (some ⟨fb,0,none⟩),.int .u8 (opF F:Int)] x (Out2 r base fb tb T V S1 m x)):
  Calls prog 158 #[.pointer (some ⟨fb,0,none⟩)] w (Out2 r base fb tb T V S m w):=by
 have c1:=h.fr.row.cell (i:=23) (by decide);have f1:=h.fr.row.frozen 23;have c2:=h.fr.row.cell (i:=22) (by decide);have f2:=h.fr.row.frozen 22;rw[show F.cell sv mv 23=.int .i64 (F.nx:Int) from rfl] at c1;rw[show F.cell sv mv 22=.int .i64 (F.pc:Int) from rfl] at c2;have HFT:=zb h;have HDO:=zb hdo
 have hop:opF F<=255:=by
  unfold opF;split
  ·have:=ze8 F.code F.nx;omega
  ·omega
 have HB:=zb (zc2 (opF F) hop);rw[hc] at HB;go_enter func158,ntmps158;go_wp2;have e1:(F.nx:Int)+1=((F.nx+1:Nat):Int):=by omega
 rw[e1]
 have hto:To base fb (onF F) S w ((w.setCell ⟨fb,22,none⟩ (.int .i64 (F.nx:Int))).setCell ⟨fb,23,none⟩ (.int .i64 ((F.nx+1:Nat):Int))):=
  (h.fr.set1 22 _ (zlk F sv mv F.nx) rfl rfl rfl rfl h.fr.gal).trans fun S1 sv1 mv1 h1=>h1.set1 23 _ (zeb _ sv1 mv1 (F.nx+1)) rfl rfl rfl rfl h.fr.gal
 obtain⟨S1,sv1,mv1,h1,h2,h3⟩:=hto;generalize((w.setCell ⟨fb,22,none⟩ (.int .i64 (F.nx:Int))).setCell ⟨fb,23,none⟩ (.int .i64 ((F.nx+1:Nat):Int)))=x at*;have hx:FT base fb tb (onF F) T S1 sv1 mv1 V x:=h.next rfl h1 h2 h3;have k1:=h1.row.cell (i:=22) (by decide);rw[show(onF F).cell sv1 mv1 22=.int .i64 (F.nx:Int) from rfl] at k1;have k2:=h1.row.cell (i:=1) (by decide);rw[show(onF F).cell sv1 mv1 1=.string F.code from rfl] at k2;have HX:=zb hx;have H2:=zb h2;have H3:=zb h3;have HFO:=zb h.foot;have HTL:Hid (∀k,zG tb T V k->k<w.heap.size):=fun k hk=>h.tr.lt hk
 have HPAY:Hid (∀y,Below x.heap.size x y->Calls prog 204 #[.pointer (some ⟨fb,0,none⟩),.int .i64 (c:Int)] y (Out (some ((),{onF F with gas:=F.gas - c})) zx base fb S1 y)):=fun y hy=>by
  have hp:=zhW c (by omega) y (h1.below hy);unfold yC at hp;rw[if_neg (show¬(onF F).gas<c from Nat.not_lt.2 hpay)] at hp;exact hp
 clear h1 h2 h3 hx h hdo c1 f1 c2 f2 hc e1;have hco:(zcB (some c))=.tuple #[.int .i64 (c:Int),.bool true]:=rfl;rw[hco] at HB;clear hco;have hl9:F.code.size<9223372036854775808:=by omega
 by_cases hlt:F.nx<F.code.size
 ·have hopf:opF F=byt F.code F.nx:=if_pos hlt;have hd:decide ((F.nx:Int)<(F.code.size:Int))=true:=decide_eq_true (by omega);have hb:=zgV F.code F.nx hlt;rw[<-hopf] at hb;generalize opF F=op at*;clear hopf
  go_region
  go_wp2
  go_region
  go_wp2_with (first
   |(go_at_call 203;refine(HB.out _).mono ?_;rintro e w1 ⟨rfl,rfl⟩)
   |fail)
  refine(HPAY.out _ ((Below.refl _ x).drew.drew)).mono ?_;rintro e y ⟨rfl,S2,sv2,mv2,g1,g2,g3⟩;have hy:=FT.next (HX.out.below ((Below.refl _ x).drew.drew)) (F':={onF F with gas:=F.gas - c}) rfl g1 g2 g3;have HD:=zb (HDO.out S2 sv2 mv2 y hy)
  have HKF:Hid (KF S tb T V w y/\(∀k∈S2,k∈S\/w.heap.size<=k)/\(∀x',Kb S2 y x'->Kb S w x')):=by
   have hk1:Kb S w y:=H2.out.trans ((Kb.of_below (S:=S1) ((Below.refl _ x).drew.drew)).trans g2 (fun i hi=>Or.inl hi)) H3.out
   have hs1:∀k∈S2,k∈S\/w.heap.size<=k:=fun k hk=>by
    rcases g3 k hk with e|e
    ·exact H3.out k e
    ·exact Or.inr (Nat.le_trans H2.out.size e)
   exact⟨⟨S,hk1,fun k hk=>Or.inl hk⟩,hs1,fun x' hx'=>hk1.trans hx' hs1⟩
  clear hy g1 g2 g3 HPAY HB HX;unfold zx;go_wp2_with fail
  refine HD.out.mono ?_;intro e z hq
  have HO:Hid (Out2 r base fb tb T V S m w e z):=by
   show Out2 _ _ _ _ _ _ _ _ _ _ _;cases r with
   |none=>exact⟨hq.1,HKF.out.2.2 z hq.2⟩
   |some q=>
    obtain⟨F9,T9⟩:=q;refine⟨hq.1, ?_⟩;have:=To2.comp (m:=0) HFO.out HTL.out HKF.out.1 HKF.out.2.1 (fun k hk=>Or.inl hk) (Nat.le_refl _) rfl hq.2;rw[Nat.zero_add] at this;exact this
  rcases Zz e z hq with rfl|⟨u,pv,rfl⟩
  ·clear hq HD HKF;go_wp2;go_end0;exact HO.out
  ·exact⟨rfl,HO.out⟩
 ·have hopf:opF F=0:=if_neg hlt;have hd:decide ((F.nx:Int)<(F.code.size:Int))=false:=decide_eq_false (by omega);rw[hopf] at HB HDO
  go_region
  go_wp2_with (first
   |(go_at_call 203;refine(HB.out _).mono ?_;rintro e w1 ⟨rfl,rfl⟩)
   |fail)
  refine(HPAY.out _ ((Below.refl _ x).drew)).mono ?_;rintro e y ⟨rfl,S2,sv2,mv2,g1,g2,g3⟩;have hy:=FT.next (HX.out.below ((Below.refl _ x).drew)) (F':={onF F with gas:=F.gas - c}) rfl g1 g2 g3;have HD:=zb (HDO.out S2 sv2 mv2 y hy)
  have HKF:Hid (KF S tb T V w y/\(∀k∈S2,k∈S\/w.heap.size<=k)/\(∀x',Kb S2 y x'->Kb S w x')):=by
   have hk1:Kb S w y:=H2.out.trans ((Kb.of_below (S:=S1) ((Below.refl _ x).drew)).trans g2 (fun i hi=>Or.inl hi)) H3.out
   have hs1:∀k∈S2,k∈S\/w.heap.size<=k:=fun k hk=>by
    rcases g3 k hk with e|e
    ·exact H3.out k e
    ·exact Or.inr (Nat.le_trans H2.out.size e)
   exact⟨⟨S,hk1,fun k hk=>Or.inl hk⟩,hs1,fun x' hx'=>hk1.trans hx' hs1⟩
  clear hy g1 g2 g3 HPAY HB HX;unfold zx;go_wp2_with fail
  refine HD.out.mono ?_;intro e z hq
  have HO:Hid (Out2 r base fb tb T V S m w e z):=by
   show Out2 _ _ _ _ _ _ _ _ _ _ _;cases r with
   |none=>exact⟨hq.1,HKF.out.2.2 z hq.2⟩
   |some q=>
    obtain⟨F9,T9⟩:=q;refine⟨hq.1, ?_⟩;have:=To2.comp (m:=0) HFO.out HTL.out HKF.out.1 HKF.out.2.1 (fun k hk=>Or.inl hk) (Nat.le_refl _) rfl hq.2;rw[Nat.zero_add] at this;exact this
  rcases Zz e z hq with rfl|⟨u,pv,rfl⟩
  ·clear hq HD HKF;go_wp2;go_end0;exact HO.out
  ·exact⟨rfl,HO.out⟩
end
section
open Go.Maps
abbrev zdn (st gas:Nat) (out:ByteArray) (lv:Value):Array Value:=#[.int .u8 (st:Int),.int .i64 (gas:Int),.string out,lv]
abbrev YL (st gas:Nat) (out:ByteArray) (lv:Value):Value:=.agg (zdn st gas out lv)
abbrev noL:Value:=.slice none 0 0
def ResAt (x:World) (b:Nat) (st gas:Nat) (out:ByteArray) (lv:Value):Prop:=(x.cell? ⟨b,0,none⟩=some (.int .u8 (st:Int))/\x.cell? ⟨b,1,none⟩=some (.int .i64 (gas:Int))/\x.cell? ⟨b,2,none⟩=some (.string out)/\x.cell? ⟨b,3,none⟩=some lv)/\x.frozen? ⟨b,0,none⟩=false/\x.frozen? ⟨b,1,none⟩=false/\x.frozen? ⟨b,2,none⟩=false/\x.frozen? ⟨b,3,none⟩=false
theorem ResAt.kb {S:List Nat} {x y:World} {b st gas:Nat} {out:ByteArray} {lv:Value} (h:ResAt x b st gas out lv) (hk:Kb S x y) (hb:b∉S):ResAt y b st gas out lv:=by
 obtain⟨⟨h0,h1,h2,h3⟩,f0,f1,f2,f3⟩:=h;have hl:b<x.heap.size:=zaV h0;have e:=hk.block b hl hb;exact⟨⟨(World.cell?_of_block e).trans h0,(World.cell?_of_block e).trans h1,(World.cell?_of_block e).trans h2,(World.cell?_of_block e).trans h3⟩,(World.frozen?_of_block e).trans f0,(World.frozen?_of_block e).trans f1,(World.frozen?_of_block e).trans f2,(World.frozen?_of_block e).trans f3⟩
def yk (x:World) (b st gas:Nat) (out:ByteArray) (lv:Value):World:=(((x.setCell ⟨b,0,none⟩ (.int .u8 (st:Int))).setCell ⟨b,1,none⟩ (.int .i64 (gas:Int))).setCell ⟨b,2,none⟩ (.string out)).setCell ⟨b,3,none⟩ lv
theorem zd4 {b st gas:Nat} {out:ByteArray} (u:TypeId) (pv:Value) (older:List PanicEntry) (w:World) (h:ResAt w b st gas out noL):
  CallsD prog 157 #[.pointer (some ⟨b,0,none⟩)] (.panicking ({v:=.iface u pv,recovered:=false}::older)) w fun e u' w'=>
   e=.returned (.tuple #[])/\u'=.panicking ({v:=.iface u pv,recovered:=true}::older)/\w'=yk w b 2 0 ⟨#[]⟩ noL:=by
 obtain⟨⟨h0,h1,h2,h3⟩,f0,f1,f2,f3⟩:=h;refine callsD_of_wpS func157 rfl fun c₀ cs hu=> ?_
 apply wpS_seq;apply wpS_region;simp[wpOpsS,go_sem,recoverD,hu,ntmps157,Exit.thenS];refine wpS_cond (t:=true) (by simp[Act.eval,Array.replicate]) ?_;simp only[if_true];apply wpS_region;simp[wpOpsS,go_sem,h0,h1,h2,h3,f0,f1,f2,f3,bodyPostS,results,results157,yk]
theorem zkz {b:Nat} (w:World):
  CallsD prog 157 #[.pointer (some ⟨b,0,none⟩)] .returning w fun e u' w'=>e=.returned (.tuple #[])/\u'=.returning/\w'=w:=by
 refine callsD_of_wpS func157 rfl fun c₀ cs hu=> ?_
 apply wpS_seq;apply wpS_region;simp[wpOpsS,go_sem,recoverD,hu,ntmps157,Exit.thenS];refine wpS_cond (t:=false) (by simp[Act.eval,Array.replicate]) ?_;simp only[Bool.false_eq_true,if_false];refine wpS_of_wp (wp_skip ?_);cases c₀
 simp_all [bodyPostS,results,results157]
end
section
open Go.Maps
section
variable {s:Act} {x:World} {pos:String} {af:Array Edge} {g:Option (Nat×Bool)} {K:Act->World->Prop} {Q:Exit->Act->World->Prop}
theorem zma {t1 t2 b st0 gs0 st gs:Nat} {out0 out:ByteArray} {ty:TypeId} (h1:s.tmps.getD t1 undef=.pointer (some ⟨b,0,none⟩)) (h2:s.tmps.getD t2 undef=.agg #[.int .u8 (st:Int),.int .i64 (gs:Int),.string out,.slice none 0 0]) (hr:ResAt x b st0 gs0 out0 noL) (hK:K (s.put none undef) (yk x b st gs out noL)):
  Oper.wp prog ⟨none,.store 38 (.tmp t1) (.tmp t2),ty,pos,af,g⟩ s x K Q:=by
 obtain⟨⟨k0,k1,k2,k3⟩,f0,f1,f2,f3⟩:=hr;have e1:s.eval (.tmp t1)=.pointer (some ⟨b,0,none⟩):=h1;have e2:s.eval (.tmp t2)=.agg #[.int .u8 (st:Int),.int .i64 (gs:Int),.string out,.slice none 0 0]:=h2;unfold yk noL at hK;go_simp;exact hK
end
theorem ResAt.below {x y:World} {b st gas:Nat} {out:ByteArray} {lv:Value} (h:ResAt x b st gas out lv) (hb:Below x.heap.size x y):ResAt y b st gas out lv:=h.kb (Kb.of_below (S:=[]) hb) (by simp)
def PhR (b st gs:Nat) (out:ByteArray) (w:World):Nat->World->Prop
 |0,x=>Below w.heap.size w x
 |_,x=>∃y,Below w.heap.size w y/\x=yk y b st gs out noL
theorem zhb {b st gs:Nat} {out:ByteArray} {w x:World} {k:Nat} (h:PhR b st gs out w k x) (hk:k<=0):Below w.heap.size w x:=by
 match k,hk,h with
 |0,_,h=>exact h
theorem run_r4 {fb b st gs st0 gs0:Nat} {out out0:ByteArray} {Q:Exit->Act->World->Prop} (a:Act) (w:World) (hlt:fb<w.heap.size) (hres:ResAt w b st0 gs0 out0 noL) (hstatus:w.cell? ⟨fb,25,none⟩=some (.int .u8 (st:Int))) (hgas:w.cell? ⟨fb,16,none⟩=some (.int .i64 (gs:Int))) (houtput:w.cell? ⟨fb,26,none⟩=some (.string out)) (h0:Below w.heap.size w w.drew) (hsz:([11,12,13,14,15,16,17,18,19,20,21,22,23]:List Nat).all (fun d=>decide (d<a.tmps.size))=true) (c0:a.tmps.getD 0 undef=.pointer (some ⟨fb,0,none⟩)) (c2:a.tmps.getD 2 undef=.pointer (some ⟨b,0,none⟩))
  (hok:∀(x:World),(PhR b st gs out w) 1 x->Q .normal (zF a [(11,.pointer (some ⟨fb,0,none⟩)),(12,.pointer (some ⟨fb,0,none⟩)),(13,.pointer (some ⟨fb,25,none⟩)),(14,.int .u8 (st:Int)),(15,.pointer (some ⟨fb,0,none⟩)),(16,.pointer (some ⟨fb,0,none⟩)),(17,.pointer (some ⟨fb,16,none⟩)),(18,.int .i64 (gs:Int)),(19,.pointer (some ⟨fb,0,none⟩)),(20,.pointer (some ⟨fb,0,none⟩)),(21,.pointer (some ⟨fb,26,none⟩)),(22,.string out),(23,.agg #[.int .u8 (st:Int),.int .i64 (gs:Int),.string out,.slice none 0 0])]) x):
  (Code.region 4 #[⟨some 11,.move (.tmp 0),132,"frame.go:72",#[],none⟩,⟨some 12,.nilCheck (.tmp 11),0,"frame.go:72",#[⟨0,.data⟩],none⟩,⟨some 13,.fieldAddr 137 (.tmp 12) 16,0,"frame.go:72",#[⟨1,.data⟩],none⟩,⟨some 14,.load 5 (.tmp 13),5,"frame.go:72",#[⟨2,.data⟩],none⟩,⟨some 15,.move (.tmp 0),132,"frame.go:72",#[],none⟩,⟨some 16,.nilCheck (.tmp 15),0,"frame.go:72",#[⟨4,.data⟩],none⟩,⟨some 17,.fieldAddr 137 (.tmp 16) 7,0,"frame.go:72",#[⟨5,.data⟩],none⟩,⟨some 18,.load 3 (.tmp 17),3,"frame.go:72",#[⟨6,.data⟩],none⟩,⟨some 19,.move (.tmp 0),132,"frame.go:72",#[],none⟩,⟨some 20,.nilCheck (.tmp 19),0,"frame.go:72",#[⟨8,.data⟩],none⟩,⟨some 21,.fieldAddr 137 (.tmp 20) 17,0,"frame.go:72",#[⟨9,.data⟩],none⟩,⟨some 22,.load 9 (.tmp 21),9,"frame.go:72",#[⟨10,.data⟩],none⟩,⟨some 23,.build 38 #[(0,.tmp 14),(1,.tmp 18),(2,.tmp 22)],38,"frame.go:72",#[⟨3,.data⟩,⟨7,.data⟩,⟨11,.data⟩],none⟩,⟨none,.store 38 (.tmp 2) (.tmp 23),0,"frame.go:72",#[⟨12,.data⟩,⟨0,.phase⟩,⟨1,.phase⟩,⟨2,.phase⟩,⟨3,.phase⟩,⟨4,.phase⟩,⟨5,.phase⟩,⟨6,.phase⟩,⟨7,.phase⟩,⟨8,.phase⟩,⟨9,.phase⟩,⟨10,.phase⟩,⟨11,.phase⟩,⟨12,.phase⟩],none⟩] true).wp prog Q a w:=by
 refine ZQ (PhR b st gs out w) (fun _ _ _=>True) [(0,.pointer (some ⟨fb,0,none⟩)),(2,.pointer (some ⟨b,0,none⟩))] [(some 11,.v (.pointer (some ⟨fb,0,none⟩))),(some 12,.v (.pointer (some ⟨fb,0,none⟩))),(some 13,.v (.pointer (some ⟨fb,25,none⟩))),(some 14,.v (.int .u8 (st:Int))),(some 15,.v (.pointer (some ⟨fb,0,none⟩))),(some 16,.v (.pointer (some ⟨fb,0,none⟩))),(some 17,.v (.pointer (some ⟨fb,16,none⟩))),(some 18,.v (.int .i64 (gs:Int))),(some 19,.v (.pointer (some ⟨fb,0,none⟩))),(some 20,.v (.pointer (some ⟨fb,0,none⟩))),(some 21,.v (.pointer (some ⟨fb,26,none⟩))),(some 22,.v (.string out)),(some 23,.v (.agg #[.int .u8 (st:Int),.int .i64 (gs:Int),.string out,.slice none 0 0])),(none,.v undef)] [13] [3,7,11] (by kernel_rfl) hsz (Zi c0 (Zi c2 rfl)) (by kernel_rfl) h0
  (zf _ _ _ rfl rfl (fun s x hph hdf hv hl K hK=>by
   have hph:Below w.heap.size w x:=hph;exact zma (hv 2 _ rfl) (hv 23 _ rfl) (hres.below hph) (hK undef _ ⟨x,hph,rfl⟩ trivial (fun _=>rfl) rfl)
  )
  True.intro)
  (zf _ _ _ rfl rfl (fun k s x hk hlo hhi hph hdf hv hl K hK=>by
   have k0:x.cell? ⟨fb,25,none⟩=some (.int .u8 (st:Int)):=((zhb hph (by have:=hhi 0 13 rfl (by kernel_rfl);omega)).cell hlt).trans hstatus;exact zv (fun w=>by kernel_rfl) (hv 13 _ rfl) k0 (hK _ x rfl nn1 rfl)
  )
  (zf _ _ _ rfl rfl (fun k s x hk hlo hhi hph hdf hv hl K hK=>by
   have k0:x.cell? ⟨fb,16,none⟩=some (.int .i64 (gs:Int)):=((zhb hph (by have:=hhi 0 13 rfl (by kernel_rfl);omega)).cell hlt).trans hgas;exact zv (fun w=>by kernel_rfl) (hv 17 _ rfl) k0 (hK _ x rfl nn1 rfl)
  )
  (zf _ _ _ rfl rfl (fun k s x hk hlo hhi hph hdf hv hl K hK=>by
   have k0:x.cell? ⟨fb,26,none⟩=some (.string out):=((zhb hph (by have:=hhi 0 13 rfl (by kernel_rfl);omega)).cell hlt).trans houtput;exact zv (fun w=>by kernel_rfl) (hv 21 _ rfl) k0 (hK _ x rfl nn1 rfl)
  )
  True.intro)))
  (fun _ _ _ h=>(zo rfl h).elim) ?_
 intro g x hph hT;exact hok x hph
end
section
open Go.Maps
def znS (F:Fz) (T:TS) (r:Option (Fz×TS)):Prop:=∀(base fb tb:Nat) (S:List Nat) (sv mv:Value) (V:TV) (w:World),FT base fb tb F T S sv mv V w->V.n<800000000000->
 Calls prog 158 #[.pointer (some ⟨fb,0,none⟩)] w (Out2 r base fb tb T V S 2 w)
def Chain:Nat->Fz->TS->Option Fz->TS->Prop
 |0,F,T,o,T'=>F.ended=true/\o=some F/\T'=T
 |k+1,F,T,o,T'=>F.ended=false/\((k=0/\znS F T none/\o=none/\T'=T)\/∃F1 T1,znS F T (some (F1,T1))/\Chain k F1 T1 o T')
def znL (o:Option Fz):Value:=match o with
 |some F=>YL F.status F.gas F.out noL
 |none=>YL 2 0 ⟨#[]⟩ noL
def zcc (base tb:Nat) (T T':TS) (V:TV) (S:List Nat) (m:Nat) (w w':World):Prop:=
 ∃V' S2,Tr base tb T' V' w'/\Kb S2 w w'/\(∀k∈S2,k∈S\/zG tb T V k)/\(∀k,zG tb T' V' k->zG tb T V k\/w.heap.size<=k)/\V'.n<=V.n+m/\V'.ab=V.ab
abbrev rc0:Obj:=.cells #[.int .u8 0,.int .i64 0,.string ⟨#[]⟩,.slice none 0 0] 38
structure Rn (base fb tb:Nat) (o:Option Fz) (T T':TS) (V:TV) (S:List Nat) (m:Nat) (w:World) (gk:Nat) (F1:Fz) (T1:TS) (S1:List Nat) (sv1 mv1:Value) (V1:TV) (x:World):Prop where
 ch:Chain gk F1 T1 o T'
 ft:FT base fb tb F1 T1 S1 sv1 mv1 V1 x
 kf:KF S tb T V (w.alloc rc0) x
 sub:∀k∈S1,k∈S\/(w.alloc rc0).heap.size<=k
 foot:∀k,zG tb T1 V1 k->zG tb T V k\/(w.alloc rc0).heap.size<=k
 n:V1.n+2*gk<=V.n+m
 ab:V1.ab=V.ab
 res:ResAt x w.heap.size 0 0 ⟨#[]⟩ noL
theorem ResAt.put {x:World} {b st0 gs0 st gs:Nat} {out0 out:ByteArray} {lv0 lv:Value} (h:ResAt x b st0 gs0 out0 lv0):ResAt (yk x b st gs out lv) b st gs out lv:=by
 obtain⟨⟨k0,k1,k2,k3⟩,f0,f1,f2,f3⟩:=h;unfold ResAt yk;simp[go_sem,k0,k1,k2,k3,f0,f1,f2,f3]
theorem YC {S:List Nat} {w x:World} {b st gs:Nat} {out:ByteArray} {lv:Value} (h:Kb S w x) (hb:b∈S\/w.heap.size<=b):Kb S w (yk x b st gs out lv):=(((h.setCell hb _).setCell hb _).setCell hb _).setCell hb _
end
section
open Go.Maps
abbrev mkV (a b:Nat):Value:=.agg #[.int .i64 (a:Int),.int .i64 (b:Int)]
theorem zn9 {base tb:Nat} {T:TS} {V:TV} (w:World) (h:Tr base tb T V w):
  Calls prog 93 #[.pointer (some ⟨tb,0,none⟩)] w fun e w'=>e=.returned (mkV T.ch.length T.logs.length)/\Below w.heap.size w w':=by
 have h2:=h.below ((bal (Below.refl _ w) (.cells #[.int .i64 0,.int .i64 0] 186)).drew);have c2:=h2.row.cell (i:=2) (by decide);rw[show trC V 2=V.cv from rfl] at c2;have c3:=h2.row.cell (i:=3) (by decide);rw[show trC V 3=V.lv from rfl] at c3;obtain⟨ad,cp,e1⟩:=Zk h.ch;obtain⟨ad2,cp2,e2⟩:=Zk h.lo.2.1;rw[e1] at c2;rw[e2] at c3;generalize T.ch.length=n1 at*;generalize T.logs.length=n2 at*;clear h h2 e1 e2;go_enter func93,ntmps93;go_wp2
 go_region
 go_wp2;refine bodyPost_ret (v:=mkV n1 n2) (by simp[results,results93,go_sem]) rfl ⟨rfl,(bal (Below.refl _ w) _).drew⟩
theorem To2.thenTr' {base tb m m':Nat} {T T1 T':TS} {V:TV} {S:List Nat} {w w1 w2:World} (hT:∀k,zG tb T V k->k<w.heap.size) (hS:∀k∈S,k<w.heap.size) {S1:List Nat} {V1:TV} (h2:KF S tb T V w w1) (h3:∀k∈S1,k∈S\/w.heap.size<=k) (h4:∀k,zG tb T1 V1 k->zG tb T V k\/w.heap.size<=k) (h5:V1.n<=V.n+m) (h6:V1.ab=V.ab) {V2:TV} {Sk:List Nat} (k2:Kb Sk w1 w2) (k2':∀k∈Sk,k∈S1\/zG tb T1 V1 k) (k4:∀k,zG tb T' V2 k->zG tb T1 V1 k\/w1.heap.size<=k) (k5:V2.n<=V1.n+m') (k6:V2.ab=V1.ab):∃S2,Kb S2 w w2/\(∀k∈S2,k∈S\/zG tb T V k)/\(∀k,zG tb T' V2 k->zG tb T V k\/w.heap.size<=k)/\V2.n<=V.n+(m+m')/\V2.ab=V.ab:=by
 obtain⟨Sh,h2,h2'⟩:=h2;refine⟨Sh++Sk.filter (fun k=>decide (k<w.heap.size)),(h2.mono (fun i hi=>List.mem_append_left _ hi)).trans k2 (fun i hi=> ?_),fun i hi=> ?_,fun i hi=> ?_,by omega,k6.trans h6⟩
 ·by_cases hl:i<w.heap.size
  ·exact Or.inl (List.mem_append_right _ (List.mem_filter.2 ⟨hi,by simpa using hl⟩))
  ·exact Or.inr (by omega)
 ·rcases List.mem_append.1 hi with e|e
  ·exact h2' i e
  ·obtain⟨e1,e2⟩:=List.mem_filter.1 e;have e2:i<w.heap.size:=by simpa using e2
   rcases k2' i e1 with e3|e3
   ·rcases h3 i e3 with e4|e4
    ·exact Or.inl e4
    ·omega
   ·rcases h4 i e3 with e4|e4
    ·exact Or.inr e4
    ·omega
 ·rcases k4 i hi with e|e
  ·exact h4 i e
  ·exact Or.inr (Nat.le_trans h2.size e)
abbrev wk4 (w:World) (amt fr tt:Nat):World:=(((w.alloc (wc amt)).alloc (wc fr)).alloc (wc tt)).alloc rc0
end
section
open Go.Maps
def zch (tb:Nat) (code:ByteArray) (jd:Value):Fz:={trail:=.pointer (some ⟨tb,0,none⟩),code:=code,jd:=jd,self:=0,caller:=0,value:=0,data:=⟨#[]⟩,gas:=0,ro:=false,depth:=0,st:=[],mem:=[],ret:=⟨#[]⟩,pc:=0,nx:=0,ended:=false,status:=0,out:=⟨#[]⟩}
def newC (tb:Nat) (code:ByteArray) (jd:Value):Array Value:=#[.pointer (some ⟨tb,0,none⟩),.string code,jd,.int .u64 0,.int .u64 0,.int .u64 0,.int .u64 0,.int .u64 0,.int .u64 0,.int .u64 0,.int .u64 0,.int .u64 0,.int .u64 0,.int .u64 0,.int .u64 0,.string ⟨#[]⟩,.int .i64 0,.bool false,.int .i64 0,.slice none 0 0,.slice none 0 0,.string ⟨#[]⟩,.int .i64 0,.int .i64 0,.bool false,.int .u8 0,.string ⟨#[]⟩]
theorem lt27 {i:Nat} (h:i<27):i=0\/i=1\/i=2\/i=3\/i=4\/i=5\/i=6\/i=7\/i=8\/i=9\/i=10\/i=11\/i=12\/i=13\/i=14\/i=15\/i=16\/i=17\/i=18\/i=19\/i=20\/i=21\/i=22\/i=23\/i=24\/i=25\/i=26:=by omega
theorem newF_FT {base tb:Nat} {T:TS} {V:TV} {w x:World} {code:ByteArray} {jd:Value} (h:Tr base tb T V w) (hb:Below w.heap.size w x) (hj:Jds x jd code) (hcs:code.size<=1000):
  FT base x.heap.size tb (zch tb code jd) T [x.heap.size] (.slice none 0 0) (.slice none 0 0) V (x.alloc (.cells (newC tb code jd) 137)):=by
 have hB:Below x.heap.size x (x.alloc (.cells (newC tb code jd) 137)):=bal (Below.refl _ x) _;have hT:=(h.below hb).below hB;refine⟨⟨?_,World.ownsRow_nil _ _ _ _,World.ownsRow_nil _ _ _ _,rfl,by simp[zch],by simp[zch],by simp[zch],hT.hb,fun i hi=> ?_,h.hb1,Nat.le_trans h.hb hb.size,by simp[zch],hj.kb (Kb.of_below (S:=[]) hB) (by simp)⟩,hT,rfl,fun k hk hf=> ?_⟩
 ·refine World.rowIs_alloc x _ _ _ fun i hi=> ?_
  rcases lt27 hi with rfl|rfl|rfl|rfl|rfl|rfl|rfl|rfl|rfl|rfl|rfl|rfl|rfl|rfl|rfl|rfl|rfl|rfl|rfl|rfl|rfl|rfl|rfl|rfl|rfl|rfl|rfl<;>first|rfl|(simp[newC,zch,Fz.cell,zs])
 ·obtain⟨⟨z0,z1,z2,z3⟩,_⟩:=hT.zr;rcases k4 hi with rfl|rfl|rfl|rfl<;>assumption
 ·obtain rfl:k=x.heap.size:=by simpa using hk
  have:=(h.below hb).lt hf;omega
theorem zcD {base tb:Nat} {T:TS} {V:TV} (code:ByteArray) (hcs:code.size<=1000) (w:World) (h:Tr base tb T V w):
  Calls prog 60 #[.pointer (some ⟨tb,0,none⟩),.string code] w fun e w'=>∃fb jd,e=.returned (.pointer (some ⟨fb,0,none⟩))/\w.heap.size<=fb/\Below w.heap.size w w'/\FT base fb tb (zch tb code jd) T [fb] (.slice none 0 0) (.slice none 0 0) V w':=by
 have HJ:=zb (zct code (by omega) w);have HT:=zb h;clear h;go_enter func60,ntmps60;go_wp2_with fail
 refine HJ.out.mono ?_;rintro e x ⟨v,rfl,⟨g,cap,rfl,hg⟩,hb⟩;have HG:=zb hg;have HB:=zb hb;clear hg hb HJ;go_wp2;refine bodyPost_ret (v:=.pointer (some ⟨x.heap.size,0,none⟩)) (by simp[results,results60,go_sem]) rfl ⟨x.heap.size,.slice (some ⟨g,0,none⟩) (code.size+1) cap,rfl,HB.out.size,bal HB.out _, ?_⟩;exact newF_FT HT.out HB.out ⟨g,cap,rfl,HG.out⟩ hcs
end
end cin
end Go.Proofs.YtohoajjdoihekaaGreatDoor
