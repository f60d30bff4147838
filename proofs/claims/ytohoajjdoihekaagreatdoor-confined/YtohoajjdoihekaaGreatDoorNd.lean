import Derived.Test.YtohoajjdoihekaaGreatDoorHva
set_option linter.unusedVariables false
set_option linter.unusedSimpArgs false
namespace Go.Proofs.YtohoajjdoihekaaGreatDoor
namespace cin
open Go.RowKit Go.Proofs.Tryz Tryz
set_option maxRecDepth 100000
set_option maxHeartbeats 8000000
def zaz (p:Nat) (F:Fz):Option (Unit×Fz):=if upB p F.code.size&&(jdL F.code).getD (p%M) false then some ((),{F with nx:=p%M}) else none
theorem zoi {base fb:Nat} {F:Fz} {S:List Nat} {sv mv:Value} (p:Nat) (hcs:F.code.size<=100000) (w:World) (h:Fr base fb F S sv mv w):
  Calls prog 270 #[.pointer (some ⟨fb,0,none⟩),wv p] w (Out (zaz p F) zy base fb S w):=by
 have HB:Hid (F.code.size<9223372036854775808):=by show _<_;omega
 have hs:=W1.start w p;have HF:=zb (h.below hs.be);have HN:Hid (w.heap.size∉S):=fun hm=>by have:=h.footlt _ hm;omega
 have HR:=zb hs.ra;have HBE:=zb hs.be;clear hs h;unfold zaz;cases hu:upB p F.code.size with
 |false=>
  show Calls _ _ _ _ (Out none zy base fb S w);have HU:=zb hu;clear hu;go_enter func270,ntmps270;go_wp2;refine zhJ _ _ HR.out HN.out HB.out HF.out rfl rfl rfl (fun _ _ _ _ h=>h.elim) ?_;intro x S' sv' mv' hfr hkb hsub;have HK:=zb ((Kb.of_below (S:=S) HBE.out).trans hkb (fun j hj=>Or.inl hj));clear hfr hkb hsub;rw[HU.out];simp only[zF,List.foldl_cons,List.foldl_nil,Act.put];go_wp2;exact⟨rfl,⟨_,_,rfl⟩,HK.out⟩
 |true=>
  have HU:=zb hu;have hle:p%M<=F.code.size:=of_decide_eq_true hu;have hup:upN p F.code.size=p%M:=if_pos hle;clear hu;obtain⟨q,HQ⟩:∃q:Nat,Hid (q=p%M):=⟨_,rfl⟩;rw[<-HQ.out] at hle hup⊢;have HUP:=zb hup;clear hup;cases hj:(jdL F.code).getD q false with
  |false=>
   show Calls _ _ _ _ (Out none zy base fb S w);go_enter func270,ntmps270;go_wp2;refine zhJ _ _ HR.out HN.out HB.out HF.out rfl rfl rfl (fun _ _ _ _ h=>h.elim) ?_;intro x S' sv' mv' hfr hkb hsub;have HK:=zb ((Kb.of_below (S:=S) HBE.out).trans hkb (fun j hj=>Or.inl hj));obtain⟨g,cap,e1,hrow⟩:=hfr.jr;have hcj:=hfr.row.cell (i:=2) (by decide);rw[show F.cell sv' mv' 2=F.jd from rfl,e1] at hcj;have hcb:=hrow.cell (i:=q) (by omega);rw[hj] at hcb;clear hfr hkb hsub hrow e1 hj;rw[HU.out,HUP.out];simp only[zF,List.foldl_cons,List.foldl_nil,Act.put];go_wp2;exact⟨rfl,⟨_,_,rfl⟩,HK.out⟩
  |true=>
   show Calls _ _ _ _ (Out (some ((),{F with nx:=q})) zy base fb S w);go_enter func270,ntmps270;go_wp2;refine zhJ _ _ HR.out HN.out HB.out HF.out rfl rfl rfl (fun _ _ _ _ h=>h.elim) ?_;intro x S' sv' mv' hfr hkb hsub;have HK:=zb ((Kb.of_below (S:=S) HBE.out).trans hkb (fun j hj=>Or.inl hj));have HS:Hid (∀k∈S',k∈S\/w.heap.size<=k):=fun k hk=>(hsub k hk).imp id (fun h=>Nat.le_trans HBE.out.size h)
   obtain⟨g,cap,e1,hrow⟩:=hfr.jr;have hcj:=hfr.row.cell (i:=2) (by decide);rw[show F.cell sv' mv' 2=F.jd from rfl,e1] at hcj;have hcb:=hrow.cell (i:=q) (by omega);rw[hj] at hcb;have hcn:x.cell? ⟨fb,23,none⟩=some (.int .i64 (F.nx:Int)):=hfr.row.cell (i:=23) (by decide);have hzn:=hfr.row.frozen 23;have HT:=zb (To.pre HK.out HS.out (hfr.set1 23 _ (zeI F sv' mv' q) rfl rfl rfl rfl hfr.gal));clear hfr hkb hsub hrow e1 hj;rw[HU.out,HUP.out];simp only[zF,List.foldl_cons,List.foldl_nil,Act.put];go_wp2;go_end0;exact⟨rfl,HT.out⟩
def yj (F:Fz):Option (Unit×Fz):=
 zM (zi F) (zM (zi (zh (zi F))) (zM (zl (zY F) 1 (zE F)) (some ((),yK (zl (zY F) 1 (zE F)) [zeu (Ze F)]))))
theorem zj2 {base fb:Nat} {F:Fz} {S:List Nat} {sv mv:Value} (w:World) (h:Fr base fb F S sv mv w):
  Calls prog 267 #[.pointer (some ⟨fb,0,none⟩)] w (Out (yj F) zy base fb S w):=by
 go_enter func267,ntmps267;go_wp2;refine zbq _ _ h rfl rfl rfl rfl ?_ ?_
 ·intro u pv s x hno hd hk
  have e:yj F=none:=by
   rcases hno with e|e
   ·exact zq (Or.inl e)
   ·exact zq (Or.inr (zq (Or.inl e)))
  rw[e];exact⟨hd,⟨_,_,rfl⟩,hk⟩
 ·intro x S' sv' mv' b0 b1 hfr hkb hsub hn0 hg0 hr0 hn1 hg1 hr1;have e:yj F=zM (zl (zY F) 1 (zE F)) (some ((),yK (zl (zY F) 1 (zE F)) [zeu (Ze F)])):=(zT fun e=>ZS (YQ (zW e)) hfr).trans (zT fun e=>ZS (zW e) hfr);have HE:=zb e;clear e;change Fr base fb (zE F) S' sv' mv' x at hfr;change Za x b0 (zY F) at hr0;change Za x b1 (Ze F) at hr1;simp only[zF,List.foldl_cons,List.foldl_nil,Act.put];generalize zE F=F2 at*;generalize zY F=p at*;generalize Ze F=q at*;generalize yj F=R at*;simp only[sx9]
  go_upto_region 1 with fail
  refine zhS (F:=F2) (S:=S') (bp:=b0) (np:=p) (bq:=b1) (nq:=q) _ x hr0 hn0 hr1 hn1 hfr rfl rfl rfl rfl ?_ ?_
  ·intro u pv s y hno hd hk;have e:R=none:=HE.out.trans (zq (Or.inl hno));rw[e];exact⟨hd,⟨_,_,rfl⟩,hkb.trans hk hsub⟩
  ·intro y S2 sv2 mv2 z3 z7 hf2 hk2 hs2 hz3 hz7;have e:R=some ((),yK (zl p 1 F2) [zeu q]):=HE.out.trans (zT fun e=>by rw[e] at hf2;exact ZS zbG hf2)
   have HO:Hid (Out R zy base fb S w (.returned (.tuple #[])) y):=by
    rw[e];exact⟨rfl,S2,sv2,mv2,hf2,hkb.trans hk2 hsub,fun j hj=>(hs2 j hj).elim (hsub j) (fun h=>Or.inr (Nat.le_trans hkb.size h))⟩
   clear e hf2 hk2 hs2 hz3 hz7 hfr hkb hsub hr0 hr1 HE h;simp only[zF,List.foldl_cons,List.foldl_nil,Act.put];go_wp2;go_end0;exact HO.out
def YF (F:Fz):Option (Unit×Fz):=
 zM (zi F) (zM (zi (zh (zi F))) (if Ze F%M=0 then some ((),zE F) else zaz (zY F) (zE F)))
theorem zqU {base fb:Nat} {F:Fz} {S:List Nat} {sv mv:Value} (hcs:F.code.size<=100000) (w:World) (h:Fr base fb F S sv mv w):
  Calls prog 271 #[.pointer (some ⟨fb,0,none⟩)] w (Out (YF F) zy base fb S w):=by
 go_enter func271,ntmps271;go_wp2;refine zbq _ _ h rfl rfl rfl rfl ?_ ?_
 ·intro u pv s x hno hd hk
  have e:YF F=none:=by
   rcases hno with e|e
   ·exact zq (Or.inl e)
   ·exact zq (Or.inr (zq (Or.inl e)))
  rw[e];exact⟨hd,⟨_,_,rfl⟩,hk⟩
 ·intro x S' sv' mv' b0 b1 hfr hkb hsub hn0 hg0 hr0 hn1 hg1 hr1;have e:YF F=if Ze F%M=0 then some ((),zE F) else zaz (zY F) (zE F):=(zT fun e=>ZS (YQ (zW e)) hfr).trans (zT fun e=>ZS (zW e) hfr)
  have hcd:100000<(zE F).gas\/Same F (zE F):=Zn (Zn (Or.inr (Same.refl F)));have HE:=zb e;clear e;change Fr base fb (zE F) S' sv' mv' x at hfr;change Za x b0 (zY F) at hr0;change Za x b1 (Ze F) at hr1
  have hcs2:(zE F).code.size<=100000:=by
   rcases hcd with h1|h1
   ·exact absurd hfr.gal (by omega)
   ·rw[h1.code];exact hcs
  clear hcd;simp only[zF,List.foldl_cons,List.foldl_nil,Act.put];generalize zE F=F2 at*;generalize zY F=p at*;generalize Ze F=q at*;generalize YF F=R at*;obtain⟨z0,z1,z2,z3⟩:_/\_/\_/\_:=⟨hfr.zr 0 (by omega),hfr.zr 1 (by omega),hfr.zr 2 (by omega),hfr.zr 3 (by omega)⟩;obtain⟨c0,c1,c2,c3⟩:=ze hr0;obtain⟨d0,d1,d2,d3⟩:=ze hr1;have hez:=Z8 q;by_cases hq:q%M=0
  ·have HO:Hid (Out R zy base fb S w (.returned (.tuple #[])) x):=by
    rw[HE.out,if_pos hq];exact⟨rfl,S',sv',mv',hfr,hkb,hsub⟩
   rw[zae hq] at hez;clear hfr hkb hsub hr0 hr1 HE h hcs2 hq hn0 hn1;go_wp2;go_end0;exact HO.out
  ·have HJ:=zb (zoi p hcs2 x hfr);have HE2:=zb (HE.out.trans (if_neg hq));rw[Yv hq] at hez;have HKB:=zb hkb;have HSU:=zb hsub;clear hfr hkb hsub hr0 hr1 HE h hcs2 hq hn0 hn1;rw[<-HE2.out] at HJ;go_wp2_with fail
   refine HJ.out.mono ?_;intro e y ho;cases R with
   |none=>
    obtain⟨⟨u,pv,rfl⟩,hk⟩:=ho;exact⟨rfl,⟨_,_,rfl⟩,HKB.out.trans hk HSU.out⟩
   |some r=>
    obtain⟨rfl,hto⟩:=ho;have HO:Hid (Out (some r) zy base fb S w (.returned (.tuple #[])) y):=⟨rfl,To.pre HKB.out HSU.out hto⟩;clear hto;obtain⟨⟨⟩,F9⟩:=r;unfold zy;go_wp2;go_end0;exact HO.out
theorem Fr.own2 {base fb:Nat} {F F':Fz} {S:List Nat} {sv mv:Value} {w w':World} (h:Fr base fb F S sv mv w) (hst:F'.st=F.st) (hme:F'.mem=F.mem) (hjd:F'.jd=F.jd) (hcd:F'.code=F.code) (hg:F'.gas<=100000) (hr:w'.rowIs fb 137 27 (F'.cell sv mv)) (hk:Kb [fb] w w'):Fr base fb F' S sv mv w'/\Kb S w w':=
 ⟨⟨hr,by rw[hst];exact hk.own h.st (fun k hk=>by simpa using h.fs k hk),by rw[hme];exact hk.own h.me (fun k hk=>by simpa using h.fm k hk),h.foot,by rw[hst];exact h.stl,by rw[hme];exact h.mel,hg,Nat.le_trans h.hb hk.size,zc7 h.zr hk (fun hm=>h.no0 (by rw[h.foot];simp at hm;simp[hm])) h.hs,h.hb1,h.hfb,by rw[hme];exact h.m32,by rw[hjd,hcd];exact h.jr.kb hk (fun g N f hr hm=>h.bno g N f hr (by rw[h.foot];simp at hm;simp[hm]))⟩,hk.mono (fun i hi=>by rw[h.foot];simp at hi;simp[hi])⟩
theorem pay_K {base fb:Nat} {F:Fz} {S:List Nat} {sv mv:Value} (c:Nat) (hc:c<=100000000) (w:World) (h:Fr base fb F S sv mv w):
  Calls prog 204 #[.pointer (some ⟨fb,0,none⟩),.int .i64 (c:Int)] w fun e w'=>if F.gas<c then Pan e/\Kb S w w' else e=.returned (.tuple #[])/\Fr base fb {F with gas:=F.gas - c} S sv mv w'/\Kb S w w':=by
 have hg:=h.row.cell (i:=16) (by decide);have hz:=h.row.frozen 16;rw[show F.cell sv mv 16=.int .i64 (F.gas:Int) from rfl] at hg;have hgl:=h.gal;by_cases hl:F.gas<c
 ·have d:decide ((F.gas:Int)<(c:Int))=true:=decide_eq_true (by omega);simp only[if_pos hl];go_enter func204,ntmps204;go_wp2;exact⟨rfl,⟨_,_,rfl⟩,Kb.refl _ _⟩
 ·have d:decide ((F.gas:Int)<(c:Int))=false:=decide_eq_false (by omega);simp only[if_neg hl];have HH:=zb h;clear h;go_enter func204,ntmps204;go_wp2;go_end0;refine⟨rfl,HH.out.own2 rfl rfl rfl rfl (by show F.gas - c<=_;omega) ?_ ((Kb.refl [fb] w).setCell (Or.inl (by simp)) _)⟩;rw[<-zak F sv mv (F.gas - c)];refine(HH.out.row.set 16 _).congr fun i hi=> ?_
  by_cases hi2:i=16
  ·rw[if_pos hi2,if_pos hi2,show((F.gas - c:Nat):Int)=(F.gas:Int) - (c:Int) by omega]
  ·rw[if_neg hi2,if_neg hi2]
def Zb (src:ByteArray) (t f n:Nat) (F:Fz):Option (Unit×Fz):=match zl t n F with
 |none=>none
 |some ((a,b),F1)=>if F1.gas<3*zA b then none else some ((),{F1 with gas:=F1.gas - 3*zA b,mem:=splice F1.mem a (zN src (f%M) b)})
theorem zes {base fb:Nat} {F:Fz} {S:List Nat} {sv mv:Value} (src:ByteArray) (t f n:Nat) (hsr:src.size<=100000) (w:World) (h:Fr base fb F S sv mv w):
  Calls prog 285 #[.pointer (some ⟨fb,0,none⟩),.string src,wv t,wv f,wv n] w (Out (Zb src t f n F) zy base fb S w):=by
 have hs:=W3.start w t f n;have hf0:=h.below hs.be;have HP:=zb (zaI t n _ hf0);have hnS:∀k,w.heap.size<=k->k∉S:=fun k hk hm=>by have:=h.footlt k hm;omega
 have HBE:=zb hs.be;have h32:=h.m32;have HRB:=zb hs.rb;obtain⟨ta,tb,tc,td⟩:=ze hs.ra;obtain⟨na,nb,nc,nd⟩:=ze hs.rc;have HNS:=zb hnS;clear hs h hf0 hnS;unfold Zb;cases hr:zl t n F with
 |none=>
  rw[hr] at HP;clear hr;go_enter func285,ntmps285;go_wp2_with fail
  refine HP.out.mono ?_;rintro e w1 ⟨⟨u,pv,rfl⟩,hk⟩;exact⟨rfl,⟨_,_,rfl⟩,(Kb.of_below HBE.out).trans hk (fun i hi=>Or.inl hi)⟩
 |some r=>
  obtain⟨⟨a,b⟩,F1⟩:=r;have HL:=zb (yg hr h32);rw[hr] at HP;clear hr ta tb tc td na nb nc nd;obtain⟨ta,tb,tc,td⟩:=ze (W3.start w t f n).ra;obtain⟨na,nb,nc,nd⟩:=ze (W3.start w t f n).rc;show Calls _ _ _ _ (Out (if F1.gas<3*zA b then none else some ((),{F1 with gas:=F1.gas - 3*zA b,mem:=splice F1.mem a (zN src (f%M) b)})) zy base fb S w);generalize hR:(if F1.gas<3*zA b then none else some ((),{F1 with gas:=F1.gas - 3*zA b,mem:=splice F1.mem a (zN src (f%M) b)}):Option (Unit×Fz))=R;have HR:=zb hR;clear hR;go_enter func285,ntmps285;go_wp2_with fail
  refine HP.out.mono ?_;rintro e w1 ⟨v,S1,sv1,mv1,rfl,hf1,hk1,hs1,hpo⟩;have hk1':=(Kb.of_below (S:=S) HBE.out).trans hk1 (fun i hi=>Or.inl hi);have hs1':∀k∈S1,k∈S\/w.heap.size<=k:=fun k hk=>(hs1 k hk).imp id (fun h=>Nat.le_trans HBE.out.size h)
  have hrb:=hk1.row HRB.out (HNS.out _ (by omega));have hrbS:w.heap.size+1∉S1:=fun hm=>(hs1 _ hm).elim (HNS.out _ (by omega)) (fun h=>by have:=hrb.lt;have:=HRB.out.lt;omega)
  have hb16:b<=65536:=by have:=HL.out;have:=hf1.mel;omega
  have HST:Hid (∀w,Calls prog 287 #[.int .i64 (b:Int)] w fun e w'=>e=.returned (.int .i64 ((zA b:Nat):Int))/\w'=w):=fun w=>zab b (by omega) w
  have hsb:zA b<=3000:=by unfold zA;omega
  have HPY:=zb (pay_K (3*zA b) (by omega) w1 hf1);rw[show((3*zA b:Nat):Int)=3*(zA b:Int) by omega] at HPY;obtain⟨adv,cv,rfl,hpo2⟩:=hpo;have HPO:Hid (PartOf mv1 (.slice adv b cv) a b):=⟨adv,cv,rfl,hpo2⟩;have HPC:=zb (zdR src f b hsr (by omega));have HK1:=zb hk1';have HS1:=zb hs1';have HRB1:=zb hrb;have HRS:=zb hrbS;generalize zA b=sb at*;clear hf1 hk1 hs1 hpo2 hk1' hs1' hrb hrbS HP ta tb tc td na nb nc nd;go_wp2_with fail
  refine(HST.out _).mono ?_;rintro e w2 ⟨rfl,rfl⟩;go_wp2_with fail
  refine HPY.out.mono ?_;intro e w3 hpay;by_cases hg:F1.gas<3*sb
  ·rw[if_pos hg] at hpay;obtain⟨⟨u,pv,rfl⟩,hk⟩:=hpay;have e:R=none:=HR.out.symm.trans (if_pos hg);rw[e];exact⟨rfl,⟨_,_,rfl⟩,HK1.out.trans hk HS1.out⟩
  ·rw[if_neg hg] at hpay;obtain⟨rfl,hf3,hk3⟩:=hpay;have HRE:=zb (HR.out.symm.trans (if_neg hg));have HF3:=zb hf3;have HK3:=zb (HK1.out.trans hk3 HS1.out);obtain⟨fa,fc,fd,fe⟩:=ze (hk3.row HRB1.out HRS.out);clear hf3 hk3 hg HPY HR;go_wp2_with fail
   refine(HPC.out _).mono ?_;rintro e w4 ⟨u,rfl,hby,hb4⟩;obtain⟨y,hrun,hf5,hk5⟩:=zf9 (F:={F1 with gas:=F1.gas - 3*sb}) (HF3.out.below hb4) HPO.out hby.rds (YB _ _ _) 3
   have HO:Hid (Out R zy base fb S w (.returned (.tuple #[])) y):=by
    rw[HRE.out];exact⟨rfl,S1,sv1,mv1,hf5,HK3.out.trans ((Kb.of_below hb4).trans hk5 (fun j hj=>Or.inl hj)) HS1.out,HS1.out⟩
   rename_i K1 k1;refine k1 _ _ ?_;refine wpList_plain rfl fun K4 k4=>zlQ (x':=y) rfl rfl hrun (k4 _ _ ?_)
   refine wpList_nil ?_;clear hby hb4 hrun hf5 hk5;go_wp2;go_end0;exact HO.out
abbrev zaR (F:Fz):Fz:=zh (zi (zE F))
abbrev zcB (F:Fz):Nat:=zC (zi (zE F))
def by3 (F:Fz) (r:Option (Unit×Fz)):Option (Unit×Fz):=zM (zi F) (zM (zi (zh (zi F))) (zM (zi (zE F)) r))
theorem zfI {F:Fz} {r:Option (Unit×Fz)} (h:zi F=none\/zi (zh (zi F))=none\/zi (zh (zi (zh (zi F))))=none):by3 F r=none:=by
 unfold by3;rcases h with e|e|e
 ·exact zq (Or.inl e)
 ·exact zq (Or.inr (zq (Or.inl e)))
 ·exact zq (Or.inr (zq (Or.inr (zq (Or.inl e)))))
theorem zkU {base fb:Nat} {F:Fz} {S:List Nat} {sv mv:Value} {w:World} {r:Option (Unit×Fz)} (h:Fr base fb (zaR F) S sv mv w):by3 F r=r:=
 (zT fun e=>ZS (YQ (YQ (zW e))) h).trans ((zT fun e=>ZS (YQ (zW e)) h).trans (zT fun e=>ZS (zW e) h))
theorem zm9 (F:Fz):100000<(zaR F).gas\/Same F (zaR F):=Zn (Zn (Zn (Or.inr (Same.refl F))))
def ZV (src:ByteArray) (F:Fz):Option (Unit×Fz):=by3 F (Zb src (zY F) (Ze F) (zcB F) (zaR F))
theorem zdc {base fb:Nat} {F:Fz} {S:List Nat} {sv mv:Value} (src:ByteArray) (hsr:src.size<=100000) (w:World) (h:Fr base fb F S sv mv w):
  Calls prog 263 #[.pointer (some ⟨fb,0,none⟩),.string src] w (Out (ZV src F) zy base fb S w):=by
 go_enter func263,ntmps263;go_wp2;refine pops3 _ _ h rfl rfl rfl rfl ?_ ?_
 ·intro u pv s x hno hd hk;have e:ZV src F=none:=zfI hno;rw[e];exact⟨hd,⟨_,_,rfl⟩,hk⟩
 ·intro x S' sv' mv' b0 b1 b2 hfr hkb hsub hn0 hg0 hr0 hn1 hg1 hr1 hn2 hg2 hr2;have HE:=zb (zkU (r:=Zb src (zY F) (Ze F) (zcB F) (zaR F)) hfr);change Hid (ZV src F=_) at HE;change Fr base fb (zaR F) S' sv' mv' x at hfr;change Za x b0 (zY F) at hr0;change Za x b1 (Ze F) at hr1;change Za x b2 (zcB F) at hr2;simp only[zF,List.foldl_cons,List.foldl_nil,Act.put];generalize zaR F=F2 at*;generalize zY F=p at*;generalize Ze F=q at*;generalize zcB F=r at*;generalize ZV src F=R at*;have HJ:=zb (zes src p q r hsr x hfr);rw[<-HE.out] at HJ;obtain⟨c0,c1,c2,c3⟩:=ze hr0;obtain⟨d0,d1,d2,d3⟩:=ze hr1;obtain⟨e0,e1,e2,e3⟩:=ze hr2;have HKB:=zb hkb;have HSU:=zb hsub;clear hfr hkb hsub hr0 hr1 hr2 HE h hn0 hn1 hn2;go_wp2_with fail
  refine HJ.out.mono ?_;intro e y ho;cases R with
  |none=>
   obtain⟨⟨u,pv,rfl⟩,hk⟩:=ho;exact⟨rfl,⟨_,_,rfl⟩,HKB.out.trans hk HSU.out⟩
  |some r=>
   obtain⟨rfl,hto⟩:=ho;have HO:Hid (Out (some r) zy base fb S w (.returned (.tuple #[])) y):=⟨rfl,To.pre HKB.out HSU.out hto⟩;clear hto;obtain⟨⟨⟩,F9⟩:=r;unfold zy;go_wp2;go_end0;exact HO.out
section
def spP (p n b:Nat):Nat:=if yz p n b then p%M else 0
def spN (p n b:Nat):Nat:=if yz p n b then n%M else 0
def spB (p n b:Nat):Bool:=decide (yz p n b)
theorem zpU:Own 286:=fun _ _=>by kernel_rfl
theorem zgo:Own 285:=fun _ _=>by kernel_rfl
theorem zo1 (p n b:Nat) (hb:b<1000000) (w:World):Calls prog 286 #[wv p,wv n,.int .i64 (b:Int)] w fun e w'=>e=.returned (.tuple #[.int .i64 ((spP p n b:Nat):Int),.int .i64 ((spN p n b:Nat):Int),.bool (spB p n b)])/\Below w.heap.size w w':=by
 unfold spP spN spB;by_cases h:yz p n b
 ·rw[if_pos h,if_pos h,decide_eq_true h];exact(zhy p n b hb h w).mono fun e w' ⟨q,m,h1,h2,h3,h4⟩=>⟨by rw[h3,h1.out,h2.out],h4⟩
 ·rw[if_neg h,if_neg h,decide_eq_false h];exact(zfc p n b hb h w).mono fun e w' ⟨h3,h4⟩=>⟨h3,h4⟩
section
variable {s:Act} {x:World} {pos:String} {af:Array Edge} {g:Option (Nat×Bool)} {K:Act->World->Prop} {Q:Exit->Act->World->Prop}
theorem ev5 {o1 o2 o3 o4 o5:Operand} {v1 v2 v3 v4 v5:Value} (h1:s.eval o1=v1) (h2:s.eval o2=v2) (h3:s.eval o3=v3) (h4:s.eval o4=v4) (h5:s.eval o5=v5):#[]++(#[o1,o2,o3,o4,o5]:Array Operand).map s.eval++#[]=#[v1,v2,v3,v4,v5]:=by
 simp[h1,h2,h3,h4,h5]
end
end
section
def Stk (l:List Nat):Kn:=fun c _ v x=>c.1=0->∃b,Wds x b v l
theorem za8 (l:List Nat):yS (Stk l):=fun c c' S S' v x x' h hk e=>by
 rcases hk with⟨rfl,_,hb⟩|⟨h1,_⟩
 ·obtain⟨b,hw⟩:=h e;exact⟨b,zj hw hb⟩
 ·omega
def WAt (n:Nat):Kn:=fun c _ v x=>c.1=0->∃g o:Nat,v=.pointer (some ⟨g,o,none⟩)/\g<x.heap.size/\x.cell? ⟨g,o,none⟩=some (.int .u64 (za n 0))/\x.cell? ⟨g,o+1,none⟩=some (.int .u64 (za n 1))/\x.cell? ⟨g,o+2,none⟩=some (.int .u64 (za n 2))/\x.cell? ⟨g,o+3,none⟩=some (.int .u64 (za n 3))
theorem zbi (n:Nat):yS (WAt n):=fun c c' S S' v x x' h hk e=>by
 rcases hk with⟨rfl,_,hb⟩|⟨h1,_⟩
 ·obtain⟨g,o,h1,h2,c0,c1,c2,c3⟩:=h e;exact⟨g,o,h1,Nat.lt_of_lt_of_le h2 hb.size,(hb.cell (by exact h2)).trans c0,(hb.cell (by exact h2)).trans c1,(hb.cell (by exact h2)).trans c2,(hb.cell (by exact h2)).trans c3⟩
 ·omega
def Nv:Kn:=fun _ _ _ _=>False
theorem YD:yS Nv:=fun _ _ _ _ _ _ _ h _=>h
section
variable {s:Act} {x:World} {pos:String} {af:Array Edge} {g:Option (Nat×Bool)} {K:Act->World->Prop} {Q:Exit->Act->World->Prop}
theorem zg0:Own 273:=fun _ _=>by kernel_rfl
theorem zlZ {t d n q:Nat} {ty:TypeId} (he:s.tmps.getD t undef=.int .i64 (n:Int)) (hn:n=q+1) (hq:q<=1000) (hK:K (s.put (some d) (.int .i64 (q:Int))) x):
  Oper.wp prog ⟨some d,.binOp .sub 3 (.tmp t) (.const (.int .i64 1)) 3,ty,pos,af,g⟩ s x K Q:=by
 have he2:s.eval (.tmp t)=.int .i64 (n:Int):=he;have hw:IntKind.i64.wrap (q:Int)=(q:Int):=by simp[IntKind.wrap,IntKind.bits,IntKind.signed];omega
 have e:(n:Int) - 1=(q:Int):=by omega
 go_simp;exact hK
theorem zcZ {t u d j len cap gg:Nat} {ty:TypeId} (he:s.tmps.getD t undef=.slice (some ⟨gg,0,none⟩) len cap) (hu:s.tmps.getD u undef=.int .i64 (j:Int)) (hj:j<len) (hK:K (s.put (some d) (.pointer (some ⟨gg,j*4,none⟩))) x):
  Oper.wp prog ⟨some d,.indexAddr 135 (.tmp t) (.tmp u),ty,pos,af,g⟩ s x K Q:=by
 have he2:s.eval (.tmp t)=.slice (some ⟨gg,0,none⟩) len cap:=he;have hu2:s.eval (.tmp u)=.int .i64 (j:Int):=hu;go_simp;exact hK
end
theorem zd1 (l:List Nat) (q:Nat) (h:q<l.length):l.reverse[l.length - 1 - q]'(by rw[List.length_reverse];omega)=l.getD q 0:=by
 rw[List.getElem_reverse,List.getD_eq_getElem?_getD,List.getElem?_eq_getElem h,Option.getD_some];congr 1;omega
end
theorem zk3 {base fb:Nat} {F:Fz} {S:List Nat} {sv mv:Value} {Q:Exit->Act->World->Prop} (a:Act) (w:World) {bf nf:Nat} (hr3:Za w bf (nf)) (hr3n:bf∉S) {bn nn:Nat} (hr4:Za w bn (nn)) (hr4n:bn∉S) (hsp7:F.ret.size<1000000) (h:Fr base fb F S sv mv w) (hsz:([21,22,23,24,25,26,27,28,20,29,30,31,5,6,7]:List Nat).all (fun d=>decide (d<a.tmps.size))=true) (c3:a.tmps.getD 3 undef=.pointer (some ⟨bf,0,none⟩)) (c4:a.tmps.getD 4 undef=.pointer (some ⟨bn,0,none⟩)) (c0:a.tmps.getD 0 undef=.pointer (some ⟨fb,0,none⟩))
  (hpan:∀u pv s x,False->s.defers=a.defers->Kb S w x->Q (.panic [{v:=.iface u pv,recovered:=false}]) s x)
  (hok:∀(x:World) (S':List Nat) (sv' mv':Value),Fr base fb (F) S' sv' mv' x->Kb S w x->(∀j∈S',j∈S\/w.heap.size<=j)->Q .normal (zF a [(21,wv (nf)),(22,wv (nn)),(23,.pointer (some ⟨fb,0,none⟩)),(24,.pointer (some ⟨fb,0,none⟩)),(25,.pointer (some ⟨fb,21,none⟩)),(26,.string F.ret),(27,.int .i64 (F.ret.size:Int)),(28,.tuple #[.int .i64 ((spP (nf) (nn) (F.ret.size):Nat):Int),.int .i64 ((spN (nf) (nn) (F.ret.size):Nat):Int),.bool (spB (nf) (nn) (F.ret.size))]),(20,.tuple #[.int .i64 ((spP (nf) (nn) (F.ret.size):Nat):Int),.int .i64 ((spN (nf) (nn) (F.ret.size):Nat):Int),.bool (spB (nf) (nn) (F.ret.size))]),(29,.int .i64 ((spP (nf) (nn) (F.ret.size):Nat):Int)),(30,.int .i64 ((spN (nf) (nn) (F.ret.size):Nat):Int)),(31,.bool (spB (nf) (nn) (F.ret.size))),(5,.int .i64 ((spP (nf) (nn) (F.ret.size):Nat):Int)),(6,.int .i64 ((spN (nf) (nn) (F.ret.size):Nat):Int)),(7,.bool (spB (nf) (nn) (F.ret.size)))]) x):
  (Code.region 1 #[⟨some 21,.load 24 (.tmp 3),24,"memory.go:71",#[],none⟩,⟨some 22,.load 24 (.tmp 4),24,"memory.go:71",#[],none⟩,⟨some 23,.move (.tmp 0),132,"memory.go:71",#[],none⟩,⟨some 24,.nilCheck (.tmp 23),0,"memory.go:71",#[⟨2,.data⟩],none⟩,⟨some 25,.fieldAddr 137 (.tmp 24) 12,0,"memory.go:71",#[⟨3,.data⟩],none⟩,⟨some 26,.load 9 (.tmp 25),9,"memory.go:71",#[⟨4,.data⟩],none⟩,⟨some 27,.call ⟨.builtin Builtin.len,#[.tmp 26],#[9]⟩,3,"memory.go:71",#[⟨5,.data⟩],none⟩,⟨some 28,.call ⟨.value (.func 286),#[.tmp 21,.tmp 22,.tmp 27],#[24,24,3]⟩,302,"memory.go:71",#[⟨0,.data⟩,⟨1,.data⟩,⟨6,.data⟩],none⟩,⟨some 20,.move (.tmp 28),302,"memory.go:71",#[⟨7,.data⟩],none⟩,⟨some 29,.extract (.tmp 20) 0,3,"memory.go:71",#[⟨8,.data⟩],none⟩,⟨some 30,.extract (.tmp 20) 1,3,"memory.go:71",#[⟨8,.data⟩,⟨12,.gcOnly .lateStores⟩],none⟩,⟨some 31,.extract (.tmp 20) 2,4,"memory.go:71",#[⟨8,.data⟩,⟨13,.gcOnly .lateStores⟩],none⟩,⟨some 5,.assign (.tmp 29),3,"memory.go:71",#[⟨9,.data⟩,⟨7,.chain⟩,⟨0,.phase⟩,⟨1,.phase⟩,⟨2,.phase⟩,⟨3,.phase⟩,⟨4,.phase⟩,⟨5,.phase⟩,⟨6,.phase⟩,⟨7,.phase⟩,⟨8,.phase⟩,⟨9,.phase⟩,⟨10,.textOnly .lateStores⟩,⟨11,.textOnly .lateStores⟩],none⟩,⟨some 6,.assign (.tmp 30),3,"memory.go:71",#[⟨10,.data⟩,⟨12,.chain⟩,⟨0,.phase⟩,⟨1,.phase⟩,⟨2,.phase⟩,⟨3,.phase⟩,⟨4,.phase⟩,⟨5,.phase⟩,⟨6,.phase⟩,⟨7,.phase⟩,⟨8,.phase⟩,⟨9,.phase⟩,⟨10,.phase⟩,⟨11,.textOnly .lateStores⟩,⟨12,.phase⟩],none⟩,⟨some 7,.assign (.tmp 31),4,"memory.go:71",#[⟨11,.data⟩,⟨13,.chain⟩,⟨0,.phase⟩,⟨1,.phase⟩,⟨2,.phase⟩,⟨3,.phase⟩,⟨4,.phase⟩,⟨5,.phase⟩,⟨6,.phase⟩,⟨7,.phase⟩,⟨8,.phase⟩,⟨9,.phase⟩,⟨10,.phase⟩,⟨11,.phase⟩,⟨12,.phase⟩,⟨13,.phase⟩],none⟩] true).wp prog Q a w:=by
 have hsame:∀k:Nat,100000<((fun _:Nat=>F) k).gas\/Same F ((fun _:Nat=>F) k):=by
  intro k;have s0:100000<(F).gas\/Same F F:=Or.inr (Same.refl F);exact s0
 exact ZA (fun _:Nat=>F) h [(3,.pointer (some ⟨bf,0,none⟩)),(4,.pointer (some ⟨bn,0,none⟩)),(0,.pointer (some ⟨fb,0,none⟩))] [(some 21,.v (wv (nf))),(some 22,.v (wv (nn))),(some 23,.v (.pointer (some ⟨fb,0,none⟩))),(some 24,.v (.pointer (some ⟨fb,0,none⟩))),(some 25,.v (.pointer (some ⟨fb,21,none⟩))),(some 26,.v (.string F.ret)),(some 27,.v (.int .i64 (F.ret.size:Int))),(some 28,.v (.tuple #[.int .i64 ((spP (nf) (nn) (F.ret.size):Nat):Int),.int .i64 ((spN (nf) (nn) (F.ret.size):Nat):Int),.bool (spB (nf) (nn) (F.ret.size))])),(some 20,.v (.tuple #[.int .i64 ((spP (nf) (nn) (F.ret.size):Nat):Int),.int .i64 ((spN (nf) (nn) (F.ret.size):Nat):Int),.bool (spB (nf) (nn) (F.ret.size))])),(some 29,.v (.int .i64 ((spP (nf) (nn) (F.ret.size):Nat):Int))),(some 30,.v (.int .i64 ((spN (nf) (nn) (F.ret.size):Nat):Int))),(some 31,.v (.bool (spB (nf) (nn) (F.ret.size)))),(some 5,.v (.int .i64 ((spP (nf) (nn) (F.ret.size):Nat):Int))),(some 6,.v (.int .i64 ((spN (nf) (nn) (F.ret.size):Nat):Int))),(some 7,.v (.bool (spB (nf) (nn) (F.ret.size))))] [] [0,1,5,7] (by kernel_rfl) hsz (Zi c3 (Zi c4 (Zi c0 rfl))) (by kernel_rfl) trivial
  True.intro
  (zf _ _ _ rfl rfl (fun s x k S1 sv1 mv1 hfr hkb hkp hv hl K hK=>YU 3 21 _ _ (hv 3 _ rfl) (hkb.row hr3 hr3n) (hK _ x (Below.refl _ _) nn1 rfl))
  (zf _ _ _ rfl rfl (fun s x k S1 sv1 mv1 hfr hkb hkp hv hl K hK=>YU 4 22 _ _ (hv 4 _ rfl) (hkb.row hr4 hr4n) (hK _ x (Below.refl _ _) nn1 rfl))
  (zf _ _ _ rfl rfl (fun s x k S1 sv1 mv1 hfr hkb hkp hv hl K hK=>by
    rcases hsame k with hbd|hsm
    ·exact absurd hfr.gal (Nat.not_le.2 hbd)
    ·have e:=hsm.ret;exact zv (v:=.string F.ret) (fun w=>by kernel_rfl) (hv 25 _ rfl) ((hfr.row.cell (i:=21) (by decide)).trans (congrArg (fun z=>some (Value.string z)) e)) (hK _ x (Below.refl _ _) nn1 rfl))
  (zf _ _ _ rfl rfl (fun s x k S1 sv1 mv1 hfr hkb hkp hv hl K hK=>ZK zpU (ev3 (hv 21 _ rfl) (hv 22 _ rfl) (hv 27 _ rfl)) (zo1 (nf) (nn) (F.ret.size) hsp7 x) (fun e x' h9=>⟨_,h9.1,hK _ x' h9.2 nn1 rfl⟩))
  True.intro))))
  fun g x S' sv' mv' hfr hkb hsub hT=>hok x S' sv' mv' hfr hkb hsub
theorem zfB {base fb:Nat} {F:Fz} {S:List Nat} {sv mv:Value} {Q:Exit->Act->World->Prop} (a:Act) (w:World) {bt nt:Nat} (hr2:Za w bt (nt)) (hr2n:bt∉S) {bf nf:Nat} (hr3:Za w bf (nf)) (hr3n:bf∉S) {bn nn:Nat} (hr4:Za w bn (nn)) (hr4n:bn∉S) (hcp8:(F.ret).size<=100000) (h:Fr base fb F S sv mv w) (hsz:([40,41,42,43,44,45,46,47,48]:List Nat).all (fun d=>decide (d<a.tmps.size))=true) (c2:a.tmps.getD 2 undef=.pointer (some ⟨bt,0,none⟩)) (c3:a.tmps.getD 3 undef=.pointer (some ⟨bf,0,none⟩)) (c4:a.tmps.getD 4 undef=.pointer (some ⟨bn,0,none⟩)) (c0:a.tmps.getD 0 undef=.pointer (some ⟨fb,0,none⟩))
  (hpan:∀u pv s x,(Zb (F.ret) (nt) (nf) (nn) (F)=none)->s.defers=a.defers->Kb S w x->Q (.panic [{v:=.iface u pv,recovered:=false}]) s x)
  (hok:∀(x:World) (S':List Nat) (sv' mv':Value),Fr base fb (zh (Zb (F.ret) (nt) (nf) (nn) (F))) S' sv' mv' x->Kb S w x->(∀j∈S',j∈S\/w.heap.size<=j)->Q .normal (zF a [(40,.pointer (some ⟨fb,0,none⟩)),(41,.pointer (some ⟨fb,0,none⟩)),(42,.pointer (some ⟨fb,0,none⟩)),(43,.pointer (some ⟨fb,21,none⟩)),(44,.string F.ret),(45,wv (nt)),(46,wv (nf)),(47,wv (nn)),(48,Value.tuple #[])]) x):
  (Code.region 4 #[⟨some 40,.move (.tmp 0),132,"memory.go:74",#[],none⟩,⟨some 41,.move (.tmp 0),132,"memory.go:74",#[],none⟩,⟨some 42,.nilCheck (.tmp 41),0,"memory.go:74",#[⟨1,.data⟩],none⟩,⟨some 43,.fieldAddr 137 (.tmp 42) 12,0,"memory.go:74",#[⟨2,.data⟩],none⟩,⟨some 44,.load 9 (.tmp 43),9,"memory.go:74",#[⟨3,.data⟩],none⟩,⟨some 45,.load 24 (.tmp 2),24,"memory.go:74",#[],none⟩,⟨some 46,.load 24 (.tmp 3),24,"memory.go:74",#[],none⟩,⟨some 47,.load 24 (.tmp 4),24,"memory.go:74",#[],none⟩,⟨some 48,.call ⟨.value (.func 285),#[.tmp 40,.tmp 44,.tmp 45,.tmp 46,.tmp 47],#[132,9,24,24,24]⟩,0,"memory.go:74",#[⟨0,.data⟩,⟨4,.data⟩,⟨5,.data⟩,⟨6,.data⟩,⟨7,.data⟩],none⟩] true).wp prog Q a w:=by
 exact ZA (fun k=>match k with|0=>F|_=>zh (Zb (F.ret) (nt) (nf) (nn) (F))) h [(2,.pointer (some ⟨bt,0,none⟩)),(3,.pointer (some ⟨bf,0,none⟩)),(4,.pointer (some ⟨bn,0,none⟩)),(0,.pointer (some ⟨fb,0,none⟩))] [(some 40,.v (.pointer (some ⟨fb,0,none⟩))),(some 41,.v (.pointer (some ⟨fb,0,none⟩))),(some 42,.v (.pointer (some ⟨fb,0,none⟩))),(some 43,.v (.pointer (some ⟨fb,21,none⟩))),(some 44,.v (.string F.ret)),(some 45,.v (wv (nt))),(some 46,.v (wv (nf))),(some 47,.v (wv (nn))),(some 48,.v (Value.tuple #[]))] [8] [4,5,6,7] (by kernel_rfl) hsz (Zi c2 (Zi c3 (Zi c4 (Zi c0 rfl)))) (by kernel_rfl) trivial
  (zf _ _ _ rfl rfl (fun s x S1 sv1 mv1 hfr hkb hsub hdf hv hl K hK=>zbK (r:=Zb (F.ret) (nt) (nf) (nn) (F)) (val:=zy) zgo (ev5 (hv 40 _ rfl) (hv 44 _ rfl) (hv 45 _ rfl) (hv 46 _ rfl) (hv 47 _ rfl)) (zes (F.ret) (nt) (nf) (nn) hcp8 x hfr) rfl (fun _ _ _=>rfl) (fun hrn u pv x' hk=>hpan u pv s x' hrn hdf (hkb.trans hk hsub)) hK)
  True.intro)
  (zf _ _ _ rfl rfl (fun s x k S1 sv1 mv1 hfr hkb hkp hv hl K hK=>by
    obtain rfl:k=0:=Nat.le_zero.1 (hkp 0 8 rfl (by kernel_rfl));have hfr0:Fr base fb F S1 sv1 mv1 x:=hfr;exact zv (v:=.string F.ret) (fun w=>by kernel_rfl) (hv 43 _ rfl) (hfr0.row.cell (i:=21) (by decide)) (hK _ x (Below.refl _ _) nn1 rfl))
  (zf _ _ _ rfl rfl (fun s x k S1 sv1 mv1 hfr hkb hkp hv hl K hK=>YU 2 45 _ _ (hv 2 _ rfl) (hkb.row hr2 hr2n) (hK _ x (Below.refl _ _) nn1 rfl))
  (zf _ _ _ rfl rfl (fun s x k S1 sv1 mv1 hfr hkb hkp hv hl K hK=>YU 3 46 _ _ (hv 3 _ rfl) (hkb.row hr3 hr3n) (hK _ x (Below.refl _ _) nn1 rfl))
  (zf _ _ _ rfl rfl (fun s x k S1 sv1 mv1 hfr hkb hkp hv hl K hK=>YU 4 47 _ _ (hv 4 _ rfl) (hkb.row hr4 hr4n) (hK _ x (Below.refl _ _) nn1 rfl))
  True.intro))))
  fun g x S' sv' mv' hfr hkb hsub hT=>hok x S' sv' mv' hfr hkb hsub
def zag (t f n:Nat) (F:Fz):Option (Unit×Fz):=if n%M≠0/\spB f n F.ret.size=false then none else Zb F.ret t f n F
def ZU (F:Fz):Option (Unit×Fz):=by3 F (zag (zY F) (Ze F) (zcB F) (zaR F))
theorem Kb.sub_trans {S S1 S2:List Nat} {w x:World} (hk:Kb S w x) (h1:∀j∈S1,j∈S\/w.heap.size<=j) (h2:∀j∈S2,j∈S1\/x.heap.size<=j):∀j∈S2,j∈S\/w.heap.size<=j:=fun j hj=>(h2 j hj).elim (h1 j) (fun h=>Or.inr (Nat.le_trans hk.size h))
theorem zdL {S1 S2:List Nat} {x:World} {b:Nat} (hb:b∉S1) (hl:b<x.heap.size) (h2:∀j∈S2,j∈S1\/x.heap.size<=j):b∉S2:=fun hm=>(h2 b hm).elim hb (fun h=>by omega)
theorem zf7 {base fb:Nat} {F:Fz} {S:List Nat} {sv mv:Value} (hsr:F.ret.size<=100000) (w:World) (h:Fr base fb F S sv mv w):
  Calls prog 264 #[.pointer (some ⟨fb,0,none⟩)] w (Out (ZU F) zy base fb S w):=by
 go_enter func264,ntmps264;go_wp2;refine pops3 _ _ h rfl rfl rfl rfl ?_ ?_
 ·intro u pv s x hno hd hk;have e:ZU F=none:=zfI hno;rw[e];exact⟨hd,⟨_,_,rfl⟩,hk⟩
 ·intro x S' sv' mv' b0 b1 b2 hfr hkb hsub hn0 hg0 hr0 hn1 hg1 hr1 hn2 hg2 hr2;have HE:=zb (zkU (r:=zag (zY F) (Ze F) (zcB F) (zaR F)) hfr);change Hid (ZU F=_) at HE;change Fr base fb (zaR F) S' sv' mv' x at hfr;change Za x b0 (zY F) at hr0;change Za x b1 (Ze F) at hr1;change Za x b2 (zcB F) at hr2
  have hsr2:(zaR F).ret.size<=100000:=by
   rcases zm9 F with h1|h1
   ·exact absurd hfr.gal (by omega)
   ·rw[h1.ret];exact hsr
  simp only[zF,List.foldl_cons,List.foldl_nil,Act.put];generalize zaR F=F2 at*;generalize zY F=p at*;generalize Ze F=q at*;generalize zcB F=r at*;generalize ZU F=R at*;simp only[sx9]
  go_upto_region 1 with fail
  refine zk3 (F:=F2) (S:=S') (bf:=b1) (nf:=q) (bn:=b2) (nn:=r) _ x hr1 hn1 hr2 hn2 (by omega) hfr rfl rfl rfl rfl (fun _ _ _ _ h=>h.elim) ?_;intro x1 S1 sv1 mv1 hf1 hk1 hs1;have hk01:=hkb.trans hk1 hsub;have hs01:=hkb.sub_trans hsub hs1;have hr01:=hk1.row hr0 hn0;have hr11:=hk1.row hr1 hn1;have hr21:=hk1.row hr2 hn2;have hn01:=zdL hn0 hr0.lt hs1;have hn11:=zdL hn1 hr1.lt hs1;have hn21:=zdL hn2 hr2.lt hs1;obtain⟨z0,z1,z2,z3⟩:_/\_/\_/\_:=⟨hf1.zr 0 (by omega),hf1.zr 1 (by omega),hf1.zr 2 (by omega),hf1.zr 3 (by omega)⟩;obtain⟨d0,d1,d2,d3⟩:=ze hr21;have hez:=Z8 r;clear hkb hsub hk1 hs1 hr0 hr1 hr2 hn0 hn1 hn2 hfr;simp only[zF,List.foldl_cons,List.foldl_nil,Act.put,List.setIfInBounds_toArray,List.set_cons_zero,List.set_cons_succ];by_cases hbad:r%M≠0/\spB q r F2.ret.size=false
  ·have HEN:Hid (R=none):=HE.out.trans (if_pos hbad);rw[Yv hbad.1] at hez;have hsb:=hbad.2;have HK:=zb hk01;clear hk01 hs01 hr01 hr11 hr21 hn01 hn11 hn21 hf1 HE h hbad;go_wp2;refine⟨rfl, ?_⟩;rw[HEN.out];exact⟨⟨_,_,rfl⟩,HK.out⟩
  ·have HE2:=zb (HE.out.trans (if_neg hbad));by_cases hr0':r%M=0
   ·rw[zae hr0'] at hez;clear hbad
    go_upto_region 4 with fail
    refine zfB (F:=F2) (S:=S1) (bt:=b0) (nt:=p) (bf:=b1) (nf:=q) (bn:=b2) (nn:=r) _ x1 hr01 hn01 hr11 hn11 hr21 hn21 hsr2 hf1 rfl rfl rfl rfl rfl ?_ ?_
    ·intro u pv s y hno hd hk;have e:R=none:=HE2.out.trans hno;rw[e];exact⟨hd,⟨_,_,rfl⟩,hk01.trans hk hs01⟩
    ·intro y S2 sv2 mv2 hf2 hk2 hs2;have e:=HE2.out.trans (zbk fun e=>ZS (zW e) hf2)
     have HO:Hid (Out R zy base fb S w (.returned (.tuple #[])) y):=by
      rw[e];exact⟨rfl,S2,sv2,mv2,hf2,hk01.trans hk2 hs01,hk01.sub_trans hs01 hs2⟩
     clear e hf2 hk2 hs2 hk01 hs01 hr01 hr11 hr21 hn01 hn11 hn21 hf1 HE HE2 h z0 z1 z2 z3 d0 d1 d2 d3 hez;simp only[zF,List.foldl_cons,List.foldl_nil,Act.put];go_wp2;go_end0;exact HO.out
   ·rw[Yv hr0'] at hez
    have hsb:spB q r F2.ret.size=true:=by
     cases hq:spB q r F2.ret.size with
     |true=>rfl
     |false=>exact absurd ⟨hr0',hq⟩ hbad
    clear hbad
    go_upto_region 4 with fail
    refine zfB (F:=F2) (S:=S1) (bt:=b0) (nt:=p) (bf:=b1) (nf:=q) (bn:=b2) (nn:=r) _ x1 hr01 hn01 hr11 hn11 hr21 hn21 hsr2 hf1 rfl rfl rfl rfl rfl ?_ ?_
    ·intro u pv s y hno hd hk;have e:R=none:=HE2.out.trans hno;rw[e];exact⟨hd,⟨_,_,rfl⟩,hk01.trans hk hs01⟩
    ·intro y S2 sv2 mv2 hf2 hk2 hs2;have e:=HE2.out.trans (zbk fun e=>ZS (zW e) hf2)
     have HO:Hid (Out R zy base fb S w (.returned (.tuple #[])) y):=by
      rw[e];exact⟨rfl,S2,sv2,mv2,hf2,hk01.trans hk2 hs01,hk01.sub_trans hs01 hs2⟩
     clear e hf2 hk2 hs2 hk01 hs01 hr01 hr11 hr21 hn01 hn11 hn21 hf1 HE HE2 h z0 z1 z2 z3 d0 d1 d2 d3 hez;simp only[zF,List.foldl_cons,List.foldl_nil,Act.put];go_wp2;go_end0;exact HO.out
theorem PhF.cell {base fb:Nat} {G:Nat->Fz} {S:List Nat} {w x:World} {k:Nat} {F:Fz} (h:PhF base fb G S w k x) (hs:100000<(G k).gas\/Same F (G k)) (o:Nat) (ho:o<27) (c:Fz->Value) (hc:∀H sv mv,Fz.cell H sv mv o=c H) (hsame:∀H,Same F H->c H=c F):x.cell? ⟨fb,o,none⟩=some (c F):=by
 obtain⟨S',sv,mv,h1,_⟩:=h;rcases hs with hs|hs
 ·exact absurd h1.gal (by omega)
 ·rw[h1.row.cell (i:=o) ho,hc,hsame _ hs]
theorem zmO {r:Option (Nat×Fz)} {a:Nat} {F:Fz} (h:r=some (a,F)):a=zC r:=by rw[h];rfl
theorem PhF.out1 {base fb:Nat} {S:List Nat} {w x:World} {r:Option (Unit×Fz)} (h:∃S' sv mv,Fr base fb (zh r) S' sv mv x/\Kb S w x/\∀j∈S',j∈S\/w.heap.size<=j):Out r zy base fb S w (.returned (.tuple #[])) x:=by
 obtain⟨S',sv,mv,h1,h2,h3⟩:=h;rw[zbk (r:=r) fun e=>ZS (zW e) h1];exact⟨rfl,S',sv,mv,h1,h2,h3⟩
def SlL (n:Nat):Kp:=fun _ v _=>∃ad c,v=.slice ad n c
theorem st_lenB {s:Act} {x:World} {pos:String} {af:Array Edge} {gd:Option (Nat×Bool)} {K:Act->World->Prop} {Q:Exit->Act->World->Prop} {t d n c:Nat} {ty:TypeId} {ad:Option Addr} (he:s.tmps.getD t undef=.slice ad n c) (hK:K (s.put (some d) (.int .i64 (n:Int))) x):
  Oper.wp prog ⟨some d,.call ⟨.builtin .len,#[.tmp t],#[26]⟩,ty,pos,af,gd⟩ s x K Q:=by
 have he2:s.eval (.tmp t)=.slice ad n c:=he;go_simp;exact hK
theorem zbl {r:Option (Unit×Fz)} {base fb:Nat} {S:List Nat} {w:World} (e:Ending) (x:World) (h:Out r zy base fb S w e x):e=.returned (.tuple #[])\/∃u pv,e=.panicked [{v:=.iface u pv,recovered:=false}]:=by
 cases r with
 |none=>obtain⟨⟨u,pv,rfl⟩,_⟩:=h;exact Or.inr ⟨u,pv,rfl⟩
 |some y=>obtain⟨u,F'⟩:=y;obtain⟨rfl,_⟩:=h;exact Or.inl rfl
def PcK (l:List UInt8):Kp:=fun p v x=>p≠0/\(p=1->Rds x v l)
theorem pck_s1 {l:List UInt8} {p:Nat} {v:Value} {x x':World} (h:PcK l p v x):PcK l (p+1) v x':=⟨by omega,fun e=>absurd h.1 (by omega)⟩
theorem pck_s2 {l:List UInt8} {p:Nat} {v:Value} {x x':World} (h:PcK l p v x) (hb:Below x.heap.size x x'):PcK l p v x':=⟨h.1,fun e=>(h.2 e).below hb⟩
theorem PhF.out2 {α:Type} {base fb:Nat} {S:List Nat} {w x:World} {r0:Option (α×Fz)} {r:Option (Unit×Fz)} (hr:r0=none->Bd (zh r)) (h:∃S' sv mv,Fr base fb (zh r) S' sv mv x/\Kb S w x/\∀j∈S',j∈S\/w.heap.size<=j):Out (zM r0 r) zy base fb S w (.returned (.tuple #[])) x:=by
 obtain⟨S',sv,mv,h1,h2,h3⟩:=h;rw[zT fun e=>ZS (hr e) h1];exact PhF.out1 ⟨S',sv,mv,h1,h2,h3⟩
theorem surr_48 {base fb:Nat} {F:Fz} {S:List Nat} {sv mv:Value} (w:World) (h:Fr base fb F S sv mv w):
  Calls prog 233 #[.pointer (some ⟨fb,0,none⟩),.int .u8 48] w (Out (zm F.self F) zy base fb S w):=by
 have hsm:∀k:Nat,100000<((fun k=>match k with|0=>F|_=>zh (zm F.self F)) k).gas\/Same F ((fun k=>match k with|0=>F|_=>zh (zm F.self F)) k):=fun k=>by
  match k with
  |0=>exact Or.inr (Same.refl F)
  |_+1=>exact ZW (Or.inr (Same.refl F)) _
 go_enter func233,ntmps233;go_wp2
 refine zt (PhF base fb (fun k=>match k with|0=>F|_=>zh (zm F.self F)) S w) (fun _ _ _=>True) [(0,(.pointer (some ⟨fb,0,none⟩)))] [(some 7,.v (.pointer (some ⟨fb,0,none⟩))),(some 8,.v (.pointer (some ⟨fb,0,none⟩))),(some 9,.v (.pointer (some ⟨fb,19,none⟩))),(some 10,.v (.pointer (some ⟨fb,0,none⟩))),(some 11,.v (.pointer (some ⟨fb,0,none⟩))),(some 12,.v (.pointer (some ⟨fb,3,none⟩))),(some 13,.v (wv F.self)),(some 14,.v (.tuple #[]))] [7] [6] (by kernel_rfl) (by rfl) (by rfl) (by kernel_rfl) (PhF.init h) (PhF.bel)
   (zf _ _ _ rfl rfl
   (fun s x hph hdf hv hl K hK=>by
    refine ZO (val:=zy) (c:=.tuple #[]) hph hv (fun S' sv mv hf=>yi (F.self) x hf) (by kernel_rfl) rfl (fun _ _ _=>rfl) (fun hno u pv x' hk=> ?_) (fun x' hp=>hK _ x' hp trivial nn1 rfl);rw[show zm F.self F=none from hno];exact⟨hdf,⟨_,_,rfl⟩,hk⟩)
   True.intro)
   (zf _ _ _ rfl rfl
   (fun k s x hk hlo hhi hph hdf hv hl K hK=>by
    exact zD (n:=F.self) (hv 12 _ rfl) (hph.cell (hsm k) 3 (by decide) (fun F=>.int .u64 (za F.self 0)) (fun _ _ _=>rfl) (fun G h=>congrArg (fun z=>Value.int .u64 (za z 0)) h.self)) (hph.cell (hsm k) 4 (by decide) (fun F=>.int .u64 (za F.self 1)) (fun _ _ _=>rfl) (fun G h=>congrArg (fun z=>Value.int .u64 (za z 1)) h.self)) (hph.cell (hsm k) 5 (by decide) (fun F=>.int .u64 (za F.self 2)) (fun _ _ _=>rfl) (fun G h=>congrArg (fun z=>Value.int .u64 (za z 2)) h.self)) (hph.cell (hsm k) 6 (by decide) (fun F=>.int .u64 (za F.self 3)) (fun _ _ _=>rfl) (fun G h=>congrArg (fun z=>Value.int .u64 (za z 3)) h.self)) (hK _ x (Below.refl _ _) nn1 rfl))
   True.intro)
   (fun _ _ _ h=>(zu rfl h).elim) (fun _ _ _ h=>(zu rfl h).elim) ?_
 intro gg x hph _;have HO:=zb (PhF.out1 hph);clear hph h;simp only[yx,yB,yA,Zj,zF,List.foldl_cons,List.foldl_nil,Act.put];simp only[sx9];go_wp2;go_end0;exact HO.out
theorem surr_51 {base fb:Nat} {F:Fz} {S:List Nat} {sv mv:Value} (w:World) (h:Fr base fb F S sv mv w):
  Calls prog 233 #[.pointer (some ⟨fb,0,none⟩),.int .u8 51] w (Out (zm F.caller F) zy base fb S w):=by
 have hsm:∀k:Nat,100000<((fun k=>match k with|0=>F|_=>zh (zm F.caller F)) k).gas\/Same F ((fun k=>match k with|0=>F|_=>zh (zm F.caller F)) k):=fun k=>by
  match k with
  |0=>exact Or.inr (Same.refl F)
  |_+1=>exact ZW (Or.inr (Same.refl F)) _
 go_enter func233,ntmps233;go_wp2
 refine zt (PhF base fb (fun k=>match k with|0=>F|_=>zh (zm F.caller F)) S w) (fun _ _ _=>True) [(0,(.pointer (some ⟨fb,0,none⟩)))] [(some 32,.v (.pointer (some ⟨fb,0,none⟩))),(some 33,.v (.pointer (some ⟨fb,0,none⟩))),(some 34,.v (.pointer (some ⟨fb,19,none⟩))),(some 35,.v (.pointer (some ⟨fb,0,none⟩))),(some 36,.v (.pointer (some ⟨fb,0,none⟩))),(some 37,.v (.pointer (some ⟨fb,7,none⟩))),(some 38,.v (wv F.caller)),(some 39,.v (.tuple #[]))] [7] [6] (by kernel_rfl) (by rfl) (by rfl) (by kernel_rfl) (PhF.init h) (PhF.bel)
   (zf _ _ _ rfl rfl
   (fun s x hph hdf hv hl K hK=>by
    refine ZO (val:=zy) (c:=.tuple #[]) hph hv (fun S' sv mv hf=>yi (F.caller) x hf) (by kernel_rfl) rfl (fun _ _ _=>rfl) (fun hno u pv x' hk=> ?_) (fun x' hp=>hK _ x' hp trivial nn1 rfl);rw[show zm F.caller F=none from hno];exact⟨hdf,⟨_,_,rfl⟩,hk⟩)
   True.intro)
   (zf _ _ _ rfl rfl
   (fun k s x hk hlo hhi hph hdf hv hl K hK=>by
    exact zD (n:=F.caller) (hv 37 _ rfl) (hph.cell (hsm k) 7 (by decide) (fun F=>.int .u64 (za F.caller 0)) (fun _ _ _=>rfl) (fun G h=>congrArg (fun z=>Value.int .u64 (za z 0)) h.caller)) (hph.cell (hsm k) 8 (by decide) (fun F=>.int .u64 (za F.caller 1)) (fun _ _ _=>rfl) (fun G h=>congrArg (fun z=>Value.int .u64 (za z 1)) h.caller)) (hph.cell (hsm k) 9 (by decide) (fun F=>.int .u64 (za F.caller 2)) (fun _ _ _=>rfl) (fun G h=>congrArg (fun z=>Value.int .u64 (za z 2)) h.caller)) (hph.cell (hsm k) 10 (by decide) (fun F=>.int .u64 (za F.caller 3)) (fun _ _ _=>rfl) (fun G h=>congrArg (fun z=>Value.int .u64 (za z 3)) h.caller)) (hK _ x (Below.refl _ _) nn1 rfl))
   True.intro)
   (fun _ _ _ h=>(zu rfl h).elim) (fun _ _ _ h=>(zu rfl h).elim) ?_
 intro gg x hph _;have HO:=zb (PhF.out1 hph);clear hph h;simp only[yx,yB,yA,Zj,zF,List.foldl_cons,List.foldl_nil,Act.put];simp only[sx9];go_wp2;go_end0;exact HO.out
theorem surr_52 {base fb:Nat} {F:Fz} {S:List Nat} {sv mv:Value} (w:World) (h:Fr base fb F S sv mv w):
  Calls prog 233 #[.pointer (some ⟨fb,0,none⟩),.int .u8 52] w (Out (zm F.value F) zy base fb S w):=by
 have hsm:∀k:Nat,100000<((fun k=>match k with|0=>F|_=>zh (zm F.value F)) k).gas\/Same F ((fun k=>match k with|0=>F|_=>zh (zm F.value F)) k):=fun k=>by
  match k with
  |0=>exact Or.inr (Same.refl F)
  |_+1=>exact ZW (Or.inr (Same.refl F)) _
 go_enter func233,ntmps233;go_wp2
 refine zt (PhF base fb (fun k=>match k with|0=>F|_=>zh (zm F.value F)) S w) (fun _ _ _=>True) [(0,(.pointer (some ⟨fb,0,none⟩)))] [(some 42,.v (.pointer (some ⟨fb,0,none⟩))),(some 43,.v (.pointer (some ⟨fb,0,none⟩))),(some 44,.v (.pointer (some ⟨fb,19,none⟩))),(some 45,.v (.pointer (some ⟨fb,0,none⟩))),(some 46,.v (.pointer (some ⟨fb,0,none⟩))),(some 47,.v (.pointer (some ⟨fb,11,none⟩))),(some 48,.v (wv F.value)),(some 49,.v (.tuple #[]))] [7] [6] (by kernel_rfl) (by rfl) (by rfl) (by kernel_rfl) (PhF.init h) (PhF.bel)
   (zf _ _ _ rfl rfl
   (fun s x hph hdf hv hl K hK=>by
    refine ZO (val:=zy) (c:=.tuple #[]) hph hv (fun S' sv mv hf=>yi (F.value) x hf) (by kernel_rfl) rfl (fun _ _ _=>rfl) (fun hno u pv x' hk=> ?_) (fun x' hp=>hK _ x' hp trivial nn1 rfl);rw[show zm F.value F=none from hno];exact⟨hdf,⟨_,_,rfl⟩,hk⟩)
   True.intro)
   (zf _ _ _ rfl rfl
   (fun k s x hk hlo hhi hph hdf hv hl K hK=>by
    exact zD (n:=F.value) (hv 47 _ rfl) (hph.cell (hsm k) 11 (by decide) (fun F=>.int .u64 (za F.value 0)) (fun _ _ _=>rfl) (fun G h=>congrArg (fun z=>Value.int .u64 (za z 0)) h.value)) (hph.cell (hsm k) 12 (by decide) (fun F=>.int .u64 (za F.value 1)) (fun _ _ _=>rfl) (fun G h=>congrArg (fun z=>Value.int .u64 (za z 1)) h.value)) (hph.cell (hsm k) 13 (by decide) (fun F=>.int .u64 (za F.value 2)) (fun _ _ _=>rfl) (fun G h=>congrArg (fun z=>Value.int .u64 (za z 2)) h.value)) (hph.cell (hsm k) 14 (by decide) (fun F=>.int .u64 (za F.value 3)) (fun _ _ _=>rfl) (fun G h=>congrArg (fun z=>Value.int .u64 (za z 3)) h.value)) (hK _ x (Below.refl _ _) nn1 rfl))
   True.intro)
   (fun _ _ _ h=>(zu rfl h).elim) (fun _ _ _ h=>(zu rfl h).elim) ?_
 intro gg x hph _;have HO:=zb (PhF.out1 hph);clear hph h;simp only[yx,yB,yA,Zj,zF,List.foldl_cons,List.foldl_nil,Act.put];simp only[sx9];go_wp2;go_end0;exact HO.out
theorem surr_54 {base fb:Nat} {F:Fz} {S:List Nat} {sv mv:Value} (hds:F.data.size<=100000) (w:World) (h:Fr base fb F S sv mv w):
  Calls prog 233 #[.pointer (some ⟨fb,0,none⟩),.int .u8 54] w (Out (zm F.data.size F) zy base fb S w):=by
 have hsm:∀k:Nat,100000<((fun k=>match k with|0=>F|_=>zh (zm F.data.size F)) k).gas\/Same F ((fun k=>match k with|0=>F|_=>zh (zm F.data.size F)) k):=fun k=>by
  match k with
  |0=>exact Or.inr (Same.refl F)
  |_+1=>exact ZW (Or.inr (Same.refl F)) _
 go_enter func233,ntmps233;go_wp2
 refine zt (PhF base fb (fun k=>match k with|0=>F|_=>zh (zm F.data.size F)) S w) (fun _ _ _=>True) [(0,(.pointer (some ⟨fb,0,none⟩)))] [(some 68,.v (.pointer (some ⟨fb,0,none⟩))),(some 69,.v (.pointer (some ⟨fb,0,none⟩))),(some 70,.v (.pointer (some ⟨fb,19,none⟩))),(some 71,.v (.pointer (some ⟨fb,0,none⟩))),(some 72,.v (.pointer (some ⟨fb,0,none⟩))),(some 73,.v (.pointer (some ⟨fb,15,none⟩))),(some 74,.v (.string F.data)),(some 75,.v (.int .i64 (F.data.size:Int))),(some 76,.v (wv F.data.size)),(some 77,.v (.tuple #[]))] [9] [6,8] (by kernel_rfl) (by rfl) (by rfl) (by kernel_rfl) (PhF.init h) (PhF.bel)
   (zf _ _ _ rfl rfl
   (fun s x hph hdf hv hl K hK=>by
    refine ZO (val:=zy) (c:=.tuple #[]) hph hv (fun S' sv mv hf=>yi (F.data.size) x hf) (by kernel_rfl) rfl (fun _ _ _=>rfl) (fun hno u pv x' hk=> ?_) (fun x' hp=>hK _ x' hp trivial nn1 rfl);rw[show zm F.data.size F=none from hno];exact⟨hdf,⟨_,_,rfl⟩,hk⟩)
   True.intro)
   (zf _ _ _ rfl rfl
   (fun k s x hk hlo hhi hph hdf hv hl K hK=>by
    exact zv (v:=.string F.data) (fun w=>by kernel_rfl) (hv 73 _ rfl) (hph.cell (hsm k) 15 (by decide) (fun F=>.string F.data) (fun _ _ _=>rfl) (fun G h=>congrArg Value.string h.data)) (hK _ x (Below.refl _ _) nn1 rfl))
   (zf _ _ _ rfl rfl
   (fun k s x hk hlo hhi hph hdf hv hl K hK=>by
    refine zZ hv (ZI (F.data.size) (by omega) x) (by kernel_rfl) (fun v y h=> ?_) (fun l y h=>absurd h.1 (by simp)) (fun y h=>absurd h.1 (by simp));obtain⟨e,hb⟩:=h;injection e with e
    subst e;exact hK _ y hb nn1 rfl)
   True.intro))
   (fun _ _ _ h=>(zu rfl h).elim) (fun _ _ _ h=>(zu rfl h).elim) ?_
 intro gg x hph _;have HO:=zb (PhF.out1 hph);clear hph h;simp only[yx,yB,yA,Zj,zF,List.foldl_cons,List.foldl_nil,Act.put];simp only[sx9];go_wp2;go_end0;exact HO.out
theorem surr_56 {base fb:Nat} {F:Fz} {S:List Nat} {sv mv:Value} (hds:F.code.size<=100000) (w:World) (h:Fr base fb F S sv mv w):
  Calls prog 233 #[.pointer (some ⟨fb,0,none⟩),.int .u8 56] w (Out (zm F.code.size F) zy base fb S w):=by
 have hsm:∀k:Nat,100000<((fun k=>match k with|0=>F|_=>zh (zm F.code.size F)) k).gas\/Same F ((fun k=>match k with|0=>F|_=>zh (zm F.code.size F)) k):=fun k=>by
  match k with
  |0=>exact Or.inr (Same.refl F)
  |_+1=>exact ZW (Or.inr (Same.refl F)) _
 go_enter func233,ntmps233;go_wp2
 refine zt (PhF base fb (fun k=>match k with|0=>F|_=>zh (zm F.code.size F)) S w) (fun _ _ _=>True) [(0,(.pointer (some ⟨fb,0,none⟩)))] [(some 88,.v (.pointer (some ⟨fb,0,none⟩))),(some 89,.v (.pointer (some ⟨fb,0,none⟩))),(some 90,.v (.pointer (some ⟨fb,19,none⟩))),(some 91,.v (.pointer (some ⟨fb,0,none⟩))),(some 92,.v (.pointer (some ⟨fb,0,none⟩))),(some 93,.v (.pointer (some ⟨fb,1,none⟩))),(some 94,.v (.string F.code)),(some 95,.v (.int .i64 (F.code.size:Int))),(some 96,.v (wv F.code.size)),(some 97,.v (.tuple #[]))] [9] [6,8] (by kernel_rfl) (by rfl) (by rfl) (by kernel_rfl) (PhF.init h) (PhF.bel)
   (zf _ _ _ rfl rfl
   (fun s x hph hdf hv hl K hK=>by
    refine ZO (val:=zy) (c:=.tuple #[]) hph hv (fun S' sv mv hf=>yi (F.code.size) x hf) (by kernel_rfl) rfl (fun _ _ _=>rfl) (fun hno u pv x' hk=> ?_) (fun x' hp=>hK _ x' hp trivial nn1 rfl);rw[show zm F.code.size F=none from hno];exact⟨hdf,⟨_,_,rfl⟩,hk⟩)
   True.intro)
   (zf _ _ _ rfl rfl
   (fun k s x hk hlo hhi hph hdf hv hl K hK=>by
    exact zv (v:=.string F.code) (fun w=>by kernel_rfl) (hv 93 _ rfl) (hph.cell (hsm k) 1 (by decide) (fun F=>.string F.code) (fun _ _ _=>rfl) (fun G h=>congrArg Value.string h.code)) (hK _ x (Below.refl _ _) nn1 rfl))
   (zf _ _ _ rfl rfl
   (fun k s x hk hlo hhi hph hdf hv hl K hK=>by
    refine zZ hv (ZI (F.code.size) (by omega) x) (by kernel_rfl) (fun v y h=> ?_) (fun l y h=>absurd h.1 (by simp)) (fun y h=>absurd h.1 (by simp));obtain⟨e,hb⟩:=h;injection e with e
    subst e;exact hK _ y hb nn1 rfl)
   True.intro))
   (fun _ _ _ h=>(zu rfl h).elim) (fun _ _ _ h=>(zu rfl h).elim) ?_
 intro gg x hph _;have HO:=zb (PhF.out1 hph);clear hph h;simp only[yx,yB,yA,Zj,zF,List.foldl_cons,List.foldl_nil,Act.put];simp only[sx9];go_wp2;go_end0;exact HO.out
theorem surr_61 {base fb:Nat} {F:Fz} {S:List Nat} {sv mv:Value} (hds:F.ret.size<=100000) (w:World) (h:Fr base fb F S sv mv w):
  Calls prog 233 #[.pointer (some ⟨fb,0,none⟩),.int .u8 61] w (Out (zm F.ret.size F) zy base fb S w):=by
 have hsm:∀k:Nat,100000<((fun k=>match k with|0=>F|_=>zh (zm F.ret.size F)) k).gas\/Same F ((fun k=>match k with|0=>F|_=>zh (zm F.ret.size F)) k):=fun k=>by
  match k with
  |0=>exact Or.inr (Same.refl F)
  |_+1=>exact ZW (Or.inr (Same.refl F)) _
 go_enter func233,ntmps233;go_wp2
 refine zt (PhF base fb (fun k=>match k with|0=>F|_=>zh (zm F.ret.size F)) S w) (fun _ _ _=>True) [(0,(.pointer (some ⟨fb,0,none⟩)))] [(some 108,.v (.pointer (some ⟨fb,0,none⟩))),(some 109,.v (.pointer (some ⟨fb,0,none⟩))),(some 110,.v (.pointer (some ⟨fb,19,none⟩))),(some 111,.v (.pointer (some ⟨fb,0,none⟩))),(some 112,.v (.pointer (some ⟨fb,0,none⟩))),(some 113,.v (.pointer (some ⟨fb,21,none⟩))),(some 114,.v (.string F.ret)),(some 115,.v (.int .i64 (F.ret.size:Int))),(some 116,.v (wv F.ret.size)),(some 117,.v (.tuple #[]))] [9] [6,8] (by kernel_rfl) (by rfl) (by rfl) (by kernel_rfl) (PhF.init h) (PhF.bel)
   (zf _ _ _ rfl rfl
   (fun s x hph hdf hv hl K hK=>by
    refine ZO (val:=zy) (c:=.tuple #[]) hph hv (fun S' sv mv hf=>yi (F.ret.size) x hf) (by kernel_rfl) rfl (fun _ _ _=>rfl) (fun hno u pv x' hk=> ?_) (fun x' hp=>hK _ x' hp trivial nn1 rfl);rw[show zm F.ret.size F=none from hno];exact⟨hdf,⟨_,_,rfl⟩,hk⟩)
   True.intro)
   (zf _ _ _ rfl rfl
   (fun k s x hk hlo hhi hph hdf hv hl K hK=>by
    exact zv (v:=.string F.ret) (fun w=>by kernel_rfl) (hv 113 _ rfl) (hph.cell (hsm k) 21 (by decide) (fun F=>.string F.ret) (fun _ _ _=>rfl) (fun G h=>congrArg Value.string h.ret)) (hK _ x (Below.refl _ _) nn1 rfl))
   (zf _ _ _ rfl rfl
   (fun k s x hk hlo hhi hph hdf hv hl K hK=>by
    refine zZ hv (ZI (F.ret.size) (by omega) x) (by kernel_rfl) (fun v y h=> ?_) (fun l y h=>absurd h.1 (by simp)) (fun y h=>absurd h.1 (by simp));obtain⟨e,hb⟩:=h;injection e with e
    subst e;exact hK _ y hb nn1 rfl)
   True.intro))
   (fun _ _ _ h=>(zu rfl h).elim) (fun _ _ _ h=>(zu rfl h).elim) ?_
 intro gg x hph _;have HO:=zb (PhF.out1 hph);clear hph h;simp only[yx,yB,yA,Zj,zF,List.foldl_cons,List.foldl_nil,Act.put];simp only[sx9];go_wp2;go_end0;exact HO.out
theorem zqW {base fb:Nat} {F:Fz} {S:List Nat} {sv mv:Value} (hds:F.pc<=10000000) (w:World) (h:Fr base fb F S sv mv w):
  Calls prog 234 #[.pointer (some ⟨fb,0,none⟩),.int .u8 88] w (Out (zm F.pc F) zy base fb S w):=by
 have hsm:∀k:Nat,100000<((fun k=>match k with|0=>F|_=>zh (zm F.pc F)) k).gas\/Same F ((fun k=>match k with|0=>F|_=>zh (zm F.pc F)) k):=fun k=>by
  match k with
  |0=>exact Or.inr (Same.refl F)
  |_+1=>exact ZW (Or.inr (Same.refl F)) _
 go_enter func234,ntmps234;go_wp2
 refine zt (PhF base fb (fun k=>match k with|0=>F|_=>zh (zm F.pc F)) S w) (fun _ _ _=>True) [(0,(.pointer (some ⟨fb,0,none⟩)))] [(some 45,.v (.pointer (some ⟨fb,0,none⟩))),(some 46,.v (.pointer (some ⟨fb,0,none⟩))),(some 47,.v (.pointer (some ⟨fb,19,none⟩))),(some 48,.v (.pointer (some ⟨fb,0,none⟩))),(some 49,.v (.pointer (some ⟨fb,0,none⟩))),(some 50,.v (.pointer (some ⟨fb,22,none⟩))),(some 51,.v (.int .i64 (F.pc:Int))),(some 52,.v (wv F.pc)),(some 53,.v (.tuple #[]))] [8] [6,7] (by kernel_rfl) (by rfl) (by rfl) (by kernel_rfl) (PhF.init h) (PhF.bel)
   (zf _ _ _ rfl rfl
   (fun s x hph hdf hv hl K hK=>by
    refine ZO (val:=zy) (c:=.tuple #[]) hph hv (fun S' sv mv hf=>yi (F.pc) x hf) (by kernel_rfl) rfl (fun _ _ _=>rfl) (fun hno u pv x' hk=> ?_) (fun x' hp=>hK _ x' hp trivial nn1 rfl);rw[show zm F.pc F=none from hno];exact⟨hdf,⟨_,_,rfl⟩,hk⟩)
   True.intro)
   (zf _ _ _ rfl rfl
   (fun k s x hk hlo hhi hph hdf hv hl K hK=>by
    exact zv (v:=.int .i64 (F.pc:Int)) (fun w=>by kernel_rfl) (hv 50 _ rfl) (hph.cell (hsm k) 22 (by decide) (fun F=>.int .i64 (F.pc:Int)) (fun _ _ _=>rfl) (fun G h=>congrArg (fun z:Nat=>Value.int .i64 (z:Int)) h.pc)) (hK _ x (Below.refl _ _) nn1 rfl))
   (zf _ _ _ rfl rfl
   (fun k s x hk hlo hhi hph hdf hv hl K hK=>by
    refine zZ hv (ZI (F.pc) (by omega) x) (by kernel_rfl) (fun v y h=> ?_) (fun l y h=>absurd h.1 (by simp)) (fun y h=>absurd h.1 (by simp));obtain⟨e,hb⟩:=h;injection e with e
    subst e;exact hK _ y hb nn1 rfl)
   True.intro))
   (fun _ _ _ h=>(zu rfl h).elim) (fun _ _ _ h=>(zu rfl h).elim) ?_
 intro gg x hph _;have HO:=zb (PhF.out1 hph);clear hph h;simp only[yx,yB,yA,Zj,zF,List.foldl_cons,List.foldl_nil,Act.put];simp only[sx9];go_wp2;go_end0;exact HO.out
theorem zqR {base fb:Nat} {F:Fz} {S:List Nat} {sv mv:Value} (hds:F.gas<=10000000) (w:World) (h:Fr base fb F S sv mv w):
  Calls prog 234 #[.pointer (some ⟨fb,0,none⟩),.int .u8 90] w (Out (zm F.gas F) zy base fb S w):=by
 have hsm:∀k:Nat,100000<((fun k=>match k with|0=>F|_=>zh (zm F.gas F)) k).gas\/Same F ((fun k=>match k with|0=>F|_=>zh (zm F.gas F)) k):=fun k=>by
  match k with
  |0=>exact Or.inr (Same.refl F)
  |_+1=>exact ZW (Or.inr (Same.refl F)) _
 go_enter func234,ntmps234;go_wp2
 refine zt (PhF base fb (fun k=>match k with|0=>F|_=>zh (zm F.gas F)) S w) (fun _ _ _=>True) [(0,(.pointer (some ⟨fb,0,none⟩)))] [(some 68,.v (.pointer (some ⟨fb,0,none⟩))),(some 69,.v (.pointer (some ⟨fb,0,none⟩))),(some 70,.v (.pointer (some ⟨fb,19,none⟩))),(some 71,.v (.pointer (some ⟨fb,0,none⟩))),(some 72,.v (.pointer (some ⟨fb,0,none⟩))),(some 73,.v (.pointer (some ⟨fb,16,none⟩))),(some 74,.v (.int .i64 (F.gas:Int))),(some 75,.v (wv F.gas)),(some 76,.v (.tuple #[]))] [8] [6,7] (by kernel_rfl) (by rfl) (by rfl) (by kernel_rfl) (PhF.init h) (PhF.bel)
   (zf _ _ _ rfl rfl
   (fun s x hph hdf hv hl K hK=>by
    refine ZO (val:=zy) (c:=.tuple #[]) hph hv (fun S' sv mv hf=>yi (F.gas) x hf) (by kernel_rfl) rfl (fun _ _ _=>rfl) (fun hno u pv x' hk=> ?_) (fun x' hp=>hK _ x' hp trivial nn1 rfl);rw[show zm F.gas F=none from hno];exact⟨hdf,⟨_,_,rfl⟩,hk⟩)
   True.intro)
   (zf _ _ _ rfl rfl
   (fun k s x hk hlo hhi hph hdf hv hl K hK=>by
    exact zv (v:=.int .i64 (F.gas:Int)) (fun w=>by kernel_rfl) (hv 73 _ rfl) (hph.cell (hsm k) 16 (by decide) (fun F=>.int .i64 (F.gas:Int)) (fun _ _ _=>rfl) (fun G h=>congrArg (fun z:Nat=>Value.int .i64 (z:Int)) h.gas)) (hK _ x (Below.refl _ _) nn1 rfl))
   (zf _ _ _ rfl rfl
   (fun k s x hk hlo hhi hph hdf hv hl K hK=>by
    refine zZ hv (ZI (F.gas) (by omega) x) (by kernel_rfl) (fun v y h=> ?_) (fun l y h=>absurd h.1 (by simp)) (fun y h=>absurd h.1 (by simp));obtain⟨e,hb⟩:=h;injection e with e
    subst e;exact hK _ y hb nn1 rfl)
   True.intro))
   (fun _ _ _ h=>(zu rfl h).elim) (fun _ _ _ h=>(zu rfl h).elim) ?_
 intro gg x hph _;have HO:=zb (PhF.out1 hph);clear hph h;simp only[yx,yB,yA,Zj,zF,List.foldl_cons,List.foldl_nil,Act.put];simp only[sx9];go_wp2;go_end0;exact HO.out
theorem surr_53 {base fb:Nat} {F:Fz} {S:List Nat} {sv mv:Value} (hds:F.data.size<=100000) (w:World) (h:Fr base fb F S sv mv w):
  Calls prog 233 #[.pointer (some ⟨fb,0,none⟩),.int .u8 53] w (Out (zM (zi F) (zm (ofL (zN F.data (zC (zi F)%M) 32)) (zh (zi F)))) zy base fb S w):=by
 have hsm:∀k:Nat,100000<((fun k=>match k with|0=>F|1=>zh (zi F)|_=>zh (zm (ofL (zN F.data (zC (zi F)%M) 32)) (zh (zi F)))) k).gas\/Same F ((fun k=>match k with|0=>F|1=>zh (zi F)|_=>zh (zm (ofL (zN F.data (zC (zi F)%M) 32)) (zh (zi F)))) k):=fun k=>by
  match k with
  |0=>exact Or.inr (Same.refl F)
  |1=>exact Zn (Or.inr (Same.refl F))
  |_+2=>exact ZW (Zn (Or.inr (Same.refl F))) _
 go_enter func233,ntmps233;go_wp2
 refine zt (PhF base fb (fun k=>match k with|0=>F|1=>zh (zi F)|_=>zh (zm (ofL (zN F.data (zC (zi F)%M) 32)) (zh (zi F)))) S w) (fun _ _ _=>True) [(0,(.pointer (some ⟨fb,0,none⟩)))] [(some 52,.v (.pointer (some ⟨fb,0,none⟩))),(some 53,.v (.pointer (some ⟨fb,0,none⟩))),(some 54,.v (.pointer (some ⟨fb,19,none⟩))),(some 55,.v (.pointer (some ⟨fb,0,none⟩))),(some 56,.v (.pointer (some ⟨fb,0,none⟩))),(some 57,.v (.pointer (some ⟨fb,15,none⟩))),(some 58,.v (.string F.data)),(some 59,.v (.pointer (some ⟨fb,0,none⟩))),(some 60,.v (.pointer (some ⟨fb,0,none⟩))),(some 61,.v (.pointer (some ⟨fb,19,none⟩))),(some 62,.v (wv (zC (zi F)))),(some 63,.l (PcK (zN F.data (zC (zi F)%M) 32))),(some 64,.v (wv (ofL (zN F.data (zC (zi F)%M) 32)))),(some 65,.v (.tuple #[]))] [10,13] [6,11,12] (by kernel_rfl) (by rfl) (by rfl) (by kernel_rfl) (PhF.init h) (PhF.bel)
   (zf _ _ _ rfl rfl
   (fun s x hph hdf hv hl K hK=>by
    refine ZO (val:=wv) (c:=wv (zC (zi F))) hph hv (fun S' sv mv hf=>Yg x hf) (by kernel_rfl) rfl (fun a F' h=>congrArg wv (zmO h)) (fun hno u pv x' hk=> ?_) (fun x' hp=>hK _ x' hp trivial nn1 rfl);rw[show zM (zi F) (zm (ofL (zN F.data (zC (zi F)%M) 32)) (zh (zi F)))=none from zq (Or.inl hno)];exact⟨hdf,⟨_,_,rfl⟩,hk⟩)
   (zf _ _ _ rfl rfl
   (fun s x hph hdf hv hl K hK=>by
    refine ZO (val:=zy) (c:=.tuple #[]) hph hv (fun S' sv mv hf=>yi (ofL (zN F.data (zC (zi F)%M) 32)) x hf) (by kernel_rfl) rfl (fun _ _ _=>rfl) (fun hno u pv x' hk=> ?_) (fun x' hp=>hK _ x' hp trivial nn1 rfl);rw[show zM (zi F) (zm (ofL (zN F.data (zC (zi F)%M) 32)) (zh (zi F)))=none from zq (Or.inr hno)];exact⟨hdf,⟨_,_,rfl⟩,hk⟩)
   True.intro))
   (zf _ _ _ rfl rfl
   (fun k s x hk hlo hhi hph hdf hv hl K hK=>by
    exact zv (v:=.string F.data) (fun w=>by kernel_rfl) (hv 57 _ rfl) (hph.cell (hsm k) 15 (by decide) (fun F=>.string F.data) (fun _ _ _=>rfl) (fun G h=>congrArg Value.string h.data)) (hK _ x (Below.refl _ _) nn1 rfl))
   (zf _ _ _ rfl rfl
   (fun k s x hk hlo hhi hph hdf hv hl K hK=>by
    refine zZ hv (zdR F.data (zC (zi F)) 32 hds (by omega) x) (by kernel_rfl) (fun v y h=> ?_) (fun l y h=>by obtain⟨v,e,_⟩:=h;cases e) (fun y h=>by obtain⟨v,e,_⟩:=h;cases e);obtain⟨v',e,hby,hb⟩:=h;injection e with e
    subst e;have k1:=hlo 0 10 rfl (by kernel_rfl);have k2:=hhi 1 13 rfl (by kernel_rfl);exact hK _ y hb nn1 ⟨by omega,fun _=>hby.rds⟩)
   (zf _ _ _ rfl rfl
   (fun k s x hk hlo hhi hph hdf hv hl K hK=>by
    have k1:=hlo 0 10 rfl (by kernel_rfl);have k2:=hhi 1 13 rfl (by kernel_rfl);have hp:=(hl 63 _ rfl).2 (by omega);refine zZ hv (args:=#[s.tmps.getD 63 undef]) (zaM _ (by rw[YB];omega) _ x hp) (by kernel_rfl) (fun v y h=> ?_) (fun l y h=>absurd h.1 (by simp)) (fun y h=>absurd h.1 (by simp));obtain⟨e,hb⟩:=h;injection e with e
    subst e;exact hK _ y hb nn1 rfl)
   True.intro)))
   ?_ ?_ ?_
 ·intro i d T he p v x x' _ hp hph _ hT;have hm:=List.mem_of_getElem? he;simp only[List.mem_cons,Prod.mk.injEq,reduceCtorEq,and_false,false_or,or_false,List.not_mem_nil,En.l.injEq] at hm;obtain⟨-,rfl⟩:=hm;exact pck_s1 hT
 ·intro i d T he p v x x' hph hb hT;have hm:=List.mem_of_getElem? he;simp only[List.mem_cons,Prod.mk.injEq,reduceCtorEq,and_false,false_or,or_false,List.not_mem_nil,En.l.injEq] at hm;obtain⟨-,rfl⟩:=hm;exact pck_s2 hT hb
 intro gg x hph _;have HO:=zb (PhF.out2 (r0:=zi F) (fun e=>zcJ (zW e)) hph);clear hph h;simp only[yx,yB,yA,Zj,zF,List.foldl_cons,List.foldl_nil,Act.put];simp only[sx9];go_wp2;go_end0;exact HO.out
theorem zpJ {base fb:Nat} {F:Fz} {S:List Nat} {sv mv:Value} (hds:F.mem.length<=100000) (w:World) (h:Fr base fb F S sv mv w):
  Calls prog 234 #[.pointer (some ⟨fb,0,none⟩),.int .u8 89] w (Out (zm F.mem.length F) zy base fb S w):=by
 have hsm:∀k:Nat,100000<((fun k=>match k with|0=>F|_=>zh (zm F.mem.length F)) k).gas\/Same F ((fun k=>match k with|0=>F|_=>zh (zm F.mem.length F)) k):=fun k=>by
  match k with
  |0=>exact Or.inr (Same.refl F)
  |_+1=>exact ZW (Or.inr (Same.refl F)) _
 go_enter func234,ntmps234;go_wp2
 refine zt (PhF base fb (fun k=>match k with|0=>F|_=>zh (zm F.mem.length F)) S w) (fun _ _ _=>True) [(0,(.pointer (some ⟨fb,0,none⟩)))] [(some 56,.v (.pointer (some ⟨fb,0,none⟩))),(some 57,.v (.pointer (some ⟨fb,0,none⟩))),(some 58,.v (.pointer (some ⟨fb,19,none⟩))),(some 59,.v (.pointer (some ⟨fb,0,none⟩))),(some 60,.v (.pointer (some ⟨fb,0,none⟩))),(some 61,.v (.pointer (some ⟨fb,20,none⟩))),(some 62,.l (SlL F.mem.length)),(some 63,.v (.int .i64 (F.mem.length:Int))),(some 64,.v (wv F.mem.length)),(some 65,.v (.tuple #[]))] [9] [6,7,8] (by kernel_rfl) (by rfl) (by rfl) (by kernel_rfl) (PhF.init h) (PhF.bel)
   (zf _ _ _ rfl rfl
   (fun s x hph hdf hv hl K hK=>by
    refine ZO (val:=zy) (c:=.tuple #[]) hph hv (fun S' sv mv hf=>yi (F.mem.length) x hf) (by kernel_rfl) rfl (fun _ _ _=>rfl) (fun hno u pv x' hk=> ?_) (fun x' hp=>hK _ x' hp trivial nn1 rfl);rw[show zm F.mem.length F=none from hno];exact⟨hdf,⟨_,_,rfl⟩,hk⟩)
   True.intro)
   (zf _ _ _ rfl rfl
   (fun k s x hk hlo hhi hph hdf hv hl K hK=>by
    have k2:=hhi 0 9 rfl (by kernel_rfl);obtain rfl:k=0:=by omega
    obtain⟨S',sv,mv,hf,_⟩:=hph;obtain⟨ad,cp,rfl⟩:=zS hf.me;exact zv (v:=.slice ad F.mem.length cp) (fun w=>by kernel_rfl) (hv 61 _ rfl) (hf.row.cell (i:=20) (by decide)) (hK _ x (Below.refl _ _) nn1 ⟨_,_,rfl⟩))
   (zf _ _ _ rfl rfl
   (fun k s x hk hlo hhi hph hdf hv hl K hK=>by
    obtain⟨ad,cp,e⟩:=hl 62 _ rfl;exact st_lenB (t:=62) e (hK _ x (Below.refl _ _) nn1 rfl))
   (zf _ _ _ rfl rfl
   (fun k s x hk hlo hhi hph hdf hv hl K hK=>by
    refine zZ hv (ZI F.mem.length (by omega) x) (by kernel_rfl) (fun v y h=> ?_) (fun l y h=>absurd h.1 (by simp)) (fun y h=>absurd h.1 (by simp));obtain⟨e,hb⟩:=h;injection e with e
    subst e;exact hK _ y hb nn1 rfl)
   True.intro)))
   (fun i d T he p v x x' _ _ _ _ hT=>by
  have hm:=List.mem_of_getElem? he;simp only[List.mem_cons,Prod.mk.injEq,reduceCtorEq,and_false,false_or,or_false,List.not_mem_nil,En.l.injEq] at hm;obtain⟨-,rfl⟩:=hm;exact hT) (fun i d T he p v x x' _ _ hT=>by
  have hm:=List.mem_of_getElem? he;simp only[List.mem_cons,Prod.mk.injEq,reduceCtorEq,and_false,false_or,or_false,List.not_mem_nil,En.l.injEq] at hm;obtain⟨-,rfl⟩:=hm;exact hT) ?_
 intro gg x hph _;have HO:=zb (PhF.out1 hph);clear hph h;simp only[yx,yB,yA,Zj,zF,List.foldl_cons,List.foldl_nil,Act.put];simp only[sx9];go_wp2;go_end0;exact HO.out
theorem surr_49 {base fb:Nat} {F:Fz} {S:List Nat} {sv mv:Value} {tb:Nat} {T:TS} {V:TV} (hptr:F.trail=.pointer (some ⟨tb,0,none⟩)) (hdis:∀k∈S,¬zG tb T V k) (hno:0∉S) (w:World) (htr:Tr base tb T V w) (h:Fr base fb F S sv mv w):
  Calls prog 233 #[.pointer (some ⟨fb,0,none⟩),.int .u8 49] w (Out (zM (zi F) (zm (T.acc (zC (zi F))).bal (zh (zi F)))) zy base fb S w):=by
 have hsm:∀k:Nat,100000<((fun k=>match k with|0=>F|1=>zh (zi F)|_=>zh (zm (T.acc (zC (zi F))).bal (zh (zi F)))) k).gas\/Same F ((fun k=>match k with|0=>F|1=>zh (zi F)|_=>zh (zm (T.acc (zC (zi F))).bal (zh (zi F)))) k):=fun k=>by
  match k with
  |0=>exact Or.inr (Same.refl F)
  |1=>exact Zn (Or.inr (Same.refl F))
  |_+2=>exact ZW (Zn (Or.inr (Same.refl F))) _
 go_enter func233,ntmps233;go_wp2
 refine zt (PhF base fb (fun k=>match k with|0=>F|1=>zh (zi F)|_=>zh (zm (T.acc (zC (zi F))).bal (zh (zi F)))) S w) (fun _ _ _=>True) [(0,(.pointer (some ⟨fb,0,none⟩)))] [(some 17,.v (.pointer (some ⟨fb,0,none⟩))),(some 18,.v (.pointer (some ⟨fb,0,none⟩))),(some 19,.v (.pointer (some ⟨fb,19,none⟩))),(some 20,.v (.pointer (some ⟨fb,0,none⟩))),(some 21,.v (.pointer (some ⟨fb,0,none⟩))),(some 22,.v (.pointer (some ⟨fb,0,none⟩))),(some 23,.v (.pointer (some ⟨tb,0,none⟩))),(some 24,.v (.pointer (some ⟨fb,0,none⟩))),(some 25,.v (.pointer (some ⟨fb,0,none⟩))),(some 26,.v (.pointer (some ⟨fb,19,none⟩))),(some 27,.v (wv (zC (zi F)))),(some 28,.v (wv (T.acc (zC (zi F))).bal)),(some 29,.v (.tuple #[]))] [10,12] [6,11] (by kernel_rfl) (by rfl) (by rfl) (by kernel_rfl) (PhF.init h) (PhF.bel)
   (zf _ _ _ rfl rfl
   (fun s x hph hdf hv hl K hK=>by
    refine ZO (val:=wv) (c:=wv (zC (zi F))) hph hv (fun S' sv mv hf=>Yg x hf) (by kernel_rfl) rfl (fun a F' h=>congrArg wv (zmO h)) (fun hno u pv x' hk=> ?_) (fun x' hp=>hK _ x' hp trivial nn1 rfl);rw[show zM (zi F) (zm (T.acc (zC (zi F))).bal (zh (zi F)))=none from zq (Or.inl hno)];exact⟨hdf,⟨_,_,rfl⟩,hk⟩)
   (zf _ _ _ rfl rfl
   (fun s x hph hdf hv hl K hK=>by
    refine ZO (val:=zy) (c:=.tuple #[]) hph hv (fun S' sv mv hf=>yi ((T.acc (zC (zi F))).bal) x hf) (by kernel_rfl) rfl (fun _ _ _=>rfl) (fun hno u pv x' hk=> ?_) (fun x' hp=>hK _ x' hp trivial nn1 rfl);rw[show zM (zi F) (zm (T.acc (zC (zi F))).bal (zh (zi F)))=none from zq (Or.inr hno)];exact⟨hdf,⟨_,_,rfl⟩,hk⟩)
   True.intro))
   (zf _ _ _ rfl rfl
   (fun k s x hk hlo hhi hph hdf hv hl K hK=>by
    exact zv (v:=.pointer (some ⟨tb,0,none⟩)) (fun w=>by kernel_rfl) (hv 22 _ rfl) ((hph.cell (hsm k) 0 (by decide) (fun F=>F.trail) (fun _ _ _=>rfl) (fun G h=>h.trail)).trans (congrArg some hptr)) (hK _ x (Below.refl _ _) nn1 rfl))
   (zf _ _ _ rfl rfl
   (fun k s x hk hlo hhi hph hdf hv hl K hK=>by
    obtain⟨S',sv,mv,_,hkb,_⟩:=hph;refine zZ hv (zax (zC (zi F)) x (htr.kb hkb hdis hno)) (by kernel_rfl) (fun v y h=> ?_) (fun l y h=>absurd h.1 (by simp)) (fun y h=>absurd h.1 (by simp));obtain⟨e,hb⟩:=h;injection e with e
    subst e;exact hK _ y hb nn1 rfl)
   True.intro))
   (fun _ _ _ h=>(zu rfl h).elim) (fun _ _ _ h=>(zu rfl h).elim) ?_
 intro gg x hph _;have HO:=zb (PhF.out2 (r0:=zi F) (fun e=>zcJ (zW e)) hph);clear hph h htr;simp only[yx,yB,yA,Zj,zF,List.foldl_cons,List.foldl_nil,Act.put];simp only[sx9];go_wp2;go_end0;exact HO.out
theorem surr_55 {base fb:Nat} {F:Fz} {S:List Nat} {sv mv:Value} (hds:F.data.size<=100000) (w:World) (h:Fr base fb F S sv mv w):
  Calls prog 233 #[.pointer (some ⟨fb,0,none⟩),.int .u8 55] w (Out (ZV F.data F) zy base fb S w):=by
 have HC:=zb (zdc F.data hds w h);have c1:=h.row.cell (i:=15) (by decide);rw[show F.cell sv mv 15=.string F.data from rfl] at c1;clear h;go_enter func233,ntmps233;go_wp2_with fail
 refine HC.out.mono ?_;intro e x hq;have HQ:=zb hq;rcases zbl e x hq with rfl|⟨u,pv,rfl⟩
 ·clear hq HC;go_wp2;go_end0;exact HQ.out
 ·exact⟨rfl,HQ.out⟩
theorem surr_57 {base fb:Nat} {F:Fz} {S:List Nat} {sv mv:Value} (hds:F.code.size<=100000) (w:World) (h:Fr base fb F S sv mv w):
  Calls prog 233 #[.pointer (some ⟨fb,0,none⟩),.int .u8 57] w (Out (ZV F.code F) zy base fb S w):=by
 have HC:=zb (zdc F.code hds w h);have c1:=h.row.cell (i:=1) (by decide);rw[show F.cell sv mv 1=.string F.code from rfl] at c1;clear h;go_enter func233,ntmps233;go_wp2_with fail
 refine HC.out.mono ?_;intro e x hq;have HQ:=zb hq;rcases zbl e x hq with rfl|⟨u,pv,rfl⟩
 ·clear hq HC;go_wp2;go_end0;exact HQ.out
 ·exact⟨rfl,HQ.out⟩
theorem surr_62 {base fb:Nat} {F:Fz} {S:List Nat} {sv mv:Value} (hds:F.ret.size<=100000) (w:World) (h:Fr base fb F S sv mv w):
  Calls prog 233 #[.pointer (some ⟨fb,0,none⟩),.int .u8 62] w (Out (ZU F) zy base fb S w):=by
 have HC:=zb (zf7 hds w h);clear h;go_enter func233,ntmps233;go_wp2_with fail
 refine HC.out.mono ?_;intro e x hq;have HQ:=zb hq;rcases zbl e x hq with rfl|⟨u,pv,rfl⟩
 ·clear hq HC;go_wp2;go_end0;exact HQ.out
 ·exact⟨rfl,HQ.out⟩
def zhV (F:Fz):Option (Unit×Fz):=(zi F).map fun y=>((),y.2)
theorem zqy {base fb:Nat} {F:Fz} {S:List Nat} {sv mv:Value} (w:World) (h:Fr base fb F S sv mv w):
  Calls prog 234 #[.pointer (some ⟨fb,0,none⟩),.int .u8 80] w (Out (zhV F) zy base fb S w):=by
 have HC:=zb (Yg w h);clear h;go_enter func234,ntmps234;go_wp2_with fail
 refine HC.out.mono ?_;intro e x hq;unfold zhV;cases hp:zi F with
 |none=>
  rw[hp] at hq;obtain⟨⟨u,pv,rfl⟩,hk⟩:=hq;exact⟨rfl,⟨_,_,rfl⟩,hk⟩
 |some r=>
  obtain⟨n,F1⟩:=r;rw[hp] at hq;obtain⟨rfl,hto⟩:=hq;have HTO:=zb hto;clear hto HC;go_wp2;go_end0;unfold zhV;rw[hp];exact⟨rfl,HTO.out⟩
def Old (mv:Value) (m:List UInt8) (x:World):Prop:=∀g len cap,mv=.slice (some ⟨g,0,none⟩) len cap->g<x.heap.size/\∀i (h:i<m.length),x.cell? ⟨g,i,none⟩=some (u8v m[i])
theorem Old.of {w:World} {base:Nat} {mv:Value} {m m':List UInt8} (h:Bys w base mv (m++m')):Old mv m w:=by
 intro g len cap e;subst e
 obtain⟨h1,h2⟩:len=(m++m').length/\True:=by
  rcases h.2 with⟨h1,h2⟩|⟨g',cap',cur,h1,_⟩
  ·cases h1
  ·injection h1 with _ h1 _;exact⟨h1,trivial⟩
 subst h1;refine⟨(h.lt g rfl).2,fun i hi=> ?_⟩;rw[World.ownsRow.cellAt h i (by rw[List.length_append];omega),List.map_append,List.getElem?_append_left (by simpa using hi),List.getElem?_map,List.getElem?_eq_getElem hi];rfl
theorem Old.me {w:World} {base fb:Nat} {F:Fz} {S:List Nat} {sv mv:Value} (h:Fr base fb F S sv mv w):Old mv F.mem w:=Old.of (m':=[]) (by rw[List.append_nil];exact h.me)
theorem Old.kb {w x:World} {S:List Nat} {mv:Value} {m:List UInt8} (h:Old mv m w) (hk:Kb S w x) (hS:∀k,mv.ownBlock=some k->k∉S):Old mv m x:=by
 intro g len cap e;obtain⟨h1,h2⟩:=h g len cap e;exact⟨Nat.lt_of_lt_of_le h1 hk.size,fun i hi=>(World.cell?_of_block (w:=w) (hk.block g h1 (hS g (by rw[e];rfl)))).trans (h2 i hi)⟩
theorem Old.below {w x:World} {mv:Value} {m:List UInt8} (h:Old mv m w) (hb:Below w.heap.size w x):Old mv m x:=h.kb (Kb.of_below (S:=[]) hb) (by simp)
theorem zfp (w w':World) (base k:Nat) (v v':Value) (l:List UInt8) (hv:Bys w base v l) (hk:0<k) (hl:l.length+k<=100000) (ty:TypeId) (hr:(Builtin.append_ #[26,3] ty #[v,.int .i64 (k:Int)]).run prog w=.ok v' w'):
  v'.ownBlock=v.ownBlock\/Kb [] w w':=by
 obtain⟨i,hi,hz,hs,hby⟩:=info_parts zeX;have hzc:(Value.int .u8 0).cells=#[.int .u8 0]:=rfl;rcases hv.2 with⟨rfl,h0⟩|⟨g,cap,cur,rfl,hg1,hg,hnc,hcm,hcs,htk⟩
 ·right;obtain rfl:l=[]:=List.length_eq_zero_iff.1 h0;have hrun:=Lib.run_append_nil_zeros (P:=prog) w 26 3 ty 5 i (.int .u8 0) .i64 .i64 Yw zbZ hi hz k hk (by omega) (by simp at hl;omega) (by rw[hby];simp at hl;omega);rw[hr] at hrun;injection hrun with e1 e2
  subst e2;exact⟨rfl,rfl,rfl,by simp,fun j hj _=>Below.heap_alloc w.drew _ j hj⟩
 ·have hcur:cur.size=cap:=by rw[hcs,Nat.mul_one]
  rw[Nat.mul_one] at htk;by_cases hr2:l.length+k<=cap
  ·left;have hrun:=Ys (P:=prog) (k:=k) w 26 3 ty 5 i (.int .u8 0) .i64 .i64 Yw zbZ hi hz hs g l.length cap cur hg hcur (by rw[hzc,Z6];exact zb6 _) (by rw[hzc];exact ya k) hk hr2 (by rw[hby];omega) (by omega);rw[hr] at hrun;injection hrun with e1 e2
   subst e1;rfl
  ·right
   have hrun:=Lib.run_append_grow_zeros (P:=prog) w 26 3 ty 5 i (.int .u8 0) .i64 .i64 Yw zbZ hi hz (some ⟨g,0,none⟩) l.length cap (l.map u8v)
    (run_firstCells_some (P:=prog) w.drew i.size l.length ⟨g,0,none⟩ l.length cap (l.map u8v) (by rw[hs];simp) (fun j u hj=>hv.cells rfl j u hj)) k hk (by omega) (by omega) (by omega) (by rw[hby];omega) (growslice_fits (by omega) (by rw[hby];omega))
   rw[hr] at hrun;injection hrun with e1 e2
   subst e2;exact⟨rfl,rfl,rfl,by simp,fun j hj _=>Below.heap_alloc w.drew _ j hj⟩
theorem grow_K {base fb:Nat} {F:Fz} {S:List Nat} {sv mv:Value} (n:Nat) (hn:n<=2048) (w:World) (h:Fr base fb F S sv mv w):
  Calls prog 293 #[.pointer (some ⟨fb,0,none⟩),.int .i64 (n:Int)] w fun e w'=>Out (yc n F) zy base fb S w e w'/\(yc n F≠none->Old mv F.mem w'):=by
 have hml:=h.mel;have HOLD:=zb (Old.me h);obtain⟨ad,cap,rfl⟩:=zS h.me;have hc:w.cell? ⟨fb,20,none⟩=some (.slice ad F.mem.length cap):=h.row.cell (i:=20) (by decide);obtain⟨q,hq⟩:∃q,q=zA F.mem.length:=⟨_,rfl⟩;have hqb:q<=2048:=by rw[hq];unfold zA;omega
 have HS:Hid (∀w,Calls prog 287 #[.int .i64 (F.mem.length:Int)] w fun e w'=>e=.returned (.int .i64 (q:Int))/\w'=w):=fun w=>by rw[hq];exact zab F.mem.length (by omega) w
 unfold yc;rw[<-hq];by_cases hle:n<=q
 ·rw[if_pos hle];have d:decide ((n:Int) - (q:Int)<=0)=true:=decide_eq_true (by omega);have HT:=zb h.to;clear h hq;go_enter func293,ntmps293;go_wp2_with fail
  refine(HS.out _).mono ?_;rintro e w1 ⟨rfl,rfl⟩;go_wp2
  first|go_end0|refine bodyPost_ret (results_none rfl _ _ _) rfl ?_
  exact⟨⟨rfl,HT.out⟩,fun _=>HOLD.out⟩
 ·rw[if_neg hle];obtain⟨m,hm⟩:∃m:Nat,(n:Int) - (q:Int)=(m:Int):=⟨n - q,by omega⟩;have hm2:n - q=m:=by omega
  have hm3:0<m:=by omega
  have hm4:m<=2048:=by omega
  have d:decide ((m:Int)<=0)=false:=decide_eq_false (by omega);rw[hm2]
  have HP:Hid (Calls prog 204 #[.pointer (some ⟨fb,0,none⟩),.int .i64 (3*(m:Int))] w fun e w'=>if F.gas<3*m then Pan e/\Kb S w w' else e=.returned (.tuple #[])/\Fr base fb {F with gas:=F.gas - 3*m} S sv (.slice ad F.mem.length cap) w'/\Kb S w w'):=by
   have h9:=pay_K (3*m) (by omega) w h;rw[show((3*m:Nat):Int)=3*(m:Int) by omega] at h9;exact h9
  have HQ:Hid (F.mem.length+32*m<=65536):=by show _<=_;rw[hq] at hm2;unfold zA at hm2;omega
  have hpf:yt (3*m) F=if F.gas<3*m then none else some ((),{F with gas:=F.gas - 3*m}):=rfl
  by_cases hg:F.gas<3*m
  ·rw[hpf,if_pos hg];simp only[if_pos hg] at HP;clear h hq hpf;go_enter func293,ntmps293;go_wp2_with fail
   refine(HS.out _).mono ?_;rintro e w1 ⟨rfl,rfl⟩;go_wp2_with fail
   refine HP.out.mono ?_;rintro e w2 ⟨⟨u,pv,rfl⟩,hk⟩;exact⟨rfl,⟨⟨_,_,rfl⟩,hk⟩,fun h=>absurd rfl h⟩
  ·rw[hpf,if_neg hg];simp only[if_neg hg] at HP;clear h hq hpf;go_enter func293,ntmps293;go_wp2_with fail
   refine(HS.out _).mono ?_;rintro e w1 ⟨rfl,rfl⟩;go_wp2_with fail
   refine HP.out.mono ?_;rintro e w2 ⟨rfl,hf1,hk1⟩;have hlen:=HQ.out;obtain⟨v',w3,hrun,hby,hgr,hfr⟩:=zc6 w2 base (32*m) (.slice ad F.mem.length cap) F.mem hf1.me (by omega) (by omega) hf1.hb 26;have hwh:=zfp w2 w3 base (32*m) (.slice ad F.mem.length cap) v' F.mem hf1.me (by omega) (by omega) 26 hrun;rw[show((32*m:Nat):Int)=32*(m:Int) by omega] at hrun;obtain⟨g',cap',rfl,hg1,hg2,hg3⟩:=zI hby (by simp;omega);have hc2:w2.cell? ⟨fb,20,none⟩=some (.slice ad F.mem.length cap):=hf1.row.cell (i:=20) (by decide);have hkb:Kb (Value.slice ad F.mem.length cap).ownBlock.toList w2 w3:=(Kb.refl _ _).grown hgr (fun k hk=>Or.inl (by rw[hk];simp));have hni:fb∉(Value.slice ad F.mem.length cap).ownBlock.toList:=fun hm=>hf1.fm fb (by simpa using hm) rfl
   have hro3:=hkb.row hf1.row hni;have hc3:w3.cell? ⟨fb,20,none⟩=some (.slice ad F.mem.length cap):=hro3.cell (i:=20) (by decide);have hz3:=hro3.frozen 20
   have HOL3:Hid (Old (.slice ad F.mem.length cap) F.mem w3):=by
    rcases hwh with e|e
    ·intro g len cp e2;injection e2 with e3 e4 e5
     subst e3;obtain rfl:g'=g:=by simpa[Value.ownBlock] using e
     exact Old.of (m':=List.replicate (32*m) 0) hby g' _ _ rfl
    ·exact(Old.me hf1).kb e (by simp)
   have HR3:=zb hro3;have HBY:=zb hby;have HFR:=zb hfr;have HKB:=zb hkb;have HF1:=zb hf1;have HK1:=zb hk1;have HRUN:=zb hrun;have HNI:=zb hni;clear hro3 hby hfr hkb hf1 hk1 hrun hgr hni HP HS hm2 hg1 hg2 hg3 hwh;go_wp2_with (at_builtin;refine Lib.wpList_append_run _ rfl _ _ _ _ rfl _ _ rfl rfl _ _ HRUN.out ?_)
   go_end0;have e:(F.mem++List.replicate (32*m) (0:UInt8)).length=F.mem.length+32*m:=by simp
   have hby:=HBY.out;have hfr:=HFR.out;rw[e] at hby hfr;refine⟨⟨rfl,To.pre HK1.out (fun k hk=>Or.inl hk) (HF1.out.memory (by rw[e];exact hlen) (by rw[e];have:=HF1.out.m32;show(F.mem.length+32*m)%32=0;have h2:F.mem.length%32=0:=this;omega) (yR hby (zJ HR3.out hby tB) _ _) hfr (Up.mk' _ HKB.out HNI.out HF1.out.row.lt))⟩,fun _=>HOL3.out.kb ((Kb.refl [fb] w3).setCell (p:=⟨fb,20,none⟩) (Or.inl (by simp)) _) (fun k hk hm=>HNI.out (by rw[<-List.mem_singleton.1 hm,hk];simp))⟩
theorem reach_K {base fb:Nat} {F:Fz} {S:List Nat} {sv mv:Value} (p n:Nat) (w:World) (h:Fr base fb F S sv mv w):
  Calls prog 288 #[.pointer (some ⟨fb,0,none⟩),wv p,wv n] w fun e w'=>Out (zl p n F) zen base fb S w e w'/\(zl p n F≠none->Old mv F.mem w'):=by
 have HOLD:=zb (Old.me h);have hez:=Z8 n;have hs:=W2.start w p n;have hf2:=h.below hs.be;obtain⟨z0,z1,z2,z3⟩:_/\_/\_/\_:=⟨hf2.zr 0 (by omega),hf2.zr 1 (by omega),hf2.zr 2 (by omega),hf2.zr 3 (by omega)⟩;unfold zl;by_cases hn:n%M=0
 ·rw[if_pos hn];rw[zae hn] at hez;have HT:Hid (To base fb F S w ((w.alloc (wc p)).alloc (wc n))):=⟨S,sv,mv,hf2,Kb.of_below hs.be,fun k hk=>Or.inl hk⟩;have HBW:=zb hs.be;clear hf2 hs h hn;go_enter func288,ntmps288;go_wp2;go_ret2;exact⟨⟨rfl,HT.out⟩,fun _=>HOLD.out.below HBW.out⟩
 ·rw[if_neg hn];rw[Yv hn] at hez;by_cases hsp:yz p n 65536
  ·rw[if_pos hsp];have hsi:=zhy p n 65536 (by omega) hsp;have hsle:p%M+n%M<=65536:=hsp.2.2;obtain⟨q,HQ⟩:∃q:Nat,Hid (q=p%M):=⟨_,rfl⟩;obtain⟨m,HM⟩:∃m:Nat,Hid (m=n%M):=⟨_,rfl⟩;have HSP:Hid (∀w,Calls prog 286 #[wv p,wv n,.int .i64 65536] w fun e w'=>e=.returned (.tuple #[.int .i64 (q:Int),.int .i64 (m:Int),.bool true])/\Below w.heap.size w w'):=fun w=>(hsi w).mono fun e w' ⟨q',m',h1,h2,h3,h4⟩=>⟨by rw[h3,h1.out,h2.out,HQ.out,HM.out],h4⟩
   rw[<-HQ.out,<-HM.out] at hsle⊢;have HF:=zb h;have HS:=zb hs
   have HST:Hid (∀w,Calls prog 287 #[.int .i64 ((q:Int)+(m:Int))] w fun e w'=>e=.returned (.int .i64 ((zA (q+m):Nat):Int))/\w'=w):=fun w=>by
    have h9:=zab (q+m) (by omega) w;rw[show((q+m:Nat):Int)=(q:Int)+(m:Int) by omega] at h9;exact h9
   have HG:Hid (∀w1,Below w.heap.size w w1->Calls prog 293 #[.pointer (some ⟨fb,0,none⟩),.int .i64 ((zA (q+m):Nat):Int)] w1 fun e w'=>Out (yc (zA (q+m)) F) zy base fb S w1 e w'/\(yc (zA (q+m)) F≠none->Old mv F.mem w')):=fun w1 hb=>grow_K (zA (q+m)) (by unfold zA;omega) w1 (HF.out.below hb)
   generalize zA (q+m)=t at*;clear hf2 hs h hn hsp hsi HQ HM;cases hg:yc t F with
   |none=>
    rw[hg] at HG;show Calls _ _ _ _ (fun e w'=>Out none zen base fb S w e w'/\((none:Option ((Nat×Nat)×Fz))≠none->Old mv F.mem w'));go_enter func288,ntmps288;go_wp2_with fail
    refine(HSP.out _).mono ?_;rintro e w1 ⟨rfl,hb1⟩;have HBE:=zb (HS.out.call hb1).be;clear hb1;go_wp2_with fail
    refine(HST.out _).mono ?_;rintro e w2 ⟨rfl,rfl⟩;go_wp2_with fail
    refine(HG.out _ HBE.out).mono ?_;rintro e w3 ⟨⟨⟨u,pv,rfl⟩,hk⟩,_⟩;exact⟨rfl,⟨⟨_,_,rfl⟩,(Kb.of_below HBE.out).trans hk (fun i hi=>Or.inl hi)⟩,fun h=>absurd rfl h⟩
   |some r=>
    obtain⟨u,F1⟩:=r;rw[hg] at HG;show Calls _ _ _ _ (fun e w'=>Out (some ((q,m),F1)) zen base fb S w e w'/\(some ((q,m),F1)≠none->Old mv F.mem w'));go_enter func288,ntmps288;go_wp2_with fail
    refine(HSP.out _).mono ?_;rintro e w1 ⟨rfl,hb1⟩;have HBE:=zb (HS.out.call hb1).be;clear hb1;go_wp2_with fail
    refine(HST.out _).mono ?_;rintro e w2 ⟨rfl,rfl⟩;go_wp2_with fail
    refine(HG.out _ HBE.out).mono ?_;rintro e w3 ⟨⟨rfl,hto⟩,hol⟩;have HOL:=zb (hol (by simp));have HTO:=zb (To.pre (Kb.of_below HBE.out) (fun k hk=>Or.inl hk) hto);clear hto hol;go_wp2;go_ret2;exact⟨⟨rfl,HTO.out⟩,fun _=>HOL.out⟩
  ·rw[if_neg hsp];have HSP:=zb (zfc p n 65536 (by omega) hsp);have HS:=zb hs;clear hf2 hs h hn hsp;go_enter func288,ntmps288;go_wp2_with fail
   refine(HSP.out _).mono ?_;rintro e w1 ⟨rfl,hb1⟩;have HBE:=zb (HS.out.call hb1).be;clear hb1;go_wp2;exact⟨rfl,⟨⟨_,_,rfl⟩,Kb.of_below HBE.out⟩,fun h=>absurd rfl h⟩
theorem zpI {base fb:Nat} {F:Fz} {S:List Nat} {sv mv:Value} (p n:Nat) (w:World) (h:Fr base fb F S sv mv w):
  Calls prog 275 #[.pointer (some ⟨fb,0,none⟩),wv p,wv n] w fun e w'=>OutP (zl p n F) base fb S w e w'/\(zl p n F≠none->Old mv F.mem w'):=by
 have hs:=W2.start w p n;have HR:=zb (reach_K p n _ (h.below hs.be));have HBE:=zb hs.be;have h32:=h.m32;clear hs h;cases hr:zl p n F with
 |none=>
  rw[hr] at HR;clear hr;go_enter func275,ntmps275;go_wp2_with fail
  refine HR.out.mono ?_;rintro e w1 ⟨⟨⟨u,pv,rfl⟩,hk⟩,_⟩;exact⟨rfl,⟨⟨_,_,rfl⟩,(Kb.of_below HBE.out).trans hk (fun i hi=>Or.inl hi)⟩,fun h=>absurd rfl h⟩
 |some r=>
  obtain⟨⟨a,b⟩,F1⟩:=r;have HL:=zb (yg hr h32);rw[hr] at HR;clear hr;go_enter func275,ntmps275;go_wp2_with fail
  refine HR.out.mono ?_;rintro e w1 ⟨⟨rfl,S1,sv1,mv1,hf1,hk1,hs1⟩,hol⟩;have HOL:=zb (hol (by simp));clear hol;obtain⟨ad1,cap1,rfl⟩:=zS hf1.me
  have hcap:F1.mem.length<=cap1:=by
   rcases hf1.me.2 with⟨h1,h2⟩|⟨g,cap,cur,h1,_,_,h4,_⟩
   ·omega
   ·injection h1 with _ _ h5
    omega
  have hmel:=hf1.mel;have hc1:w1.cell? ⟨fb,20,none⟩=some (.slice ad1 F1.mem.length cap1):=hf1.row.cell (i:=20) (by decide);have hle:=HL.out;have HF1:=zb hf1;have HK:=zb ((Kb.of_below (S:=S) HBE.out).trans hk1 (fun i hi=>Or.inl hi));have HS1:Hid (∀k∈S1,k∈S\/w.heap.size<=k):=fun k hk=>(hs1 k hk).imp id (fun h=>Nat.le_trans HBE.out.size h)
  have HNIL:Hid (ad1=none->cap1=0):=fun e=>by
   rcases hf1.me.2 with⟨h1,h2⟩|⟨g,cap,cur,h1,_⟩
   ·injection h1
   ·rw[e] at h1;injection h1 with h1;cases h1
  clear hf1 hk1 hs1 HR;unfold zen;go_wp2
  ·go_ret;refine⟨⟨_,S1,sv1,_,rfl,HF1.out,HK.out,HS1.out,_,_,rfl,by omega,fun hb=>absurd hb (by omega)⟩,by first|exact HOL.out|exact fun _=>HOL.out⟩
  ·go_ret;refine⟨⟨_,S1,sv1,_,rfl,HF1.out,HK.out,HS1.out,_,_,rfl,by show b<=cap1 - a;omega,fun hb=> ?_⟩,by first|exact HOL.out|exact fun _=>HOL.out⟩;obtain⟨g,cap',e1,_⟩:=zI HF1.out.me (by show F1.mem.length≠0;simp at hb;omega);injection e1 with e1 e2 e3
   subst e1;exact⟨g,F1.mem.length,cap1,rfl,by simp[Addr.add];exact fun h=>h.symm,hle⟩
theorem pay_B {base fb:Nat} {F:Fz} {S:List Nat} {sv mv:Value} (c:Nat) (hc:c<=100000000) (w:World) (h:Fr base fb F S sv mv w):
  Calls prog 204 #[.pointer (some ⟨fb,0,none⟩),.int .i64 (c:Int)] w fun e w'=>if F.gas<c then Pan e/\Kb [] w w' else e=.returned (.tuple #[])/\Fr base fb {F with gas:=F.gas - c} S sv mv w'/\Kb [fb] w w':=by
 have hg:=h.row.cell (i:=16) (by decide);have hz:=h.row.frozen 16;rw[show F.cell sv mv 16=.int .i64 (F.gas:Int) from rfl] at hg;have hgl:=h.gal;by_cases hl:F.gas<c
 ·have d:decide ((F.gas:Int)<(c:Int))=true:=decide_eq_true (by omega);simp only[if_pos hl];go_enter func204,ntmps204;go_wp2;exact⟨rfl,⟨_,_,rfl⟩,Kb.refl _ _⟩
 ·have d:decide ((F.gas:Int)<(c:Int))=false:=decide_eq_false (by omega);simp only[if_neg hl];have HH:=zb h;clear h;go_enter func204,ntmps204;go_wp2;go_end0;have hkb:=((Kb.refl [fb] w).setCell (p:=⟨fb,16,none⟩) (Or.inl (by simp)) (.int .i64 ((F.gas:Int) - (c:Int))));refine⟨rfl,(HH.out.own2 (F':={F with gas:=F.gas - c}) rfl rfl rfl rfl (by show F.gas - c<=_;omega) ?_ hkb).1,hkb⟩;rw[<-zak F sv mv (F.gas - c)];refine(HH.out.row.set 16 _).congr fun i hi=> ?_
  by_cases hi2:i=16
  ·rw[if_pos hi2,if_pos hi2,show((F.gas - c:Nat):Int)=(F.gas:Int) - (c:Int) by omega]
  ·rw[if_neg hi2,if_neg hi2]
theorem PartOf.old {w:World} {mv v:Value} {m:List UInt8} {a b:Nat} (h:PartOf mv v a b) (hm:Old mv m w) (hl:a+b<=m.length):Rds w v (zL m a b):=by
 obtain⟨ad,c,rfl,hbc,hp⟩:=h;have hlen:=zdK hl;refine⟨ad,c,by rw[hlen],by rw[hlen];exact hbc,fun hne=> ?_⟩;obtain⟨g,len,cap,e,rfl,hle⟩:=hp (fun h=>hne (List.eq_nil_of_length_eq_zero (by rw[hlen];exact h)));obtain⟨h1,h2⟩:=hm g len cap e;refine⟨g,a,rfl,h1,fun i hi=> ?_⟩;rw[hlen] at hi;have h3:=zg3 hl hi;rw[List.getElem?_eq_getElem (by rw[hlen];exact hi),List.getElem?_eq_getElem (by omega)] at h3;rw[h2 (a+i) (by omega),<-Option.some.inj h3]
def YV (t f n:Nat) (F:Fz):Option (Unit×Fz):=match zl f n F with
 |none=>none
 |some ((a,b),F1)=>match zl t n F1 with
  |none=>none
  |some ((a2,b2),F2)=>if F2.gas<3*zA b then none else some ((),{F2 with gas:=F2.gas - 3*zA b,mem:=splice F2.mem a2 (zL F1.mem a b)})
def ye (F:Fz):Option (Unit×Fz):=by3 F (YV (zY F) (Ze F) (zcB F) (zaR F))
theorem zip {base fb:Nat} {F:Fz} {S:List Nat} {sv mv:Value} (w:World) (h:Fr base fb F S sv mv w):
  Calls prog 272 #[.pointer (some ⟨fb,0,none⟩)] w (Out (ye F) zy base fb S w):=by
 go_enter func272,ntmps272;go_wp2;refine pops3 _ _ h rfl rfl rfl rfl ?_ ?_
 ·intro u pv s x hno hd hk;have e:ye F=none:=zfI hno;rw[e];exact⟨hd,⟨_,_,rfl⟩,hk⟩
 ·intro x S' sv' mv' b0 b1 b2 hfr hkb hsub hn0 hg0 hr0 hn1 hg1 hr1 hn2 hg2 hr2;have HE:=zb (zkU (r:=YV (zY F) (Ze F) (zcB F) (zaR F)) hfr);change Hid (ye F=_) at HE;change Fr base fb (zaR F) S' sv' mv' x at hfr;change Za x b0 (zY F) at hr0;change Za x b1 (Ze F) at hr1;change Za x b2 (zcB F) at hr2;simp only[zF,List.foldl_cons,List.foldl_nil,Act.put];generalize zaR F=F2 at*;generalize zY F=p at*;generalize Ze F=q at*;generalize zcB F=r at*;generalize ye F=R at*;have HJ:=zb (zpI q r x hfr);have hfoot:=hfr.footlt;have h32:=hfr.m32;obtain⟨d0,d1,d2,d3⟩:=ze hr1;obtain⟨e0,e1,e2,e3⟩:=ze hr2;have HKB:=zb hkb;have HSU:=zb hsub;have HR0:=zb hr0;have HR2:=zb hr2;unfold YV at HE;clear hfr hkb hsub hr0 hr1 hr2 h;go_wp2_with fail
  refine HJ.out.mono ?_;rintro e y ⟨ho, -⟩;cases hq:zl q r F2 with
  |none=>
   rw[hq] at ho HE;obtain⟨⟨u,pv,rfl⟩,hk⟩:=ho;have e:R=none:=HE.out;rw[e];exact⟨rfl,⟨_,_,rfl⟩,HKB.out.trans hk HSU.out⟩
  |some z=>
   obtain⟨⟨a,b⟩,F3⟩:=z;rw[hq] at ho HE;obtain⟨v,S3,sv3,mv3,rfl,hf3,hk3,hs3,hpo⟩:=ho;have hr0:=hk3.row HR0.out hn0;have hr2:=hk3.row HR2.out hn2;have HB:=zb (zbE hq);have hlen:=yg hq h32;have h033:b0∉S3:=fun hm=>(hs3 b0 hm).elim hn0 (fun h=>by have:=HR0.out.lt;omega)
   have h232:b2∉S3:=fun hm=>(hs3 b2 hm).elim hn2 (fun h=>by have:=HR2.out.lt;omega)
   have hkS:Kb S w y:=HKB.out.trans hk3 HSU.out;have hsS:∀k∈S3,k∈S\/w.heap.size<=k:=fun k hk=>(hs3 k hk).elim (HSU.out k) (fun h=>Or.inr (Nat.le_trans HKB.out.size h))
   have HJ2:=zb (zpI p r y hf3);have h323:=hf3.m32;have hml:=hf3.mel;have hfm:=hf3.fm;obtain⟨adv,cv,rfl,hpo2⟩:=hpo;have HPO:Hid (PartOf mv3 (.slice adv b cv) a b):=⟨adv,cv,rfl,hpo2⟩;obtain⟨g0,g1,g2,g3⟩:=ze hr0;obtain⟨k0,k1,k2,k3⟩:=ze hr2;have HKS:=zb hkS;have HSS:=zb hsS;have HFM:=zb hfm;clear hpo2 hf3 hk3 hs3 hr0 hr2 HJ hkS hsS hq hfm;go_wp2_with fail
   refine HJ2.out.mono ?_;rintro e y2 ⟨ho,hol⟩;cases hq2:zl p r F3 with
   |none=>
    rw[hq2] at ho;obtain⟨⟨u,pv,rfl⟩,hk⟩:=ho;have e:R=none:=by rw[HE.out];simp only[hq2]
    rw[e];exact⟨rfl,⟨_,_,rfl⟩,HKS.out.trans hk HSS.out⟩
   |some z2=>
    obtain⟨⟨a2,b2'⟩,F4⟩:=z2;rw[hq2] at ho hol;have hol:=hol (by simp);obtain⟨v2,S4,sv4,mv4,rfl,hf4,hk4,hs4,hpo4⟩:=ho;have HE2:Hid (R=if F4.gas<3*zA b then none else some ((),{F4 with gas:=F4.gas - 3*zA b,mem:=splice F4.mem a2 (zL F3.mem a b)})):=by show _=_;rw[HE.out];simp only[hq2]
    have hb2:b2'=b:=by rw[zbE hq2,HB.out]
    subst hb2;have hlen4:=yg hq2 h323;have hmel4:=hf4.mel;have hb16:b2'<=65536:=by omega
    have HST:Hid (∀w,Calls prog 287 #[.int .i64 (b2':Int)] w fun e w'=>e=.returned (.int .i64 ((zA b2':Nat):Int))/\w'=w):=fun w=>zab b2' (by omega) w
    have hsb:zA b2'<=3000:=by unfold zA;omega
    have HPY:=zb (pay_B (3*zA b2') (by omega) y2 hf4);rw[show((3*zA b2':Nat):Int)=3*(zA b2':Int) by omega] at HPY;obtain⟨adw,cw,rfl,hpw2⟩:=hpo4;have HPW:Hid (PartOf mv4 (.slice adw b2' cw) a2 b2'):=⟨adw,cw,rfl,hpw2⟩;have HK4:=zb (HKS.out.trans hk4 HSS.out);have HS4:Hid (∀k∈S4,k∈S\/w.heap.size<=k):=fun k hk=>(hs4 k hk).elim (HSS.out k) (fun h=>Or.inr (Nat.le_trans HKS.out.size h))
    have HOL:=zb hol;have HFB:Hid (fb∈S4):=by show fb∈S4;rw[hf4.foot];simp
    generalize zA b2'=sb at*;clear hf4 hk4 hs4 hpw2 hol HJ2 hq2 HE g0 g1 g2 g3 k0 k1 k2 k3 d0 d1 d2 d3 e0 e1 e2 e3;go_wp2_with fail
    refine(HST.out _).mono ?_;rintro e y3 ⟨rfl,hy3⟩;obtain rfl:=hy3.symm;go_wp2_with fail
    refine HPY.out.mono ?_;intro e y5 hpay;by_cases hg:F4.gas<3*sb
    ·rw[if_pos hg] at hpay;obtain⟨⟨u,pv,rfl⟩,hk⟩:=hpay;have e:R=none:=HE2.out.trans (if_pos hg);rw[e];exact⟨rfl,⟨_,_,rfl⟩,HK4.out.trans hk (by simp)⟩
    ·rw[if_neg hg] at hpay;obtain⟨rfl,hf5,hk5⟩:=hpay;have e:R=some ((),{F4 with gas:=F4.gas - 3*sb,mem:=splice F4.mem a2 (zL F3.mem a b2')}):=HE2.out.trans (if_neg hg);have hol5:=HOL.out.kb hk5 (fun k hk hm=>HFM.out k hk (List.mem_singleton.1 hm));have hrd:=HPO.out.old hol5 hlen;obtain⟨x',hrun,hf6,hk6⟩:=zf9 hf5 HPW.out hrd (by unfold zL;rw[List.length_take,List.length_drop];omega) 3
     have HO:Hid (Out R zy base fb S w (.returned (.tuple #[])) x'):=by
      show Out _ _ _ _ _ _ _ _;rw[e];refine⟨rfl,S4,sv4,mv4,hf6,(HK4.out.trans hk5 (fun i hi=> ?_)).trans hk6 HS4.out,HS4.out⟩;rw[List.mem_singleton.1 hi];exact HS4.out fb HFB.out
     have HRUN:=zb hrun;clear hol5 hrd hf5 hk5 hf6 hk6 hrun HPY HST e;have hrun:=HRUN.out;go_wp2;go_end0;exact HO.out
section
open Go.Maps
section
variable {s:Act} {x:World} {pos:String} {af:Array Edge} {g:Option (Nat×Bool)} {K:Act->World->Prop} {Q:Exit->Act->World->Prop}
theorem zgk {kd a key t0 t1 t2 d:Nat} {ty:TypeId} (e0:s.tmps.getD t0 undef=.int .i64 (kd:Int)) (e1:s.tmps.getD t1 undef=wv a) (e2:s.tmps.getD t2 undef=wv key) (hK:K (s.put (some d) (ZT kd a key)) x):
  Oper.wp prog ⟨some d,.build 217 #[(0,.tmp t0),(1,.tmp t1),(2,.tmp t2)],ty,pos,af,g⟩ s x K Q:=by
 have f0:s.eval (.tmp t0)=.int .i64 (kd:Int):=e0;have f1:s.eval (.tmp t1)=wv a:=e1;have f2:s.eval (.tmp t2)=wv key:=e2;have g0:s.tmps[t0]?.getD undef=.int .i64 (kd:Int):=by rw[<-Array.getD_eq_getD_getElem?];exact e0
 have g1:s.tmps[t1]?.getD undef=wv a:=by rw[<-Array.getD_eq_getD_getElem?];exact e1
 have g2:s.tmps[t2]?.getD undef=wv key:=by rw[<-Array.getD_eq_getD_getElem?];exact e2
 go_simp;exact hK
end
theorem load_r0 {base fb:Nat} {F:Fz} {S:List Nat} {sv mv:Value} {Q:Exit->Act->World->Prop} (a:Act) (w:World) {tb kd r:Nat} {T:TS} {V:TV} (htr:Tr base tb T V w) (hptr:F.trail=.pointer (some ⟨tb,0,none⟩)) (hdis:∀k∈S,¬zG tb T V k) (hno:0∉S) (hget:∀x,Tr base tb T V x->Calls prog 202 #[.pointer (some ⟨tb,0,none⟩),ZT kd F.self (zC (zi (F)))] x fun e w'=>e=.returned (wv r)/\Below x.heap.size x w') (h:Fr base fb F S sv mv w) (hsz:([4,5,6,7,8,9,10,11,12,13,14,15,16,17,18,19,20,21,22]:List Nat).all (fun d=>decide (d<a.tmps.size))=true) (c1:a.tmps.getD 1 undef=.int .i64 (kd:Int)) (c0:a.tmps.getD 0 undef=.pointer (some ⟨fb,0,none⟩))
  (hpan:∀u pv s x,(zi (F)=none\/zm (r) (zh (zi (F)))=none)->s.defers=a.defers->Kb S w x->Q (.panic [{v:=.iface u pv,recovered:=false}]) s x)
  (hok:∀(x:World) (S':List Nat) (sv' mv':Value),Fr base fb (zh (zm (r) (zh (zi (F))))) S' sv' mv' x->Kb S w x->(∀j∈S',j∈S\/w.heap.size<=j)->Q .normal (zF a [(4,.pointer (some ⟨fb,0,none⟩)),(5,.pointer (some ⟨fb,0,none⟩)),(6,.pointer (some ⟨fb,19,none⟩)),(7,.pointer (some ⟨fb,0,none⟩)),(8,.pointer (some ⟨fb,0,none⟩)),(9,.pointer (some ⟨fb,0,none⟩)),(10,F.trail),(11,.int .i64 (kd:Int)),(12,.pointer (some ⟨fb,0,none⟩)),(13,.pointer (some ⟨fb,0,none⟩)),(14,.pointer (some ⟨fb,3,none⟩)),(15,wv (F.self)),(16,.pointer (some ⟨fb,0,none⟩)),(17,.pointer (some ⟨fb,0,none⟩)),(18,.pointer (some ⟨fb,19,none⟩)),(19,wv (zC (zi (F)))),(20,ZT kd F.self (zC (zi (F)))),(21,wv (r)),(22,Value.tuple #[])]) x):
  (Code.region 0 #[⟨some 4,.move (.tmp 0),132,"instructions.go:95",#[],none⟩,⟨some 5,.nilCheck (.tmp 4),0,"instructions.go:95",#[⟨0,.data⟩],none⟩,⟨some 6,.fieldAddr 137 (.tmp 5) 10,0,"instructions.go:95",#[⟨1,.data⟩],none⟩,⟨some 7,.move (.tmp 0),132,"instructions.go:95",#[],none⟩,⟨some 8,.nilCheck (.tmp 7),0,"instructions.go:95",#[⟨3,.data⟩],none⟩,⟨some 9,.fieldAddr 137 (.tmp 8) 0,0,"instructions.go:95",#[⟨4,.data⟩],none⟩,⟨some 10,.load 96 (.tmp 9),96,"instructions.go:95",#[⟨5,.data⟩],none⟩,⟨some 11,.move (.tmp 1),215,"instructions.go:95",#[],none⟩,⟨some 12,.move (.tmp 0),132,"instructions.go:95",#[],none⟩,⟨some 13,.nilCheck (.tmp 12),0,"instructions.go:95",#[⟨8,.data⟩],none⟩,⟨some 14,.fieldAddr 137 (.tmp 13) 3,0,"instructions.go:95",#[⟨9,.data⟩],none⟩,⟨some 15,.load 24 (.tmp 14),24,"instructions.go:95",#[⟨10,.data⟩],none⟩,⟨some 16,.move (.tmp 0),132,"instructions.go:95",#[],none⟩,⟨some 17,.nilCheck (.tmp 16),0,"instructions.go:95",#[⟨12,.data⟩],none⟩,⟨some 18,.fieldAddr 137 (.tmp 17) 10,0,"instructions.go:95",#[⟨13,.data⟩],none⟩,⟨some 19,.call ⟨.value (.func 257),#[.tmp 18],#[135]⟩,24,"instructions.go:95",#[⟨14,.data⟩],none⟩,⟨some 20,.build 217 #[(0,.tmp 11),(1,.tmp 15),(2,.tmp 19)],217,"instructions.go:95",#[⟨7,.data⟩,⟨11,.data⟩,⟨15,.data⟩],none⟩,⟨some 21,.call ⟨.value (.func 202),#[.tmp 10,.tmp 20],#[96,217]⟩,24,"instructions.go:95",#[⟨6,.data⟩,⟨16,.data⟩,⟨15,.chain⟩],none⟩,⟨some 22,.call ⟨.value (.func 259),#[.tmp 6,.tmp 21],#[135,24]⟩,0,"instructions.go:95",#[⟨2,.data⟩,⟨17,.data⟩,⟨17,.chain⟩],none⟩] true).wp prog Q a w:=by
 have hsame:∀k:Nat,100000<((fun k=>match k with|0=>F|1=>zh (zi (F))|_=>zh (zm (r) (zh (zi (F))))) k).gas\/Same F ((fun k=>match k with|0=>F|1=>zh (zi (F))|_=>zh (zm (r) (zh (zi (F))))) k):=by
  intro k;have s0:100000<(F).gas\/Same F F:=Or.inr (Same.refl F);have s1:=Zn s0;have s2:=ZW s1 (r)
  match k with
  |0=>exact s0
  |1=>exact s1
  |_+2=>exact s2
 exact ZA (fun k=>match k with|0=>F|1=>zh (zi (F))|_=>zh (zm (r) (zh (zi (F))))) h [(1,.int .i64 (kd:Int)),(0,.pointer (some ⟨fb,0,none⟩))] [(some 4,.v (.pointer (some ⟨fb,0,none⟩))),(some 5,.v (.pointer (some ⟨fb,0,none⟩))),(some 6,.v (.pointer (some ⟨fb,19,none⟩))),(some 7,.v (.pointer (some ⟨fb,0,none⟩))),(some 8,.v (.pointer (some ⟨fb,0,none⟩))),(some 9,.v (.pointer (some ⟨fb,0,none⟩))),(some 10,.v (F.trail)),(some 11,.v (.int .i64 (kd:Int))),(some 12,.v (.pointer (some ⟨fb,0,none⟩))),(some 13,.v (.pointer (some ⟨fb,0,none⟩))),(some 14,.v (.pointer (some ⟨fb,3,none⟩))),(some 15,.v (wv (F.self))),(some 16,.v (.pointer (some ⟨fb,0,none⟩))),(some 17,.v (.pointer (some ⟨fb,0,none⟩))),(some 18,.v (.pointer (some ⟨fb,19,none⟩))),(some 19,.v (wv (zC (zi (F))))),(some 20,.v (ZT kd F.self (zC (zi (F))))),(some 21,.v (wv (r))),(some 22,.v (Value.tuple #[]))] [15,18] [6,11,16,17] (by kernel_rfl) hsz (Zi c1 (Zi c0 rfl)) (by kernel_rfl) trivial
  (zf _ _ _ rfl rfl (fun s x S1 sv1 mv1 hfr hkb hsub hdf hv hl K hK=>zbK (r:=zi (F)) (val:=wv) YX (ev1 (hv 18 _ rfl)) (Yg x hfr) rfl (fun _ _ e=>by rw[e];rfl) (fun hrn u pv x' hk=>hpan u pv s x' (Or.inl hrn) hdf (hkb.trans hk hsub)) hK)
  (zf _ _ _ rfl rfl (fun s x S1 sv1 mv1 hfr hkb hsub hdf hv hl K hK=>zbK (r:=zm (r) (zh (zi (F)))) (val:=zy) zbx (ev2 (hv 6 _ rfl) (hv 21 _ rfl)) (yi (r) x hfr) rfl (fun _ _ _=>rfl) (fun hrn u pv x' hk=>hpan u pv s x' (Or.inr hrn) hdf (hkb.trans hk hsub)) hK)
  True.intro))
  (zf _ _ _ rfl rfl (fun s x k S1 sv1 mv1 hfr hkb hkp hv hl K hK=>by
    rcases hsame k with hbd|hsm
    ·exact absurd hfr.gal (Nat.not_le.2 hbd)
    ·have e:=hsm.trail;exact zv (v:=F.trail) (fun w=>by kernel_rfl) (hv 9 _ rfl) ((hfr.row.cell (i:=0) (by decide)).trans (congrArg (fun z=>some z) e)) (hK _ x (Below.refl _ _) nn1 rfl))
  (zf _ _ _ rfl rfl (fun s x k S1 sv1 mv1 hfr hkb hkp hv hl K hK=>by
    rcases hsame k with hbd|hsm
    ·exact absurd hfr.gal (Nat.not_le.2 hbd)
    ·have e:=hsm.self;exact zD (n:=F.self) (hv 14 _ rfl) ((hfr.row.cell (i:=3) (by decide)).trans (congrArg (fun z=>some (Value.int .u64 (za z 0))) e)) ((hfr.row.cell (i:=4) (by decide)).trans (congrArg (fun z=>some (Value.int .u64 (za z 1))) e)) ((hfr.row.cell (i:=5) (by decide)).trans (congrArg (fun z=>some (Value.int .u64 (za z 2))) e)) ((hfr.row.cell (i:=6) (by decide)).trans (congrArg (fun z=>some (Value.int .u64 (za z 3))) e)) (hK _ x (Below.refl _ _) nn1 rfl))
  (zf _ _ _ rfl rfl (fun s x k S1 sv1 mv1 hfr hkb hkp hv hl K hK=>zgk (hv 11 _ rfl) (hv 15 _ rfl) (hv 19 _ rfl) (hK _ x (Below.refl _ _) nn1 rfl))
  (zf _ _ _ rfl rfl (fun s x k S1 sv1 mv1 hfr hkb hkp hv hl K hK=>ZK zmp (ev2 (((hv 10 _ rfl)).trans hptr) (hv 20 _ rfl)) (hget x (htr.kb hkb hdis hno)) (fun e y h9=>⟨_,h9.1,hK _ y h9.2 nn1 rfl⟩))
  True.intro))))
  fun g x S' sv' mv' hfr hkb hsub hT=>hok x S' sv' mv' hfr hkb hsub
end
section
open Go.Maps
def PhO (R:World->Prop) (w:World):Nat->World->Prop
 |0,x=>Below w.heap.size w x
 |_,x=>R x
theorem Yk {R:World->Prop} {w x:World} {k:Nat} (h:PhO R w k x) (hk:k<=0):Below w.heap.size w x:=by
 match k,hk,h with
 |0,_,h=>exact h
theorem zoT {fb tb kd self key v bk bv:Nat} {R:World->Prop} {Q:Exit->Act->World->Prop} (a:Act) (w:World) (rk:Za w bk key) (rv:Za w bv v) (hlt:fb<w.heap.size) (htp:w.cell? ⟨fb,0,none⟩=some (.pointer (some ⟨tb,0,none⟩))) (hself:∀x,Below w.heap.size w x->x.cell? ⟨fb,3,none⟩=some (.int .u64 (za self 0))/\x.cell? ⟨fb,4,none⟩=some (.int .u64 (za self 1))/\x.cell? ⟨fb,5,none⟩=some (.int .u64 (za self 2))/\x.cell? ⟨fb,6,none⟩=some (.int .u64 (za self 3))) (hset:∀x,Below w.heap.size w x->Calls prog 154 #[.pointer (some ⟨tb,0,none⟩),.agg #[.int .i64 (kd:Int),.int .u64 (za self 0),.int .u64 (za self 1),.int .u64 (za self 2),.int .u64 (za self 3),.int .u64 (za key 0),.int .u64 (za key 1),.int .u64 (za key 2),.int .u64 (za key 3)],wv v] x fun e w'=>e=.returned (.tuple #[])/\R w') (h0:Below w.heap.size w w.drew) (hsz:([16,17,18,19,20,21,22,23,24,25,26,27,28]:List Nat).all (fun d=>decide (d<a.tmps.size))=true) (c0:a.tmps.getD 0 undef=.pointer (some ⟨fb,0,none⟩)) (c1:a.tmps.getD 1 undef=.int .i64 (kd:Int)) (c4:a.tmps.getD 4 undef=.pointer (some ⟨bk,0,none⟩)) (c5:a.tmps.getD 5 undef=.pointer (some ⟨bv,0,none⟩))
  (hok:∀(x:World),(PhO R w) 1 x->Q .normal (zF a [(16,.pointer (some ⟨fb,0,none⟩)),(17,.pointer (some ⟨fb,0,none⟩)),(18,.pointer (some ⟨fb,0,none⟩)),(19,.pointer (some ⟨tb,0,none⟩)),(20,.int .i64 (kd:Int)),(21,.pointer (some ⟨fb,0,none⟩)),(22,.pointer (some ⟨fb,0,none⟩)),(23,.pointer (some ⟨fb,3,none⟩)),(24,wv self),(25,wv key),(26,.agg #[.int .i64 (kd:Int),.int .u64 (za self 0),.int .u64 (za self 1),.int .u64 (za self 2),.int .u64 (za self 3),.int .u64 (za key 0),.int .u64 (za key 1),.int .u64 (za key 2),.int .u64 (za key 3)]),(27,wv v),(28,Value.tuple #[])]) x):
  (Code.region 2 #[⟨some 16,.move (.tmp 0),132,"instructions.go:101",#[],none⟩,⟨some 17,.nilCheck (.tmp 16),0,"instructions.go:101",#[⟨0,.data⟩],none⟩,⟨some 18,.fieldAddr 137 (.tmp 17) 0,0,"instructions.go:101",#[⟨1,.data⟩],none⟩,⟨some 19,.load 96 (.tmp 18),96,"instructions.go:101",#[⟨2,.data⟩],none⟩,⟨some 20,.move (.tmp 1),215,"instructions.go:101",#[],none⟩,⟨some 21,.move (.tmp 0),132,"instructions.go:101",#[],none⟩,⟨some 22,.nilCheck (.tmp 21),0,"instructions.go:101",#[⟨5,.data⟩],none⟩,⟨some 23,.fieldAddr 137 (.tmp 22) 3,0,"instructions.go:101",#[⟨6,.data⟩],none⟩,⟨some 24,.load 24 (.tmp 23),24,"instructions.go:101",#[⟨7,.data⟩],none⟩,⟨some 25,.load 24 (.tmp 4),24,"instructions.go:101",#[],none⟩,⟨some 26,.build 217 #[(0,.tmp 20),(1,.tmp 24),(2,.tmp 25)],217,"instructions.go:101",#[⟨4,.data⟩,⟨8,.data⟩,⟨9,.data⟩],none⟩,⟨some 27,.load 24 (.tmp 5),24,"instructions.go:101",#[],none⟩,⟨some 28,.call ⟨.value (.func 154),#[.tmp 19,.tmp 26,.tmp 27],#[96,217,24]⟩,0,"instructions.go:101",#[⟨3,.data⟩,⟨10,.data⟩,⟨11,.data⟩],none⟩] true).wp prog Q a w:=by
 refine ZR (PhO R w) (fun _ _ _=>True) [(0,.pointer (some ⟨fb,0,none⟩)),(1,.int .i64 (kd:Int)),(4,.pointer (some ⟨bk,0,none⟩)),(5,.pointer (some ⟨bv,0,none⟩))] [(some 16,.v (.pointer (some ⟨fb,0,none⟩))),(some 17,.v (.pointer (some ⟨fb,0,none⟩))),(some 18,.v (.pointer (some ⟨fb,0,none⟩))),(some 19,.v (.pointer (some ⟨tb,0,none⟩))),(some 20,.v (.int .i64 (kd:Int))),(some 21,.v (.pointer (some ⟨fb,0,none⟩))),(some 22,.v (.pointer (some ⟨fb,0,none⟩))),(some 23,.v (.pointer (some ⟨fb,3,none⟩))),(some 24,.v (wv self)),(some 25,.v (wv key)),(some 26,.v (.agg #[.int .i64 (kd:Int),.int .u64 (za self 0),.int .u64 (za self 1),.int .u64 (za self 2),.int .u64 (za self 3),.int .u64 (za key 0),.int .u64 (za key 1),.int .u64 (za key 2),.int .u64 (za key 3)])),(some 27,.v (wv v)),(some 28,.v (Value.tuple #[]))] [12] [3,8,9,11] (by kernel_rfl) hsz (Zi c0 (Zi c1 (Zi c4 (Zi c5 rfl)))) (by kernel_rfl) h0
  (zf _ _ _ rfl rfl (fun s x hph hdf hv hl K hK=>by
   refine ZK zf1 (ev3 (hv 19 _ rfl) (hv 26 _ rfl) (hv 27 _ rfl)) (hset x hph) ?_;rintro e y ⟨rfl,hR⟩;exact⟨_,rfl,hK _ y hR trivial nn1 rfl⟩
  )
  True.intro)
  (zf _ _ _ rfl rfl (fun k s x hk hlo hhi hph hdf hv hl K hK=>by
   have k0:x.cell? ⟨fb,0,none⟩=some (.pointer (some ⟨tb,0,none⟩)):=((Yk hph (by have:=hhi 0 12 rfl (by kernel_rfl);omega)).cell hlt).trans htp;exact zv (fun w=>by kernel_rfl) (hv 18 _ rfl) k0 (hK _ x rfl nn1 rfl)
  )
  (zf _ _ _ rfl rfl (fun k s x hk hlo hhi hph hdf hv hl K hK=>by
   obtain⟨y0,y1,y2,y3⟩:=hself x (Yk hph (by have:=hhi 0 12 rfl (by kernel_rfl);omega));exact zD (n:=self) (hv 23 _ rfl) y0 y1 y2 y3 (hK _ x rfl nn1 rfl)
  )
  (zf _ _ _ rfl rfl (fun k s x hk hlo hhi hph hdf hv hl K hK=>by
   obtain⟨y0,y1,y2,y3⟩:=ze (zg rk (Yk hph (by have:=hhi 0 12 rfl (by kernel_rfl);omega)));exact zD (n:=key) (hv 4 _ rfl) y0 y1 y2 y3 (hK _ x rfl nn1 rfl)
  )
  (zf _ _ _ rfl rfl (fun k s x hk hlo hhi hph hdf hv hl K hK=>by
   obtain⟨y0,y1,y2,y3⟩:=ze (zg rv (Yk hph (by have:=hhi 0 12 rfl (by kernel_rfl);omega)));exact zD (n:=v) (hv 5 _ rfl) y0 y1 y2 y3 (hK _ x rfl nn1 rfl)
  )
  True.intro))))
  (fun _ _ _ h=>(zu rfl h).elim) ?_
 intro g x hph hT;exact hok x hph
end
section
open Go.Maps
structure FT (base fb tb:Nat) (F:Fz) (T:TS) (S:List Nat) (sv mv:Value) (V:TV) (w:World):Prop where
 fr:Fr base fb F S sv mv w
 tr:Tr base tb T V w
 ptr:F.trail=.pointer (some ⟨tb,0,none⟩)
 dis:∀k∈S,¬zG tb T V k
def KF (S:List Nat) (tb:Nat) (T:TS) (V:TV) (w w':World):Prop:=∃S2,Kb S2 w w'/\∀k∈S2,k∈S\/zG tb T V k
def To2 (base fb tb:Nat) (F':Fz) (T:TS) (T':TS) (V:TV) (S:List Nat) (m:Nat) (w w':World):Prop:=
 ∃S' sv' mv' V',FT base fb tb F' T' S' sv' mv' V' w'/\KF S tb T V w w'/\(∀k∈S',k∈S\/w.heap.size<=k)/\(∀k,zG tb T' V' k->zG tb T V k\/w.heap.size<=k)/\V'.n<=V.n+m/\V'.ab=V.ab
def Out2 (r:Option (Fz×TS)) (base fb tb:Nat) (T:TS) (V:TV) (S:List Nat) (m:Nat) (w:World) (e:Ending) (w':World):Prop:=
 match r with
 |some (F',T')=>e=.returned (.tuple #[])/\To2 base fb tb F' T T' V S m w w'
 |none=>Pan e/\Kb S w w'
theorem FT.below {base fb tb:Nat} {F:Fz} {T:TS} {S:List Nat} {sv mv:Value} {V:TV} {w w':World} (h:FT base fb tb F T S sv mv V w) (hb:Below w.heap.size w w'):FT base fb tb F T S sv mv V w':=⟨h.fr.below hb,h.tr.below hb,h.ptr,h.dis⟩
theorem FT.lift {base fb tb:Nat} {F F':Fz} {T:TS} {S:List Nat} {sv mv:Value} {V:TV} {w w':World} (h:FT base fb tb F T S sv mv V w) (ht:F'.trail=F.trail) (hto:To base fb F' S w w'):To2 base fb tb F' T T V S 0 w w':=by
 obtain⟨S',sv',mv',h1,h2,h3⟩:=hto;refine⟨S',sv',mv',V,⟨h1,h.tr.kb h2 h.dis h.fr.no0,ht.trans h.ptr,fun k hk hf=> ?_⟩,⟨S,h2,fun k hk=>Or.inl hk⟩,h3,fun k hk=>Or.inl hk,Nat.le_refl _,rfl⟩;rcases h3 k hk with e|e
 ·exact h.dis k e hf
 ·have:=h.tr.lt hf;omega
theorem FT.lift' {α:Type} {val:α->Value} {base fb tb:Nat} {F:Fz} {T:TS} {S:List Nat} {sv mv:Value} {V:TV} {w w':World} {e:Ending} {r:Option (Unit×Fz)} (h:FT base fb tb F T S sv mv V w) (ht:∀F',r=some ((),F')->F'.trail=F.trail) (ho:Out r zy base fb S w e w'):Out2 (r.map fun y=>(y.2,T)) base fb tb T V S 0 w e w':=by
 cases r with
 |none=>exact ho
 |some y=>
  obtain⟨⟨⟩,F'⟩:=y;exact⟨ho.1,h.lift (ht F' rfl) ho.2⟩
theorem To2.comp {base fb tb m m':Nat} {F2:Fz} {T T1 T2:TS} {V V1:TV} {S S1:List Nat} {w w1 w2:World} (hS:∀k∈S,k<w.heap.size) (hT:∀k,zG tb T V k->k<w.heap.size) (h2:KF S tb T V w w1) (h3:∀k∈S1,k∈S\/w.heap.size<=k) (h4:∀k,zG tb T1 V1 k->zG tb T V k\/w.heap.size<=k) (h5:V1.n<=V.n+m) (h6:V1.ab=V.ab) (k:To2 base fb tb F2 T1 T2 V1 S1 m' w1 w2):To2 base fb tb F2 T T2 V S (m+m') w w2:=by
 obtain⟨S2,sv2,mv2,V2,k1,⟨Sk,k2,k2'⟩,k3,k4,k5,k6⟩:=k;obtain⟨Sh,h2,h2'⟩:=h2;refine⟨S2,sv2,mv2,V2,k1,⟨Sh++Sk.filter (fun k=>decide (k<w.heap.size)),(h2.mono (fun i hi=>List.mem_append_left _ hi)).trans k2 (fun i hi=> ?_),fun i hi=> ?_⟩,fun i hi=> ?_,fun i hi=> ?_,by omega,k6.trans h6⟩
 ·by_cases hl:i<w.heap.size
  ·exact Or.inl (List.mem_append_right _ (List.mem_filter.2 ⟨hi,by simpa using hl⟩))
  ·exact Or.inr (by omega)
 ·rcases List.mem_append.1 hi with e|e
  ·exact h2' i e
  ·obtain⟨e1,e2⟩:=List.mem_filter.1 e;have e2:i<w.heap.size:=by simpa using e2
   rcases k2' i e1 with e3|e3
   ·rcases h3 i e3 with e4|e4
    ·exact Or.inl e4
    ·omega
   ·rcases h4 i e3 with e4|e4
    ·exact Or.inr e4
    ·omega
 ·rcases k3 i hi with e|e
  ·exact h3 i e
  ·exact Or.inr (Nat.le_trans h2.size e)
 ·rcases k4 i hi with e|e
  ·exact h4 i e
  ·exact Or.inr (Nat.le_trans h2.size e)
def zcn (kd:Nat) (F:Fz) (T:TS):Option (Unit×Fz):=zM (zi F) (zm (zjq T kd F.self (zC (zi F))) (zh (zi F)))
theorem zmL {base fb tb:Nat} {F:Fz} {T:TS} {S:List Nat} {sv mv:Value} {V:TV} (kd:Nat) (w:World) (h:FT base fb tb F T S sv mv V w)
  (hget:∀x,Tr base tb T V x->Calls prog 202 #[.pointer (some ⟨tb,0,none⟩),ZT kd F.self (zC (zi F))] x fun e w'=>e=.returned (wv (zjq T kd F.self (zC (zi F))))/\Below x.heap.size x w'):
  Calls prog 268 #[.pointer (some ⟨fb,0,none⟩),.int .i64 (kd:Int)] w (Out (zcn kd F T) zy base fb S w):=by
 go_enter func268,ntmps268;go_wp2;refine load_r0 _ _ h.tr h.ptr h.dis h.fr.no0 hget h.fr rfl rfl rfl ?_ ?_
 ·intro u pv s x hno hd hk
  have e:zcn kd F T=none:=by
   rcases hno with e|e
   ·exact zq (Or.inl e)
   ·exact zq (Or.inr e)
  rw[e];exact⟨hd,⟨_,_,rfl⟩,hk⟩
 ·intro x S' sv' mv' hfr hkb hsub;have e:zcn kd F T=_:=(zT fun e=>ZS (zcJ (zW e)) hfr).trans (zbk fun e=>ZS (zW e) hfr)
  have HO:Hid (Out (zcn kd F T) zy base fb S w (.returned (.tuple #[])) x):=by
   rw[e];exact⟨rfl,S',sv',mv',hfr,hkb,hsub⟩
  clear e hfr hkb hsub hget h;simp only[zF,List.foldl_cons,List.foldl_nil,Act.put];go_wp2;go_end0;exact HO.out
end
section
open Go.Maps
theorem Tr.no0 {base tb:Nat} {T:TS} {V:TV} {w:World} (h:Tr base tb T V w):¬zG tb T V 0:=by
 have hb1:=h.hb1;rintro(e|e|e|e|e|⟨t,ht,e⟩)
 ·have h1:=h.row.cell (i:=0) (by decide);rw[<-e] at h1;rw[h.zr.1.1] at h1;cases h1
 ·exact zbU h.zr (h.acc.isMap e) rfl
 ·exact zbU h.zr (e▸h.pas.is) rfl
 ·have:=(h.ch.lt 0 e).1;omega
 ·have:=(h.lo.2.1.lt 0 e).1;omega
 ·obtain⟨l,hl⟩:=h.lo.tv ht;have:=(hl.lt 0 e).1;omega
theorem tbT:(4:Nat)≠131:=by decide
theorem tbC:(4:Nat)≠220:=by decide
theorem tbL:(4:Nat)≠112:=by decide
theorem Tr.bno {base tb:Nat} {T:TS} {V:TV} {w:World} (h:Tr base tb T V w) {g N:Nat} {f:Nat->Value} (hr:w.rowIs g 4 N f):¬zG tb T V g:=by
 rintro(e|e|e|e|e|⟨t,ht,e⟩)
 ·exact yW hr h.row tbT e
 ·exact ZN hr (h.acc.isMap e) rfl
 ·exact ZN hr h.pas.is e
 ·exact zJ hr h.ch tbC g e rfl
 ·exact zJ hr h.lo.2.1 tbL g e rfl
 ·obtain⟨l,hl⟩:=h.lo.tv ht;exact zJ hr hl tb1 g e rfl
theorem FT.trail {base fb tb m:Nat} {F:Fz} {T T':TS} {S:List Nat} {sv mv:Value} {V:TV} {w w':World} (h:FT base fb tb F T S sv mv V w) (ht:TTo base tb T V T' m w w'):To2 base fb tb F T T' V S m w w':=by
 obtain⟨V',S2,h1,h2,h3,h4,h5,h6⟩:=ht;refine⟨S,sv,mv,V',⟨h.fr.kb h3 (fun k hk hm=>h.dis k hk (h4 k hm)) (fun hm=>h.tr.no0 (h4 0 hm)) (fun g N f hr hm=>h.tr.bno hr (h4 g hm)),h1,h.ptr,fun k hk hf=> ?_⟩,⟨S2,h3,fun k hk=>Or.inr (h4 k hk)⟩,fun k hk=>Or.inl hk,h5,h2,h6⟩;rcases h5 k hf with e|e
 ·exact h.dis k hk e
 ·have:=h.fr.footlt k hk;omega
theorem FT.next {base fb tb:Nat} {F F':Fz} {T:TS} {S S':List Nat} {sv mv sv' mv':Value} {V:TV} {w w':World} (h:FT base fb tb F T S sv mv V w) (ht:F'.trail=F.trail) (h1:Fr base fb F' S' sv' mv' w') (h2:Kb S w w') (h3:∀k∈S',k∈S\/w.heap.size<=k):FT base fb tb F' T S' sv' mv' V w':=by
 refine⟨h1,h.tr.kb h2 h.dis h.fr.no0,ht.trans h.ptr,fun k hk hf=> ?_⟩;rcases h3 k hk with e|e
 ·exact h.dis k e hf
 ·have:=h.tr.lt hf;omega
theorem FT.foot {base fb tb:Nat} {F:Fz} {T:TS} {S:List Nat} {sv mv:Value} {V:TV} {w:World} (h:FT base fb tb F T S sv mv V w):∀k∈S,k<w.heap.size:=h.fr.footlt
theorem zbD {base fb:Nat} {F:Fz} {S:List Nat} {sv mv:Value} (w:World) (h:Fr base fb F S sv mv w):
  Calls prog 274 #[.pointer (some ⟨fb,0,none⟩)] w fun e w'=>(if F.ro=true then Pan e else e=.returned (.tuple #[]))/\w'=w:=by
 have hg:=h.row.cell (i:=17) (by decide);rw[show F.cell sv mv 17=.bool F.ro from rfl] at hg;clear h;cases hr:F.ro
 ·rw[hr] at hg;go_enter func274,ntmps274;go_wp2;go_end0;exact⟨rfl,rfl⟩
 ·rw[hr] at hg;go_enter func274,ntmps274;go_wp2;exact⟨rfl,⟨_,_,rfl⟩,rfl⟩
def yL (kd:Nat) (F:Fz) (T:TS):Option (Fz×TS):=if F.ro=true then none else(zM (zi F) (zM (zi (zh (zi F))) (some ((),zE F)))).map fun y=>(y.2,Yo T kd F.self (zY F) (Ze F))
theorem zq0 {F:Fz}:100000<(zE F).gas\/Same F (zE F):=Zn (Zn (Or.inr (Same.refl F)))
theorem ziE {base fb tb:Nat} {F:Fz} {T:TS} {S:List Nat} {sv mv:Value} {V:TV} (kd:Nat) (w:World) (h:FT base fb tb F T S sv mv V w)
  (hset:∀key v x,Tr base tb T V x->Calls prog 154 #[.pointer (some ⟨tb,0,none⟩),ZT kd F.self key,wv v] x fun e w'=>e=.returned (.tuple #[])/\TTo base tb T V (Yo T kd F.self key v) 2 x w'):
  Calls prog 269 #[.pointer (some ⟨fb,0,none⟩),.int .i64 (kd:Int)] w (Out2 (yL kd F T) base fb tb T V S 2 w):=by
 have HM:=zb (zbD w h.fr);go_enter func269,ntmps269;go_wp2_with fail
 refine HM.out.mono ?_;rintro e w1 ⟨h1,rfl⟩;by_cases hro:F.ro=true
 ·rw[if_pos hro] at h1;obtain⟨u,pv,rfl⟩:=h1;refine⟨rfl, ?_⟩;unfold yL;rw[if_pos hro];exact⟨⟨_,_,rfl⟩,Kb.refl _ _⟩
 rw[if_neg hro] at h1;subst h1;go_wp2;refine zbq _ _ h.fr rfl rfl rfl rfl ?_ ?_
 ·intro u pv s x hno hd hk
  have e:yL kd F T=none:=by
   unfold yL;rw[if_neg hro];rcases hno with e|e
   ·rw[zq (Or.inl e)];rfl
   ·rw[zq (Or.inr (zq (Or.inl e)))];rfl
  rw[e];exact⟨hd,⟨_,_,rfl⟩,hk⟩
 ·intro x S' sv' mv' b0 b1 hfr hkb hsub hn0 hg0 hr0 hn1 hg1 hr1
  have e:yL kd F T=some (zE F,Yo T kd F.self (zY F) (Ze F)):=by
   unfold yL;rw[if_neg hro,zT fun e=>ZS (YQ (zW e)) hfr,zT fun e=>ZS (zW e) hfr];rfl
  have hsm:=(zq0 (F:=F)).resolve_left (fun hb=>absurd hfr.gal (by have:(zh (zi (zh (zi F)))).gas=(zE F).gas:=rfl;omega));have HE:=zb e;clear e;change Fr base fb (zE F) S' sv' mv' x at hfr;change Za x b0 (zY F) at hr0;change Za x b1 (Ze F) at hr1;have hx:=h.next hsm.trail hfr hkb hsub
  have hself:∀y,Below x.heap.size x y->y.cell? ⟨fb,3,none⟩=some (.int .u64 (za F.self 0))/\y.cell? ⟨fb,3+1,none⟩=some (.int .u64 (za F.self 1))/\y.cell? ⟨fb,3+2,none⟩=some (.int .u64 (za F.self 2))/\y.cell? ⟨fb,3+3,none⟩=some (.int .u64 (za F.self 3)):=by
   intro y hy;have hr:=zg hfr.row hy;rw[<-hsm.self];exact⟨hr.cell (i:=3) (by decide),hr.cell (i:=3+1) (by decide),hr.cell (i:=3+2) (by decide),hr.cell (i:=3+3) (by decide)⟩
  have htp:x.cell? ⟨fb,0,none⟩=some (.pointer (some ⟨tb,0,none⟩)):=(hfr.row.cell (i:=0) (by decide)).trans (congrArg some hx.ptr);simp only[zF,List.foldl_cons,List.foldl_nil,Act.put];simp only[sx9];go_wp2;refine zoT (R:=fun y=>TTo base tb T V (Yo T kd F.self (zY F) (Ze F)) 2 x y) (self:=F.self) (key:=zY F) (v:=Ze F) (bk:=b0) (bv:=b1) _ _ hr0 hr1 hfr.row.lt htp hself ?_ (Below.refl _ _).drew rfl rfl rfl rfl rfl ?_
  ·intro y hy;exact(hset (zY F) (Ze F) y (hx.tr.below hy)).mono fun e w' ⟨h1,h3⟩=>⟨h1,TTo.pre hy h3⟩
  intro y hR
  have HO:Hid (Out2 (yL kd F T) base fb tb T V S 2 w1 (.returned (.tuple #[])) y):=by
   show Out2 _ _ _ _ _ _ _ _ _ _ _;rw[HE.out];exact⟨rfl,To2.comp (m:=0) h.foot (fun k hk=>h.tr.lt hk) ⟨S,hkb,fun k hk=>Or.inl hk⟩ hsub (fun k hk=>Or.inl hk) (Nat.le_refl _) rfl (hx.trail hR)⟩
  clear hR HE hsm hkb hsub hr0 hr1 hself htp hx hfr hset h;simp only[zF,List.foldl_cons,List.foldl_nil,Act.put];simp only[sx9];go_wp2;go_end0;exact HO.out
end
end cin
end Go.Proofs.YtohoajjdoihekaaGreatDoor
