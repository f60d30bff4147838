import Derived.Test.YtohoajjdoihekaaGreatDoorHu
import Derived.Defers
import Derived.Recover
import Derived.Deep.LoopGhost
set_option linter.unusedVariables false
set_option linter.unusedSimpArgs false
namespace Go.Proofs.YtohoajjdoihekaaGreatDoor
namespace cin
open Go.RowKit Go.Proofs.Tryz Tryz
set_option maxRecDepth 100000
set_option maxHeartbeats 8000000
theorem zcB {base fb:Nat} {F G:Fz} {S:List Nat} {sv mv:Value} {l:List Nat} (w:World) (h:Fr base fb F S sv mv w) (hp:Zc 2 F=some (l,G)) (hpay:yQ (10*(pl (l.getD 1 0) 0).length) G=none):
  Calls prog 232 #[.pointer (some ⟨fb,0,none⟩),.int .u8 10] w (Out (none:Option (Unit×Fz)) zM base fb S w):=by
 have HC:Hid (∀w,Calls prog 256 #[.int .u8 10] w fun e w'=>e=.returned (.int .i64 2)/\w'=w):=fun w=>ZF 10 (by omega) w
 obtain⟨k,hkk⟩:∃k,k=2:=⟨_,rfl⟩;have hk:k<=3:=by omega
 rw[<-hkk] at hp;have HC2:Hid (∀w,Calls prog 256 #[.int .u8 10] w fun e w'=>e=.returned (.int .i64 (k:Int))/\w'=w):=by rw[hkk];exact HC
 clear HC hkk;have HP:=ze hp;have HF:=ze h;have HPAY:=ze hpay;clear hpay;obtain⟨a,HA⟩:∃a,Hid (a=l.getD 0 0):=⟨_,rfl⟩;obtain⟨b,HB⟩:∃b,Hid (b=l.getD 1 0):=⟨_,rfl⟩;obtain⟨c,HCC⟩:∃c,Hid (c=l.getD 2 0):=⟨_,rfl⟩;rw[<-HB.out] at HPAY;have HCA:=ze (YF 10 (by omega) a b c);obtain⟨y,HY⟩:∃y,Hid (y=zI 10 (a%M) (b%M) (c%M)):=⟨_,rfl⟩;rw[<-HY.out] at HCA;clear h hp;go_enter func232,ntmps232;go_wp2_with fail
 refine(HC2.out _).mono ?_;rintro e w1 ⟨rfl,rfl⟩;go_wp2
 go_loopw [10] (fun t10 x=>∃(i:Nat) (l:List Nat) (G:Fz) (S':List Nat) (sv' mv':Value),i<=k/\t10=.int .i64 (i:Int)/\Hid (Zc i F=some (l,G))/\OL base fb F S w l G S' sv' mv' x) (fun t10 _=>k - (RowKit.intOf t10).toNat)
 case atStart=>exact⟨0,[],F,S,sv,mv,by omega,rfl,rfl,OL.start HF.out⟩
 case round=>
  obtain⟨i,l1,G1,S',sv',mv',hi,rfl,HL,hol⟩:=hrel;by_cases hlt:i<k
  ·have d:decide ((i:Int)<(k:Int))=true:=decide_eq_true (by omega);have hll:=yR HL.out;have HPO:=ze (zbC _ hol.fr);cases hpo:zu G1 with
   |none=>
    exfalso;have h1:Zc (i+1) F=none:=by rw[Zc,HL.out];show(match zu G1 with|none=>none|some (n,G')=>some (l1++[n],G'))=_;rw[hpo]
    have h2:=Yi h1 k (by omega);rw[HP.out] at h2;cases h2
   |some r=>
    obtain⟨n,G'⟩:=r;rw[hpo] at HPO;have HL2:Hid (Zc (i+1) F=some (l1++[n],G')):=by show _=_;rw[Zc,HL.out];show(match zu G1 with|none=>none|some (n,G')=>some (l1++[n],G'))=_;rw[hpo]
    have HOL:=ze hol;clear hol hpo;go_wp2_with fail
    refine HPO.out.mono ?_;rintro e x2 ⟨rfl,S2,sv2,mv2,hf2,hk2,hs2⟩;have hr2:=hk2.row HOL.out.row HOL.out.out;have HOL2:=ze (HOL.out.step hf2 hk2 hs2 n);have hfz:=hr2.frozen;have c0:=hr2.cell (i:=i*4) (by omega);have c1:=hr2.cell (i:=i*4+1) (by omega);have c2:=hr2.cell (i:=i*4+2) (by omega);have c3:=hr2.cell (i:=i*4+3) (by omega);clear hf2 hk2 hs2 hr2;have hi3:i<3:=by omega
    go_wp2;refine⟨⟨i+1,l1++[n],G',S2,sv2,mv2,by omega,by go_num,HL2, ?_⟩,by simp[RowKit.intOf];omega⟩;have h9:=HOL2.out;rw[hll] at h9;exact h9
  ·obtain rfl:i=k:=by omega
   have hle:Zc i F=some (l1,G1):=HL.out;rw[HP.out] at hle;obtain⟨rfl,rfl⟩:=Prod.mk.inj (Option.some.inj hle);have d:decide ((i:Int)<(i:Int))=false:=decide_eq_false (by omega);obtain⟨⟨a0,a1,a2,a3⟩,⟨b0,b1,b2,b3⟩,⟨c0,c1,c2,c3⟩⟩:=hol.words;rw[<-HA.out] at a0 a1 a2 a3;rw[<-HB.out] at b0 b1 b2 b3;rw[<-HCC.out] at c0 c1 c2 c3;have HOL:=ze hol;clear hol hle HL;obtain⟨m,HM⟩:∃m,Hid (m=(pl b 0).length):=⟨_,rfl⟩;have hm32:m<=32:=by rw[HM.out];exact zbr b 0
   have HBL:=ze (YI b);rw[<-HM.out] at HBL HPAY;go_wp2_with fail
   refine(HBL.out _).mono ?_;rintro e x1 ⟨rfl,hb1⟩
   have HPA:Hid (Calls prog 204 #[.pointer (some ⟨fb,0,none⟩),.int .i64 (10*(m:Int))] x1 (Out (yQ (10*m) G) zM base fb S' x1)):=by
    have h9:=zjn (10*m) (by omega) x1 (HOL.out.fr.below hb1);rw[show((10*m:Nat):Int)=10*(m:Int) by omega] at h9;exact h9
   rw[HPAY.out] at HPA;have HK1:=ze (HOL.out.kb.below hb1);have hro1:=zf HOL.out.row hb1;have HB1:=ze hb1;clear hb1;go_wp2_with fail
   refine HPA.out.mono ?_;rintro e x2 ⟨⟨u,pv,rfl⟩,hk2⟩;exact⟨rfl,⟨_,_,rfl⟩,HK1.out.trans hk2 HOL.out.sub⟩
theorem zgl {base fb:Nat} {F G G3:Fz} {S:List Nat} {sv mv:Value} {l:List Nat} (w:World) (h:Fr base fb F S sv mv w) (hp:Zc 2 F=some (l,G)) (hpay:yQ (10*(pl (l.getD 1 0) 0).length) G=some ((),G3)):
  Calls prog 232 #[.pointer (some ⟨fb,0,none⟩),.int .u8 10] w (Out (zP (zI 10 (l.getD 0 0%M) (l.getD 1 0%M) (l.getD 2 0%M)) G3) zM base fb S w):=by
 have HC:Hid (∀w,Calls prog 256 #[.int .u8 10] w fun e w'=>e=.returned (.int .i64 2)/\w'=w):=fun w=>ZF 10 (by omega) w
 obtain⟨k,hkk⟩:∃k,k=2:=⟨_,rfl⟩;have hk:k<=3:=by omega
 rw[<-hkk] at hp;have HC2:Hid (∀w,Calls prog 256 #[.int .u8 10] w fun e w'=>e=.returned (.int .i64 (k:Int))/\w'=w):=by rw[hkk];exact HC
 clear HC hkk;have HP:=ze hp;have HF:=ze h;have HPAY:=ze hpay;clear hpay;obtain⟨a,HA⟩:∃a,Hid (a=l.getD 0 0):=⟨_,rfl⟩;obtain⟨b,HB⟩:∃b,Hid (b=l.getD 1 0):=⟨_,rfl⟩;obtain⟨c,HCC⟩:∃c,Hid (c=l.getD 2 0):=⟨_,rfl⟩;rw[<-HB.out] at HPAY;rw[<-HA.out,<-HB.out,<-HCC.out];have HCA:=ze (YF 10 (by omega) a b c);obtain⟨y,HY⟩:∃y,Hid (y=zI 10 (a%M) (b%M) (c%M)):=⟨_,rfl⟩;rw[<-HY.out] at HCA⊢;clear h hp;go_enter func232,ntmps232;go_wp2_with fail
 refine(HC2.out _).mono ?_;rintro e w1 ⟨rfl,rfl⟩;go_wp2
 go_loopw [10] (fun t10 x=>∃(i:Nat) (l:List Nat) (G:Fz) (S':List Nat) (sv' mv':Value),i<=k/\t10=.int .i64 (i:Int)/\Hid (Zc i F=some (l,G))/\OL base fb F S w l G S' sv' mv' x) (fun t10 _=>k - (RowKit.intOf t10).toNat)
 case atStart=>exact⟨0,[],F,S,sv,mv,by omega,rfl,rfl,OL.start HF.out⟩
 case round=>
  obtain⟨i,l1,G1,S',sv',mv',hi,rfl,HL,hol⟩:=hrel;by_cases hlt:i<k
  ·have d:decide ((i:Int)<(k:Int))=true:=decide_eq_true (by omega);have hll:=yR HL.out;have HPO:=ze (zbC _ hol.fr);cases hpo:zu G1 with
   |none=>
    exfalso;have h1:Zc (i+1) F=none:=by rw[Zc,HL.out];show(match zu G1 with|none=>none|some (n,G')=>some (l1++[n],G'))=_;rw[hpo]
    have h2:=Yi h1 k (by omega);rw[HP.out] at h2;cases h2
   |some r=>
    obtain⟨n,G'⟩:=r;rw[hpo] at HPO;have HL2:Hid (Zc (i+1) F=some (l1++[n],G')):=by show _=_;rw[Zc,HL.out];show(match zu G1 with|none=>none|some (n,G')=>some (l1++[n],G'))=_;rw[hpo]
    have HOL:=ze hol;clear hol hpo;go_wp2_with fail
    refine HPO.out.mono ?_;rintro e x2 ⟨rfl,S2,sv2,mv2,hf2,hk2,hs2⟩;have hr2:=hk2.row HOL.out.row HOL.out.out;have HOL2:=ze (HOL.out.step hf2 hk2 hs2 n);have hfz:=hr2.frozen;have c0:=hr2.cell (i:=i*4) (by omega);have c1:=hr2.cell (i:=i*4+1) (by omega);have c2:=hr2.cell (i:=i*4+2) (by omega);have c3:=hr2.cell (i:=i*4+3) (by omega);clear hf2 hk2 hs2 hr2;have hi3:i<3:=by omega
    go_wp2;refine⟨⟨i+1,l1++[n],G',S2,sv2,mv2,by omega,by go_num,HL2, ?_⟩,by simp[RowKit.intOf];omega⟩;have h9:=HOL2.out;rw[hll] at h9;exact h9
  ·obtain rfl:i=k:=by omega
   have hle:Zc i F=some (l1,G1):=HL.out;rw[HP.out] at hle;obtain⟨rfl,rfl⟩:=Prod.mk.inj (Option.some.inj hle);have d:decide ((i:Int)<(i:Int))=false:=decide_eq_false (by omega);obtain⟨⟨a0,a1,a2,a3⟩,⟨b0,b1,b2,b3⟩,⟨c0,c1,c2,c3⟩⟩:=hol.words;rw[<-HA.out] at a0 a1 a2 a3;rw[<-HB.out] at b0 b1 b2 b3;rw[<-HCC.out] at c0 c1 c2 c3;have HOL:=ze hol;clear hol hle HL;obtain⟨m,HM⟩:∃m,Hid (m=(pl b 0).length):=⟨_,rfl⟩;have hm32:m<=32:=by rw[HM.out];exact zbr b 0
   have HBL:=ze (YI b);rw[<-HM.out] at HBL HPAY;go_wp2_with fail
   refine(HBL.out _).mono ?_;rintro e x1 ⟨rfl,hb1⟩
   have HPA:Hid (Calls prog 204 #[.pointer (some ⟨fb,0,none⟩),.int .i64 (10*(m:Int))] x1 (Out (yQ (10*m) G) zM base fb S' x1)):=by
    have h9:=zjn (10*m) (by omega) x1 (HOL.out.fr.below hb1);rw[show((10*m:Nat):Int)=10*(m:Int) by omega] at h9;exact h9
   rw[HPAY.out] at HPA;have HK1:=ze (HOL.out.kb.below hb1);have hro1:=zf HOL.out.row hb1;have HB1:=ze hb1;clear hb1;go_wp2_with fail
   refine HPA.out.mono ?_;rintro e x2 ⟨rfl,S3,sv3,mv3,hf3,hk3,hs3⟩;have hro2:=hk3.row hro1 HOL.out.out;have hcell:∀i,i<12->x2.cell? ⟨w.heap.size,i,none⟩=some (opsC l i):=fun i hi=>hro2.cell hi
   obtain⟨p0,p1,p2,p3⟩:_/\_/\_/\_:=⟨hcell 0 (by omega),hcell 1 (by omega),hcell 2 (by omega),hcell 3 (by omega)⟩;obtain⟨q0,q1,q2,q3⟩:_/\_/\_/\_:=⟨hcell 4 (by omega),hcell 5 (by omega),hcell 6 (by omega),hcell 7 (by omega)⟩;obtain⟨r0,r1,r2,r3⟩:_/\_/\_/\_:=⟨hcell 8 (by omega),hcell 9 (by omega),hcell 10 (by omega),hcell 11 (by omega)⟩;simp only[opsC,Nat.reduceDiv,Nat.reduceMod] at p0 p1 p2 p3 q0 q1 q2 q3 r0 r1 r2 r3;rw[<-HA.out] at p0 p1 p2 p3;rw[<-HB.out] at q0 q1 q2 q3;rw[<-HCC.out] at r0 r1 r2 r3;have HKW:=ze (HK1.out.trans hk3 HOL.out.sub);have HSW:Hid (∀j∈S3,j∈S\/w.heap.size<=j):=fun j hj=>(hs3 j hj).elim (HOL.out.sub j) (fun h=>Or.inr (Nat.le_trans HK1.out.size h))
   have HF3:=ze hf3;clear hf3 hk3 hs3 hro1 hro2 hcell a0 a1 a2 a3 b0 b1 b2 b3 c0 c1 c2 c3;go_wp2_with fail
   refine(HCA.out _).mono ?_;rintro e x4 ⟨r,HR,rfl,hb4⟩;obtain rfl:r=y:=HR.out;have HB4:=ze hb4;clear hb4 HR;go_wp2;have hbe:Below x2.heap.size x2 (x4.alloc (wc r)):=bal HB4.out _;have hkb:Kb S w (x4.alloc (wc r)):=HKW.out.below hbe;refine zcr _ (x4.alloc (wc r)) (br:=x4.heap.size) (nr:=r) (Zn x4 r) (fun hm=>by have h5:=HF3.out.footlt _ hm;have h6:=HB4.out.size;omega) (HF3.out.below hbe) rfl rfl rfl ?_ ?_
   ·intro u pv s x hno hd hk;refine⟨hd, ?_⟩;rw[hno];exact⟨⟨_,_,rfl⟩,hkb.trans hk HSW.out⟩
   ·intro x S2 sv2 mv2 hfr hk2 hs2;cases hpu:zP r G3 with
    |none=>
     rw[hpu] at hfr;exact absurd hfr (fun h=>zcJ h)
    |some q=>
     obtain⟨u,G2⟩:=q;rw[hpu] at hfr
     first|go_end0|refine bodyPost_ret (results_none rfl _ _ _) rfl ?_
     exact⟨rfl,S2,sv2,mv2,hfr,hkb.trans hk2 HSW.out,fun j hj=>(hs2 j hj).elim (HSW.out j) (fun h=>Or.inr (Nat.le_trans hkb.size h))⟩
theorem zkC {base fb:Nat} {F:Fz} {S:List Nat} {sv mv:Value} (op:Nat) (ho:op<=255) (w:World) (h:Fr base fb F S sv mv w):
  Calls prog 232 #[.pointer (some ⟨fb,0,none⟩),.int .u8 (op:Int)] w (Out (zc6 op F) zM base fb S w):=by
 unfold zc6;cases hp:Zc (zZ op) F with
 |none=>exact zej op ho w h hp
 |some r=>
  obtain⟨l,G⟩:=r
  show Calls _ _ _ _ (Out (match(if op=10 then yQ (10*(pl (l.getD 1 0) 0).length) G else some ((),G)) with
   |none=>none
   |some (_,G2)=>zP (zI op (l.getD 0 0%M) (l.getD 1 0%M) (l.getD 2 0%M)) G2) zM base fb S w)
  by_cases h10:op=10
  ·subst h10;rw[if_pos rfl];cases hpay:yQ (10*(pl (l.getD 1 0) 0).length) G with
   |none=>exact zcB w h hp hpay
   |some q=>
    obtain⟨u,G3⟩:=q;exact zgl w h hp hpay
  ·rw[if_neg h10];exact zdi op ho h10 w h hp
section
open Go.Maps
def zec (Post:Ending->World->Prop):Prop:=∀e w,Post e w->e=.returned (.tuple #[])\/Pan e
theorem yd {r:Option (Fz×TS)} {base fb tb:Nat} {T:TS} {V:TV} {S:List Nat} {m:Nat} {w:World}:zec (zbS r base fb tb T V S m w):=fun e w' h=>by
 unfold zbS at h;split at h
 ·exact Or.inl h.1
 ·exact Or.inr h.1
theorem do_oper {Post:Ending->World->Prop} (fb op:Nat) (ho:op<=255) (hop:opN op=true) (w:World) (hP:zec Post) (hc:Calls prog 232 #[.pointer (some ⟨fb,0,none⟩),.int .u8 (op:Int)] w Post):
  Calls prog 205 #[.pointer (some ⟨fb,0,none⟩),.int .u8 (op:Int)] w Post:=by
 have H1:=ze (Zv op ho);rw[hop] at H1;have HC:=ze hc;have HP:=ze hP;clear hc hP hop;go_enter func205,ntmps205
 go_wp2_with (first
  |(go_at_call 231;refine(H1.out _).mono ?_;rintro e w1 ⟨rfl,rfl⟩)
  |fail)
 refine HC.out.mono ?_;intro e w2 hq;have HQ:=ze hq;rcases HP.out e w2 hq with rfl|⟨u,pv,rfl⟩
 ·clear hq HC;go_wp2;go_end0;exact HQ.out
 ·exact⟨rfl,HQ.out⟩
theorem zaK {Post:Ending->World->Prop} (fb op:Nat) (h1:80<=op) (h2:op<=94) (w:World) (hP:zec Post) (hc:Calls prog 234 #[.pointer (some ⟨fb,0,none⟩),.int .u8 (op:Int)] w Post):
  Calls prog 205 #[.pointer (some ⟨fb,0,none⟩),.int .u8 (op:Int)] w Post:=by
 have H1:=ze (Zv op (by omega));rw[show opN op=false by unfold opN;simp;omega] at H1;have d1:decide ((48:Int)<=(op:Int))=true:=decide_eq_true (by omega);have d2:decide ((op:Int)<=62)=false:=decide_eq_false (by omega);have d3:decide ((80:Int)<=(op:Int))=true:=decide_eq_true (by omega);have d4:decide ((op:Int)<=94)=true:=decide_eq_true (by omega);have HC:=ze hc;have HP:=ze hP;clear hc hP h1 h2;go_enter func205,ntmps205
 go_wp2_with (first
  |(go_at_call 231;refine(H1.out _).mono ?_;rintro e w1 ⟨rfl,rfl⟩)
  |fail)
 refine HC.out.mono ?_;intro e w2 hq;have HQ:=ze hq;rcases HP.out e w2 hq with rfl|⟨u,pv,rfl⟩
 ·clear hq HC;go_wp2;go_end0;exact HQ.out
 ·exact⟨rfl,HQ.out⟩
theorem do_push {Post:Ending->World->Prop} (fb op:Nat) (h1:95<=op) (h2:op<=127) (w:World) (hP:zec Post) (hc:Calls prog 236 #[.pointer (some ⟨fb,0,none⟩),.int .i64 ((op - 95:Nat):Int)] w Post):
  Calls prog 205 #[.pointer (some ⟨fb,0,none⟩),.int .u8 (op:Int)] w Post:=by
 have H1:=ze (Zv op (by omega));rw[show opN op=false by unfold opN;simp;omega] at H1;have H2:=ze (zaG op (by omega));rw[show zbL op=true by unfold zbL;simp;omega] at H2;have d1:decide ((48:Int)<=(op:Int))=true:=decide_eq_true (by omega);have d2:decide ((op:Int)<=62)=false:=decide_eq_false (by omega);have d3:decide ((80:Int)<=(op:Int))=true:=decide_eq_true (by omega);have d4:decide ((op:Int)<=94)=false:=decide_eq_false (by omega);have d5:IntKind.u8.wrap ((op:Int) - 95)=((op - 95:Nat):Int):=by simp[IntKind.wrap,IntKind.signed,IntKind.bits];omega
 have d6:IntKind.i64.wrap ((op - 95:Nat):Int)=((op - 95:Nat):Int):=by simp[IntKind.wrap,IntKind.signed,IntKind.bits];omega
 have HC:=ze hc;have HP:=ze hP;clear hc hP;go_enter func205,ntmps205
 go_wp2_with (first
  |(go_at_call 231;refine(H1.out _).mono ?_;rintro e w1 ⟨rfl,rfl⟩)
  |(go_at_call 235;refine(H2.out _).mono ?_;rintro e w1 ⟨rfl,rfl⟩)
  |fail)
 refine HC.out.mono ?_;intro e w2 hq;have HQ:=ze hq;rcases HP.out e w2 hq with rfl|⟨u,pv,rfl⟩
 ·clear hq HC;go_wp2;go_end0;exact HQ.out
 ·exact⟨rfl,HQ.out⟩
theorem do_end {Post:Ending->World->Prop} (fb op:Nat) (h0:op=0\/op=243\/op=253) (w:World) (hP:zec Post) (hc:Calls prog 245 #[.pointer (some ⟨fb,0,none⟩),.int .u8 (op:Int)] w Post):
  Calls prog 205 #[.pointer (some ⟨fb,0,none⟩),.int .u8 (op:Int)] w Post:=by
 have hop:op<=255:=by omega
 have H1:=ze (Zv op hop);rw[show opN op=false by rcases h0 with rfl|rfl|rfl<;>rfl] at H1;have H2:=ze (zaG op hop);rw[show zbL op=false by rcases h0 with rfl|rfl|rfl<;>rfl] at H2;have H3:=ze (zdG op hop);rw[show dupN op=false by rcases h0 with rfl|rfl|rfl<;>rfl] at H3;have H4:=ze (zca op hop);rw[show zgz op=false by rcases h0 with rfl|rfl|rfl<;>rfl] at H4;have H5:=ze (zdx op hop);rw[show logN op=false by rcases h0 with rfl|rfl|rfl<;>rfl] at H5;have H6:=ze (zhY op hop);rw[show callN op=false by rcases h0 with rfl|rfl|rfl<;>rfl] at H6;have HC:=ze hc;have HP:=ze hP;clear hc hP hop;rcases h0 with rfl|rfl|rfl
 all_goals (
  go_enter func205,ntmps205
  go_wp2_with (first
   |(go_at_call 231;refine(H1.out _).mono ?_;rintro e w1 ⟨rfl,rfl⟩)
   |(go_at_call 235;refine(H2.out _).mono ?_;rintro e w1 ⟨rfl,rfl⟩)
   |(go_at_call 237;refine(H3.out _).mono ?_;rintro e w1 ⟨rfl,rfl⟩)
   |(go_at_call 239;refine(H4.out _).mono ?_;rintro e w1 ⟨rfl,rfl⟩)
   |(go_at_call 241;refine(H5.out _).mono ?_;rintro e w1 ⟨rfl,rfl⟩)
   |(go_at_call 243;refine(H6.out _).mono ?_;rintro e w1 ⟨rfl,rfl⟩)
   |fail)
  refine HC.out.mono ?_;intro e w2 hq;have HQ:=ze hq;rcases HP.out e w2 hq with rfl|⟨u,pv,rfl⟩
  ·clear hq HC;go_wp2;go_end0;exact HQ.out
  ·exact⟨rfl,HQ.out⟩)
end
section
open Go.Maps
theorem keep_82 {Post:Ending->World->Prop} (fb:Nat) (w:World) (hP:zec Post) (hc:Calls prog 266 #[.pointer (some ⟨fb,0,none⟩)] w Post):
  Calls prog 234 #[.pointer (some ⟨fb,0,none⟩),.int .u8 82] w Post:=by
 have HC:=ze hc;have HP:=ze hP;clear hc hP;go_enter func234,ntmps234;go_wp2_with fail
 refine HC.out.mono ?_;intro e w2 hq;have HQ:=ze hq;rcases HP.out e w2 hq with rfl|⟨u,pv,rfl⟩
 ·clear hq HC;go_wp2;go_end0;exact HQ.out
 ·exact⟨rfl,HQ.out⟩
theorem keep_84 {Post:Ending->World->Prop} (fb:Nat) (w:World) (hP:zec Post) (hc:Calls prog 268 #[.pointer (some ⟨fb,0,none⟩),.int .i64 1] w Post):
  Calls prog 234 #[.pointer (some ⟨fb,0,none⟩),.int .u8 84] w Post:=by
 have HC:=ze hc;have HP:=ze hP;clear hc hP;go_enter func234,ntmps234;go_wp2_with fail
 refine HC.out.mono ?_;intro e w2 hq;have HQ:=ze hq;rcases HP.out e w2 hq with rfl|⟨u,pv,rfl⟩
 ·clear hq HC;go_wp2;go_end0;exact HQ.out
 ·exact⟨rfl,HQ.out⟩
theorem keep_85 {Post:Ending->World->Prop} (fb:Nat) (w:World) (hP:zec Post) (hc:Calls prog 269 #[.pointer (some ⟨fb,0,none⟩),.int .i64 1] w Post):
  Calls prog 234 #[.pointer (some ⟨fb,0,none⟩),.int .u8 85] w Post:=by
 have HC:=ze hc;have HP:=ze hP;clear hc hP;go_enter func234,ntmps234;go_wp2_with fail
 refine HC.out.mono ?_;intro e w2 hq;have HQ:=ze hq;rcases HP.out e w2 hq with rfl|⟨u,pv,rfl⟩
 ·clear hq HC;go_wp2;go_end0;exact HQ.out
 ·exact⟨rfl,HQ.out⟩
theorem keep_91 (fb:Nat) (w:World):
  Calls prog 234 #[.pointer (some ⟨fb,0,none⟩),.int .u8 91] w fun e w'=>e=.returned (.tuple #[])/\w'=w:=by
 go_enter func234,ntmps234;go_wp2;go_end0;exact⟨rfl,rfl⟩
def zbE (F:Fz):Option (Unit×Fz):=yE (zu F) (zbg (ZH (zu F)) (zv (zu F)))
theorem keep_86 {base fb:Nat} {F:Fz} {S:List Nat} {sv mv:Value} (hcs:F.code.size<=100000) (w:World) (h:Fr base fb F S sv mv w):
  Calls prog 234 #[.pointer (some ⟨fb,0,none⟩),.int .u8 86] w (Out (zbE F) zM base fb S w):=by
 have HPOP:=ze (zbC w h);have hsm:=za8 (F:=F) (G:=F) (Or.inr (Same.refl F));go_enter func234,ntmps234;go_wp2_with fail
 refine HPOP.out.mono ?_;intro e x hq;cases hp:zu F with
 |none=>
  rw[hp] at hq;obtain⟨⟨u,pv,rfl⟩,hk⟩:=hq;refine⟨rfl, ?_⟩;unfold zbE;rw[hp];exact⟨⟨_,_,rfl⟩,hk⟩
 |some r=>
  obtain⟨p,F1⟩:=r;rw[hp] at hq hsm;obtain⟨rfl,hto⟩:=hq;obtain⟨S1,sv1,mv1,h1,h2,h3⟩:=hto
  have hcd:F1.code.size<=100000:=by
   rcases hsm with hb|hs
   ·exact absurd h1.gal (by have:(zv (some (p,F1))).gas=F1.gas:=rfl;omega)
   ·rw[show F1.code=F.code from hs.code];exact hcs
  have HJ:=ze (jump_I p hcd x h1)
  have HE:Hid (zbE F=zbg p F1):=by
   show zbE F=_;unfold zbE;rw[hp];rfl
  have HK:=ze h2;have HS:=ze h3;clear h1 h2 h3 hsm hcd h HPOP;go_wp2_with fail
  refine HJ.out.mono ?_;intro e y ho
  have HO:Hid (Out (zbE F) zM base fb S w e y):=by
   show Out _ _ _ _ _ _ _ _;rw[HE.out];cases hj:zbg p F1 with
   |none=>
    rw[hj] at ho;exact⟨ho.1,HK.out.trans ho.2 HS.out⟩
   |some r2=>
    rw[hj] at ho;exact⟨ho.1,To.pre HK.out HS.out ho.2⟩
  rcases hj:zbg p F1 with _|r2
  ·rw[hj] at ho;obtain⟨⟨u,pv,rfl⟩,_⟩:=ho;exact⟨rfl,HO.out⟩
  ·rw[hj] at ho;obtain⟨rfl,_⟩:=ho;clear HJ HE hj;obtain⟨⟨⟩,F9⟩:=r2;unfold zM at HO⊢;go_wp2;go_end0;exact HO.out
end
theorem ziy (n:Nat) (hn:n<=281474976710656) (w:World):(Instr.makeSlice 134 (.int .i64 (n:Int)) (.int .i64 (n:Int))).run prog w=.ok (.slice (some ⟨w.heap.size,0,none⟩) n n) (w.alloc (.cells (madeCells #[.bool false] n) 4)):=
 run_make_row' 134 4 (.bool false) 1 (by kernel_rfl) (by kernel_rfl) rfl .i64 .i64 n (by omega) (by omega) w
theorem zld {code:ByteArray} {f i:Nat} {acc:List Bool} (h:code.size<=i):jdF code f i acc=acc:=by
 cases f with
 |zero=>rfl
 |succ f=>exact if_neg (by omega)
def JdI (code:ByteArray) (i:Nat) (acc:List Bool):Prop:=acc.length=code.size+1/\∃f,code.size<=i+f/\jdF code f i acc=jdL code
theorem JdI.start (code:ByteArray):JdI code 0 (List.replicate (code.size+1) false):=⟨by simp,code.size,by omega,rfl⟩
theorem JdI.step {code:ByteArray} {i:Nat} {acc:List Bool} (h:JdI code i acc) (hi:i<code.size):JdI code (i+1+(if 95<byt code i/\byt code i<=127 then byt code i - 95 else 0)) (if byt code i=91 then acc.set i true else acc):=by
 obtain⟨h1,f,h2,h3⟩:=h;cases f with
 |zero=>omega
 |succ f=>
  refine⟨by split<;>simp[h1],f,by omega, ?_⟩;rw[<-h3];exact(if_pos hi).symm
theorem JdI.done {code:ByteArray} {i:Nat} {acc:List Bool} (h:JdI code i acc) (hi:code.size<=i):acc=jdL code:=by
 obtain⟨_,f,_,h3⟩:=h;rw[<-h3,zld hi]
theorem zko {acc:List Bool} {i j:Nat} (hi:i<acc.length):(if j=i then Value.bool true else .bool (acc.getD j false))=.bool ((acc.set i true).getD j false):=by
 by_cases e:j=i
 ·subst e;simp[List.getD_eq_getElem?_getD,hi]
 ·rw[if_neg e];rw[List.getD_eq_getElem?_getD,List.getD_eq_getElem?_getD,List.getElem?_set,if_neg (fun h:i=j=>e h.symm)]
theorem za6 (code:ByteArray) (hcs:code.size<=100000) (w:World):Calls prog 92 #[.string code] w fun e w'=>∃v,e=.returned v/\Jds w' v code/\Below w.heap.size w w':=by
 have hmk:=ziy (code.size+1) (by omega);rw[show((code.size+1:Nat):Int)=(code.size:Int)+1 by omega] at hmk;go_enter func92,ntmps92;go_wp2
 go_loopw [4] (fun t4 wr=>∃(i:Nat) (acc:List Bool),i<=100100/\t4=.int .i64 (i:Int)/\Hid (JdI code i acc)/\Hid (wr.rowIs w.heap.size 4 (code.size+1) (fun j=>.bool (acc.getD j false)))/\Hid (Below w.heap.size w wr)) (fun t4 _=>200000 - (RowKit.intOf t4).toNat)
 case atStart=>
  refine⟨0,_,by omega,rfl,JdI.start code, ?_,bal (Below.refl _ _) _⟩;refine(World.rowIs_made w (.bool false) (code.size+1) 4).congr fun j hj=> ?_
  simp[List.getD_eq_getElem?_getD,List.getElem?_replicate];split<;>rfl
 case round=>
  obtain⟨i,acc,hi,rfl,HJ,HR,HB⟩:=hrel;by_cases hlt:i<code.size
  ·have hd:decide ((i:Int)<(code.size:Int))=true:=decide_eq_true (by omega);have hb:=zmm code i hlt;have hbl:=Zj code i;have HS:=ze (HJ.out.step hlt);have hal:=HJ.out.1;have hc:=HR.out.cell (i:=i) (by omega);have hz:=HR.out.frozen i;generalize byt code i=b at*;by_cases h91:b=91
   ·subst h91;rw[if_pos rfl,if_neg (by omega)] at HS;go_wp2
    go_roundw
    case rel=>
     refine⟨i+1,_,by omega,by go_num,HS.out,(HR.out.set i _).congr fun j hj=>zko (by omega),HB.out.setCell (by simp) _⟩
    case measure=>simp[RowKit.intOf];omega
   ·rw[if_neg h91] at HS;have d91:((b:Int)==91)=false:=by simp;omega
    by_cases hp:95<b/\b<=127
    ·rw[if_pos hp] at HS;obtain⟨hp1,hp2⟩:=hp;have d1:decide ((95:Int)<(b:Int))=true:=decide_eq_true (by omega);have d2:decide ((b:Int)<=127)=true:=decide_eq_true (by omega);obtain⟨k,hk⟩:∃k:Nat,(b:Int) - 95=(k:Int):=⟨b - 95,by omega⟩;go_wp2
     go_roundw
     case rel=>
      refine⟨i+1+(b - 95),_,by omega,by go_num,HS.out,HR.out,HB.out⟩
     case measure=>simp[RowKit.intOf];omega
    ·rw[if_neg hp] at HS;by_cases hp1:95<b
     ·have d1:decide ((95:Int)<(b:Int))=true:=decide_eq_true (by omega);have d2:decide ((b:Int)<=127)=false:=decide_eq_false (by omega);go_wp2
      go_roundw
      case rel=>exact⟨i+1,_,by omega,by go_num,HS.out,HR.out,HB.out⟩
      case measure=>simp[RowKit.intOf];omega
     ·have d1:decide ((95:Int)<(b:Int))=false:=decide_eq_false (by omega);go_wp2
      go_roundw
      case rel=>exact⟨i+1,_,by omega,by go_num,HS.out,HR.out,HB.out⟩
      case measure=>simp[RowKit.intOf];omega
  ·have hd:decide ((i:Int)<(code.size:Int))=false:=decide_eq_false (by omega);have HD:=ze (HJ.out.done (by omega));go_wp2;go_ret;refine⟨_,rfl,⟨_,_,rfl, ?_⟩,HB.out⟩;rw[<-HD.out];exact HR.out
section
open Go.Maps
theorem cell_pc (F:Fz) (sv mv:Value) (n:Nat):(fun i=>if i=22 then .int .i64 (n:Int) else F.cell sv mv i)=({F with pc:=n}:Fz).cell sv mv:=by
 funext i;by_cases h:i=22
 ·subst h;rfl
 ·simp only[Fz.cell,if_neg h]
def opF (F:Fz):Nat:=if F.nx<F.code.size then byt F.code F.nx else 0
def onF (F:Fz):Fz:={F with pc:=F.nx,nx:=F.nx+1}
theorem zel {base fb tb m:Nat} {F:Fz} {T:TS} {S:List Nat} {sv mv:Value} {V:TV} {c:Nat} {r:Option (Fz×TS)} (w:World) (h:FT base fb tb F T S sv mv V w) (hnx:F.nx<=1000000) (hcs:F.code.size<=1000) (hc:ZI (opF F)=some c) (hcl:c<=1000) (hpay:c<=F.gas)
  (hdo:∀S1 sv1 mv1 x,FT base fb tb {onF F with gas:=F.gas - c} T S1 sv1 mv1 V x->Calls prog 205 #[.pointer (some ⟨fb,0,none⟩),.int .u8 (opF F:Int)] x (zbS r base fb tb T V S1 m x)):
  Calls prog 158 #[.pointer (some ⟨fb,0,none⟩)] w (zbS r base fb tb T V S m w):=by
 have c1:=h.fr.row.cell (i:=23) (by decide);have f1:=h.fr.row.frozen 23;have c2:=h.fr.row.cell (i:=22) (by decide);have f2:=h.fr.row.frozen 22;rw[show F.cell sv mv 23=.int .i64 (F.nx:Int) from rfl] at c1;rw[show F.cell sv mv 22=.int .i64 (F.pc:Int) from rfl] at c2;have HFT:=ze h;have HDO:=ze hdo
 have hop:opF F<=255:=by
  unfold opF;split
  ·have:=Zj F.code F.nx;omega
  ·omega
 have HB:=ze (zfh (opF F) hop);rw[hc] at HB;go_enter func158,ntmps158;go_wp2;have e1:(F.nx:Int)+1=((F.nx+1:Nat):Int):=by omega
 rw[e1]
 have hto:To base fb (onF F) S w ((w.setCell ⟨fb,22,none⟩ (.int .i64 (F.nx:Int))).setCell ⟨fb,23,none⟩ (.int .i64 ((F.nx+1:Nat):Int))):=
  (h.fr.set1 22 _ (cell_pc F sv mv F.nx) rfl rfl rfl rfl h.fr.gal).trans fun S1 sv1 mv1 h1=>h1.set1 23 _ (zd8 _ sv1 mv1 (F.nx+1)) rfl rfl rfl rfl h.fr.gal
 obtain⟨S1,sv1,mv1,h1,h2,h3⟩:=hto;generalize((w.setCell ⟨fb,22,none⟩ (.int .i64 (F.nx:Int))).setCell ⟨fb,23,none⟩ (.int .i64 ((F.nx+1:Nat):Int)))=x at*;have hx:FT base fb tb (onF F) T S1 sv1 mv1 V x:=h.next rfl h1 h2 h3;have k1:=h1.row.cell (i:=22) (by decide);rw[show(onF F).cell sv1 mv1 22=.int .i64 (F.nx:Int) from rfl] at k1;have k2:=h1.row.cell (i:=1) (by decide);rw[show(onF F).cell sv1 mv1 1=.string F.code from rfl] at k2;have HX:=ze hx;have H2:=ze h2;have H3:=ze h3;have HFO:=ze h.foot;have HTL:Hid (∀k,zF tb T V k->k<w.heap.size):=fun k hk=>h.tr.lt hk
 have HPAY:Hid (∀y,Below x.heap.size x y->Calls prog 204 #[.pointer (some ⟨fb,0,none⟩),.int .i64 (c:Int)] y (Out (some ((),{onF F with gas:=F.gas - c})) zM base fb S1 y)):=fun y hy=>by
  have hp:=zjn c (by omega) y (h1.below hy);unfold yQ at hp;rw[if_neg (show¬(onF F).gas<c from Nat.not_lt.2 hpay)] at hp;exact hp
 clear h1 h2 h3 hx h hdo c1 f1 c2 f2 hc e1;have hco:(zdh (some c))=.tuple #[.int .i64 (c:Int),.bool true]:=rfl;rw[hco] at HB;clear hco;have hl9:F.code.size<9223372036854775808:=by omega
 by_cases hlt:F.nx<F.code.size
 ·have hopf:opF F=byt F.code F.nx:=if_pos hlt;have hd:decide ((F.nx:Int)<(F.code.size:Int))=true:=decide_eq_true (by omega);have hb:=zmm F.code F.nx hlt;rw[<-hopf] at hb;generalize opF F=op at*;clear hopf
  go_region
  go_wp2
  go_region
  go_wp2_with (first
   |(go_at_call 203;refine(HB.out _).mono ?_;rintro e w1 ⟨rfl,rfl⟩)
   |fail)
  refine(HPAY.out _ ((Below.refl _ x).drew.drew)).mono ?_;rintro e y ⟨rfl,S2,sv2,mv2,g1,g2,g3⟩;have hy:=FT.next (HX.out.below ((Below.refl _ x).drew.drew)) (F':={onF F with gas:=F.gas - c}) rfl g1 g2 g3;have HD:=ze (HDO.out S2 sv2 mv2 y hy)
  have HKF:Hid (KF S tb T V w y/\(∀k∈S2,k∈S\/w.heap.size<=k)/\(∀x',Kb S2 y x'->Kb S w x')):=by
   have hk1:Kb S w y:=H2.out.trans ((Kb.of_below (S:=S1) ((Below.refl _ x).drew.drew)).trans g2 (fun i hi=>Or.inl hi)) H3.out
   have hs1:∀k∈S2,k∈S\/w.heap.size<=k:=fun k hk=>by
    rcases g3 k hk with e|e
    ·exact H3.out k e
    ·exact Or.inr (Nat.le_trans H2.out.size e)
   exact⟨⟨S,hk1,fun k hk=>Or.inl hk⟩,hs1,fun x' hx'=>hk1.trans hx' hs1⟩
  clear hy g1 g2 g3 HPAY HB HX;unfold zM;go_wp2_with fail
  refine HD.out.mono ?_;intro e z hq
  have HO:Hid (zbS r base fb tb T V S m w e z):=by
   show zbS _ _ _ _ _ _ _ _ _ _ _;cases r with
   |none=>exact⟨hq.1,HKF.out.2.2 z hq.2⟩
   |some q=>
    obtain⟨F9,T9⟩:=q;refine⟨hq.1, ?_⟩;have:=To2.comp (m:=0) HFO.out HTL.out HKF.out.1 HKF.out.2.1 (fun k hk=>Or.inl hk) (Nat.le_refl _) rfl hq.2;rw[Nat.zero_add] at this;exact this
  rcases yd e z hq with rfl|⟨u,pv,rfl⟩
  ·clear hq HD HKF;go_wp2;go_end0;exact HO.out
  ·exact⟨rfl,HO.out⟩
 ·have hopf:opF F=0:=if_neg hlt;have hd:decide ((F.nx:Int)<(F.code.size:Int))=false:=decide_eq_false (by omega);rw[hopf] at HB HDO
  go_region
  go_wp2_with (first
   |(go_at_call 203;refine(HB.out _).mono ?_;rintro e w1 ⟨rfl,rfl⟩)
   |fail)
  refine(HPAY.out _ ((Below.refl _ x).drew)).mono ?_;rintro e y ⟨rfl,S2,sv2,mv2,g1,g2,g3⟩;have hy:=FT.next (HX.out.below ((Below.refl _ x).drew)) (F':={onF F with gas:=F.gas - c}) rfl g1 g2 g3;have HD:=ze (HDO.out S2 sv2 mv2 y hy)
  have HKF:Hid (KF S tb T V w y/\(∀k∈S2,k∈S\/w.heap.size<=k)/\(∀x',Kb S2 y x'->Kb S w x')):=by
   have hk1:Kb S w y:=H2.out.trans ((Kb.of_below (S:=S1) ((Below.refl _ x).drew)).trans g2 (fun i hi=>Or.inl hi)) H3.out
   have hs1:∀k∈S2,k∈S\/w.heap.size<=k:=fun k hk=>by
    rcases g3 k hk with e|e
    ·exact H3.out k e
    ·exact Or.inr (Nat.le_trans H2.out.size e)
   exact⟨⟨S,hk1,fun k hk=>Or.inl hk⟩,hs1,fun x' hx'=>hk1.trans hx' hs1⟩
  clear hy g1 g2 g3 HPAY HB HX;unfold zM;go_wp2_with fail
  refine HD.out.mono ?_;intro e z hq
  have HO:Hid (zbS r base fb tb T V S m w e z):=by
   show zbS _ _ _ _ _ _ _ _ _ _ _;cases r with
   |none=>exact⟨hq.1,HKF.out.2.2 z hq.2⟩
   |some q=>
    obtain⟨F9,T9⟩:=q;refine⟨hq.1, ?_⟩;have:=To2.comp (m:=0) HFO.out HTL.out HKF.out.1 HKF.out.2.1 (fun k hk=>Or.inl hk) (Nat.le_refl _) rfl hq.2;rw[Nat.zero_add] at this;exact this
  rcases yd e z hq with rfl|⟨u,pv,rfl⟩
  ·clear hq HD HKF;go_wp2;go_end0;exact HO.out
  ·exact⟨rfl,HO.out⟩
end
section
open Go.Maps
abbrev resC (st gas:Nat) (out:ByteArray) (lv:Value):Array Value:=#[.int .u8 (st:Int),.int .i64 (gas:Int),.string out,lv]
abbrev zdo (st gas:Nat) (out:ByteArray) (lv:Value):Value:=.agg (resC st gas out lv)
abbrev noL:Value:=.slice none 0 0
def ResAt (x:World) (b:Nat) (st gas:Nat) (out:ByteArray) (lv:Value):Prop:=(x.cell? ⟨b,0,none⟩=some (.int .u8 (st:Int))/\x.cell? ⟨b,1,none⟩=some (.int .i64 (gas:Int))/\x.cell? ⟨b,2,none⟩=some (.string out)/\x.cell? ⟨b,3,none⟩=some lv)/\x.frozen? ⟨b,0,none⟩=false/\x.frozen? ⟨b,1,none⟩=false/\x.frozen? ⟨b,2,none⟩=false/\x.frozen? ⟨b,3,none⟩=false
theorem ResAt.kb {S:List Nat} {x y:World} {b st gas:Nat} {out:ByteArray} {lv:Value} (h:ResAt x b st gas out lv) (hk:Kb S x y) (hb:b∉S):ResAt y b st gas out lv:=by
 obtain⟨⟨h0,h1,h2,h3⟩,f0,f1,f2,f3⟩:=h;have hl:b<x.heap.size:=zaM h0;have e:=hk.block b hl hb;exact⟨⟨(World.cell?_of_block e).trans h0,(World.cell?_of_block e).trans h1,(World.cell?_of_block e).trans h2,(World.cell?_of_block e).trans h3⟩,(World.frozen?_of_block e).trans f0,(World.frozen?_of_block e).trans f1,(World.frozen?_of_block e).trans f2,(World.frozen?_of_block e).trans f3⟩
def yJ (x:World) (b st gas:Nat) (out:ByteArray) (lv:Value):World:=(((x.setCell ⟨b,0,none⟩ (.int .u8 (st:Int))).setCell ⟨b,1,none⟩ (.int .i64 (gas:Int))).setCell ⟨b,2,none⟩ (.string out)).setCell ⟨b,3,none⟩ lv
theorem zbP {b st gas:Nat} {out:ByteArray} (u:TypeId) (pv:Value) (older:List PanicEntry) (w:World) (h:ResAt w b st gas out noL):
  CallsD prog 157 #[.pointer (some ⟨b,0,none⟩)] (.panicking ({v:=.iface u pv,recovered:=false}::older)) w fun e u' w'=>
   e=.returned (.tuple #[])/\u'=.panicking ({v:=.iface u pv,recovered:=true}::older)/\w'=yJ w b 2 0 ⟨#[]⟩ noL:=by
 obtain⟨⟨h0,h1,h2,h3⟩,f0,f1,f2,f3⟩:=h;refine callsD_of_wpS func157 rfl fun c₀ cs hu=> ?_
 apply wpS_seq;apply wpS_region;simp[wpOpsS,go_sem,recoverD,hu,ntmps157,Exit.thenS];refine wpS_cond (t:=true) (by simp[Act.eval,Array.replicate]) ?_;simp only[if_true];apply wpS_region;simp[wpOpsS,go_sem,h0,h1,h2,h3,f0,f1,f2,f3,bodyPostS,results,results157,yJ]
theorem ziq {b:Nat} (w:World):
  CallsD prog 157 #[.pointer (some ⟨b,0,none⟩)] .returning w fun e u' w'=>e=.returned (.tuple #[])/\u'=.returning/\w'=w:=by
 refine callsD_of_wpS func157 rfl fun c₀ cs hu=> ?_
 apply wpS_seq;apply wpS_region;simp[wpOpsS,go_sem,recoverD,hu,ntmps157,Exit.thenS];refine wpS_cond (t:=false) (by simp[Act.eval,Array.replicate]) ?_;simp only[Bool.false_eq_true,if_false];refine wpS_of_wp (wp_skip ?_);cases c₀
 simp_all [bodyPostS,results,results157]
end
section
open Go.Maps
section
variable {s:Act} {x:World} {pos:String} {af:Array Edge} {g:Option (Nat×Bool)} {K:Act->World->Prop} {Q:Exit->Act->World->Prop}
theorem zdB {t1 t2 b st0 gs0 st gs:Nat} {out0 out:ByteArray} {ty:TypeId} (h1:s.tmps.getD t1 undef=.pointer (some ⟨b,0,none⟩)) (h2:s.tmps.getD t2 undef=.agg #[.int .u8 (st:Int),.int .i64 (gs:Int),.string out,.slice none 0 0]) (hr:ResAt x b st0 gs0 out0 noL) (hK:K (s.put none undef) (yJ x b st gs out noL)):
  Oper.wp prog ⟨none,.store 38 (.tmp t1) (.tmp t2),ty,pos,af,g⟩ s x K Q:=by
 obtain⟨⟨k0,k1,k2,k3⟩,f0,f1,f2,f3⟩:=hr;have e1:s.eval (.tmp t1)=.pointer (some ⟨b,0,none⟩):=h1;have e2:s.eval (.tmp t2)=.agg #[.int .u8 (st:Int),.int .i64 (gs:Int),.string out,.slice none 0 0]:=h2;unfold yJ noL at hK;go_simp;exact hK
end
theorem ResAt.below {x y:World} {b st gas:Nat} {out:ByteArray} {lv:Value} (h:ResAt x b st gas out lv) (hb:Below x.heap.size x y):ResAt y b st gas out lv:=h.kb (Kb.of_below (S:=[]) hb) (by simp)
def PhR (b st gs:Nat) (out:ByteArray) (w:World):Nat->World->Prop
 |0,x=>Below w.heap.size w x
 |_,x=>∃y,Below w.heap.size w y/\x=yJ y b st gs out noL
theorem zea {b st gs:Nat} {out:ByteArray} {w x:World} {k:Nat} (h:PhR b st gs out w k x) (hk:k<=0):Below w.heap.size w x:=by
 match k,hk,h with
 |0,_,h=>exact h
theorem run_r4 {fb b st gs st0 gs0:Nat} {out out0:ByteArray} {Q:Exit->Act->World->Prop} (a:Act) (w:World) (hlt:fb<w.heap.size) (hres:ResAt w b st0 gs0 out0 noL) (hstatus:w.cell? ⟨fb,25,none⟩=some (.int .u8 (st:Int))) (hgas:w.cell? ⟨fb,16,none⟩=some (.int .i64 (gs:Int))) (houtput:w.cell? ⟨fb,26,none⟩=some (.string out)) (h0:Below w.heap.size w w.drew) (hsz:([11,12,13,14,15,16,17,18,19,20,21,22,23]:List Nat).all (fun d=>decide (d<a.tmps.size))=true) (c0:a.tmps.getD 0 undef=.pointer (some ⟨fb,0,none⟩)) (c2:a.tmps.getD 2 undef=.pointer (some ⟨b,0,none⟩))
  (hok:∀(x:World),(PhR b st gs out w) 1 x->Q .normal (zL a [(11,.pointer (some ⟨fb,0,none⟩)),(12,.pointer (some ⟨fb,0,none⟩)),(13,.pointer (some ⟨fb,25,none⟩)),(14,.int .u8 (st:Int)),(15,.pointer (some ⟨fb,0,none⟩)),(16,.pointer (some ⟨fb,0,none⟩)),(17,.pointer (some ⟨fb,16,none⟩)),(18,.int .i64 (gs:Int)),(19,.pointer (some ⟨fb,0,none⟩)),(20,.pointer (some ⟨fb,0,none⟩)),(21,.pointer (some ⟨fb,26,none⟩)),(22,.string out),(23,.agg #[.int .u8 (st:Int),.int .i64 (gs:Int),.string out,.slice none 0 0])]) x):
  (Code.region 4 #[⟨some 11,.move (.tmp 0),132,"frame.go:72",#[],none⟩,⟨some 12,.nilCheck (.tmp 11),0,"frame.go:72",#[⟨0,.data⟩],none⟩,⟨some 13,.fieldAddr 137 (.tmp 12) 16,0,"frame.go:72",#[⟨1,.data⟩],none⟩,⟨some 14,.load 5 (.tmp 13),5,"frame.go:72",#[⟨2,.data⟩],none⟩,⟨some 15,.move (.tmp 0),132,"frame.go:72",#[],none⟩,⟨some 16,.nilCheck (.tmp 15),0,"frame.go:72",#[⟨4,.data⟩],none⟩,⟨some 17,.fieldAddr 137 (.tmp 16) 7,0,"frame.go:72",#[⟨5,.data⟩],none⟩,⟨some 18,.load 3 (.tmp 17),3,"frame.go:72",#[⟨6,.data⟩],none⟩,⟨some 19,.move (.tmp 0),132,"frame.go:72",#[],none⟩,⟨some 20,.nilCheck (.tmp 19),0,"frame.go:72",#[⟨8,.data⟩],none⟩,⟨some 21,.fieldAddr 137 (.tmp 20) 17,0,"frame.go:72",#[⟨9,.data⟩],none⟩,⟨some 22,.load 9 (.tmp 21),9,"frame.go:72",#[⟨10,.data⟩],none⟩,⟨some 23,.build 38 #[(0,.tmp 14),(1,.tmp 18),(2,.tmp 22)],38,"frame.go:72",#[⟨3,.data⟩,⟨7,.data⟩,⟨11,.data⟩],none⟩,⟨none,.store 38 (.tmp 2) (.tmp 23),0,"frame.go:72",#[⟨12,.data⟩,⟨0,.phase⟩,⟨1,.phase⟩,⟨2,.phase⟩,⟨3,.phase⟩,⟨4,.phase⟩,⟨5,.phase⟩,⟨6,.phase⟩,⟨7,.phase⟩,⟨8,.phase⟩,⟨9,.phase⟩,⟨10,.phase⟩,⟨11,.phase⟩,⟨12,.phase⟩],none⟩] true).wp prog Q a w:=by
 refine zX (PhR b st gs out w) (fun _ _ _=>True) [(0,.pointer (some ⟨fb,0,none⟩)),(2,.pointer (some ⟨b,0,none⟩))] [(some 11,.v (.pointer (some ⟨fb,0,none⟩))),(some 12,.v (.pointer (some ⟨fb,0,none⟩))),(some 13,.v (.pointer (some ⟨fb,25,none⟩))),(some 14,.v (.int .u8 (st:Int))),(some 15,.v (.pointer (some ⟨fb,0,none⟩))),(some 16,.v (.pointer (some ⟨fb,0,none⟩))),(some 17,.v (.pointer (some ⟨fb,16,none⟩))),(some 18,.v (.int .i64 (gs:Int))),(some 19,.v (.pointer (some ⟨fb,0,none⟩))),(some 20,.v (.pointer (some ⟨fb,0,none⟩))),(some 21,.v (.pointer (some ⟨fb,26,none⟩))),(some 22,.v (.string out)),(some 23,.v (.agg #[.int .u8 (st:Int),.int .i64 (gs:Int),.string out,.slice none 0 0])),(none,.v undef)] [13] [3,7,11] (by kernel_rfl) hsz (zW c0 (zW c2 rfl)) (by kernel_rfl) h0
  (zk _ _ _ rfl rfl (fun s x hph hdf hv hl K hK=>by
   have hph:Below w.heap.size w x:=hph;exact zdB (hv 2 _ rfl) (hv 23 _ rfl) (hres.below hph) (hK undef _ ⟨x,hph,rfl⟩ trivial (fun _=>rfl) rfl)
  )
  True.intro)
  (zk _ _ _ rfl rfl (fun k s x hk hlo hhi hph hdf hv hl K hK=>by
   have k0:x.cell? ⟨fb,25,none⟩=some (.int .u8 (st:Int)):=((zea hph (by have:=hhi 0 13 rfl (by kernel_rfl);omega)).cell hlt).trans hstatus;exact Zh (fun w=>by kernel_rfl) (hv 13 _ rfl) k0 (hK _ x rfl nn1 rfl)
  )
  (zk _ _ _ rfl rfl (fun k s x hk hlo hhi hph hdf hv hl K hK=>by
   have k0:x.cell? ⟨fb,16,none⟩=some (.int .i64 (gs:Int)):=((zea hph (by have:=hhi 0 13 rfl (by kernel_rfl);omega)).cell hlt).trans hgas;exact Zh (fun w=>by kernel_rfl) (hv 17 _ rfl) k0 (hK _ x rfl nn1 rfl)
  )
  (zk _ _ _ rfl rfl (fun k s x hk hlo hhi hph hdf hv hl K hK=>by
   have k0:x.cell? ⟨fb,26,none⟩=some (.string out):=((zea hph (by have:=hhi 0 13 rfl (by kernel_rfl);omega)).cell hlt).trans houtput;exact Zh (fun w=>by kernel_rfl) (hv 21 _ rfl) k0 (hK _ x rfl nn1 rfl)
  )
  True.intro)))
  (fun _ _ _ h=>(yH rfl h).elim) ?_
 intro g x hph hT;exact hok x hph
end
section
open Go.Maps
def Zl (F:Fz) (T:TS) (r:Option (Fz×TS)):Prop:=∀(base fb tb:Nat) (S:List Nat) (sv mv:Value) (V:TV) (w:World),FT base fb tb F T S sv mv V w->V.n<800000000000->
 Calls prog 158 #[.pointer (some ⟨fb,0,none⟩)] w (zbS r base fb tb T V S 2 w)
def Chain:Nat->Fz->TS->Option Fz->TS->Prop
 |0,F,T,o,T'=>F.ended=true/\o=some F/\T'=T
 |k+1,F,T,o,T'=>F.ended=false/\((k=0/\Zl F T none/\o=none/\T'=T)\/∃F1 T1,Zl F T (some (F1,T1))/\Chain k F1 T1 o T')
theorem Chain.done {F:Fz} {T:TS} (h:F.ended=true):Chain 0 F T (some F) T:=⟨h,rfl,rfl⟩
theorem Chain.step {k:Nat} {F F1:Fz} {T T1 T':TS} {o:Option Fz} (h:F.ended=false) (hs:Zl F T (some (F1,T1))) (hc:Chain k F1 T1 o T'):Chain (k+1) F T o T':=⟨h,Or.inr ⟨F1,T1,hs,hc⟩⟩
def zhS (o:Option Fz):Value:=match o with
 |some F=>zdo F.status F.gas F.out noL
 |none=>zdo 2 0 ⟨#[]⟩ noL
def zfM (base tb:Nat) (T T':TS) (V:TV) (S:List Nat) (m:Nat) (w w':World):Prop:=
 ∃V' S2,Tr base tb T' V' w'/\Kb S2 w w'/\(∀k∈S2,k∈S\/zF tb T V k)/\(∀k,zF tb T' V' k->zF tb T V k\/w.heap.size<=k)/\V'.n<=V.n+m/\V'.ab=V.ab
abbrev rc0:Obj:=.cells #[.int .u8 0,.int .i64 0,.string ⟨#[]⟩,.slice none 0 0] 38
structure Rn (base fb tb:Nat) (o:Option Fz) (T T':TS) (V:TV) (S:List Nat) (m:Nat) (w:World) (gk:Nat) (F1:Fz) (T1:TS) (S1:List Nat) (sv1 mv1:Value) (V1:TV) (x:World):Prop where
 ch:Chain gk F1 T1 o T'
 ft:FT base fb tb F1 T1 S1 sv1 mv1 V1 x
 kf:KF S tb T V (w.alloc rc0) x
 sub:∀k∈S1,k∈S\/(w.alloc rc0).heap.size<=k
 foot:∀k,zF tb T1 V1 k->zF tb T V k\/(w.alloc rc0).heap.size<=k
 n:V1.n+2*gk<=V.n+m
 ab:V1.ab=V.ab
 res:ResAt x w.heap.size 0 0 ⟨#[]⟩ noL
theorem ResAt.put {x:World} {b st0 gs0 st gs:Nat} {out0 out:ByteArray} {lv0 lv:Value} (h:ResAt x b st0 gs0 out0 lv0):ResAt (yJ x b st gs out lv) b st gs out lv:=by
 obtain⟨⟨k0,k1,k2,k3⟩,f0,f1,f2,f3⟩:=h;unfold ResAt yJ;simp[go_sem,k0,k1,k2,k3,f0,f1,f2,f3]
theorem Yh {S:List Nat} {w x:World} {b st gs:Nat} {out:ByteArray} {lv:Value} (h:Kb S w x) (hb:b∈S\/w.heap.size<=b):Kb S w (yJ x b st gs out lv):=(((h.setCell hb _).setCell hb _).setCell hb _).setCell hb _
theorem Rn.out {base fb tb:Nat} {o:Option Fz} {T T':TS} {V:TV} {S:List Nat} {m:Nat} {w:World} {gk:Nat} {F1:Fz} {S1:List Nat} {sv1 mv1:Value} {V1:TV} {x y:World} {st gs:Nat} {out:ByteArray} (h:Rn base fb tb o T T' V S m w gk F1 T' S1 sv1 mv1 V1 x) (hTL:∀k,zF tb T V k->k<w.heap.size) (hFO:∀k∈S,k<w.heap.size) (hk:Kb S1 x y):zfM base tb T T' V S m w (yJ y w.heap.size st gs out noL):=by
 have hsz:(w.alloc rc0).heap.size=w.heap.size+1:=by simp
 have hty:=h.ft.tr.kb hk h.ft.dis h.ft.fr.no0
 have hnb:¬zF tb T' V1 w.heap.size:=fun hf=>by
  rcases h.foot _ hf with e|e
  ·have:=hTL _ e;omega
  ·omega
 have hne:(0:Nat)≠w.heap.size:=fun e=>by
  have:=hTL tb (Or.inl rfl);omega
 obtain⟨S2,k1,k2⟩:=h.kf;refine⟨V1,S2++S,hty.kb (Yh (Kb.refl [w.heap.size] y) (Or.inl (by simp))) (fun k hk hf=>hnb (by simp at hk;rw[<-hk];exact hf)) (by simpa using hne), ?_,fun k hk=> ?_,fun k hk=> ?_,by have:=h.n;omega,h.ab⟩
 ·refine Yh ?_ (Or.inr (Nat.le_refl _));refine(((Kb.refl (S2++S) w).alloc rc0).trans (k1.mono (fun i hi=>List.mem_append_left _ hi)) (fun i hi=>Or.inl hi)).trans hk (fun i hi=> ?_);rcases h.sub i hi with e|e
  ·exact Or.inl (List.mem_append_right _ e)
  ·exact Or.inr (by omega)
 ·rcases List.mem_append.1 hk with e|e
  ·exact k2 k e
  ·exact Or.inl e
 ·rcases h.foot k hk with e|e
  ·exact Or.inl e
  ·exact Or.inr (by omega)
theorem Rn.no {base fb tb:Nat} {o:Option Fz} {T T1 T':TS} {V:TV} {S:List Nat} {m:Nat} {w:World} {gk:Nat} {F1:Fz} {S1:List Nat} {sv1 mv1:Value} {V1:TV} {x:World} (h:Rn base fb tb o T T' V S m w gk F1 T1 S1 sv1 mv1 V1 x) (hFO:∀k∈S,k<w.heap.size):w.heap.size∉S1:=fun hm=>by
 have hsz:(w.alloc rc0).heap.size=w.heap.size+1:=by simp
 rcases h.sub _ hm with e|e
 ·have:=hFO _ e;omega
 ·omega
theorem Rn.step {base fb tb:Nat} {o:Option Fz} {T T1 T2 T':TS} {V:TV} {S:List Nat} {m:Nat} {w:World} {gk:Nat} {F1 F2:Fz} {S1:List Nat} {sv1 mv1:Value} {V1:TV} {x y:World} (h:Rn base fb tb o T T' V S m w (gk+1) F1 T1 S1 sv1 mv1 V1 x) (hTL:∀k,zF tb T V k->k<w.heap.size) (hFO:∀k∈S,k<w.heap.size) (hc:Chain gk F2 T2 o T') (ht:To2 base fb tb F2 T1 T2 V1 S1 2 x y):∃S2 sv2 mv2 V2,Rn base fb tb o T T' V S m w gk F2 T2 S2 sv2 mv2 V2 y:=by
 have hsz:(w.alloc rc0).heap.size=w.heap.size+1:=by simp
 have hno:¬zF tb T1 V1 w.heap.size:=fun hf=>by
  rcases h.foot _ hf with e|e
  ·have:=hTL _ e;omega
  ·omega
 have hno2:=h.no hFO;obtain⟨S2,sv2,mv2,V2,j1,j2,j3,j4,j5,j6⟩:=To2.comp (m:=0) (T:=T) (V:={V with n:=V1.n}) (S:=S) (w:=w.alloc rc0) (fun k hk=>Nat.lt_of_lt_of_le (hFO k hk) (by omega)) (fun k hk=>Nat.lt_of_lt_of_le (hTL k hk) (by omega)) h.kf h.sub h.foot (Nat.le_refl _) h.ab ht;refine⟨S2,sv2,mv2,V2,hc,j1,j2,j3,j4, ?_,j6, ?_⟩
 ·have h1:=h.n;have h2:V2.n<=V1.n+(0+2):=j5;omega
 ·obtain⟨S9,sv9,mv9,V9,q1,⟨Sk,q2,q3⟩,_⟩:=ht;refine h.res.kb q2 fun hm=> ?_
  rcases q3 _ hm with e|e
  ·exact hno2 e
  ·exact hno e
theorem run_any {base fb tb:Nat} {F:Fz} {T T':TS} {S:List Nat} {sv mv:Value} {V:TV} {o:Option Fz} {k:Nat} (w:World) (h:FT base fb tb F T S sv mv V w) (hc:Chain k F T o T') (hn:V.n+2*k<800000000000):
  Calls prog 95 #[.pointer (some ⟨fb,0,none⟩)] w fun e w'=>e=.returned (zhS o)/\zfM base tb T T' V S (2*k) w w':=by
 have hmf:∀(fn:Fn) (first cap:Array Value) (w:World),(Instr.makeFunc fn first cap).run prog w=.ok (.func fn first cap) w:=fun _ _ _ _=>rfl
 have HST:Hid (Rn base fb tb o T T' V S (2*k) w k F T S sv mv V (w.alloc rc0)):=⟨hc,h.below (bal (Below.refl _ w) _),⟨[],Kb.refl _ _,by simp⟩,fun j hj=>Or.inl hj,fun j hj=>Or.inl hj,Nat.le_refl _,rfl,by unfold ResAt;simp[go_sem]⟩;have HN:=ze hn;have HFO:=ze h.foot;have HTL:Hid (∀k,zF tb T V k->k<w.heap.size):=fun k hk=>h.tr.lt hk
 clear h hc hn
 go_enter_defers func95,ntmps95
 go_wp2
 go_loopg [4] k (fun gk t4 wr=>∃F1 T1 S1 sv1 mv1 V1,Rn base fb tb o T T' V S (2*k) w gk F1 T1 S1 sv1 mv1 V1 wr)
 case atStart=>exact⟨F,T,S,sv,mv,V,HST.out⟩
 case round=>
  obtain⟨F1,T1,S1,sv1,mv1,V1,hR⟩:=hrel;have ce:=hR.ft.fr.row.cell (i:=24) (by decide);rw[show F1.cell sv1 mv1 24=.bool F1.ended from rfl] at ce;have HR:=ze hR;have hch:=hR.ch;clear hR HST;cases gk with
  |zero=>
   obtain⟨he,rfl,rfl⟩:=hch;rw[he] at ce;go_wp2;have q1:=HR.out.ft.fr.row.cell (i:=25) (by decide);rw[show F1.cell sv1 mv1 25=.int .u8 (F1.status:Int) from rfl] at q1;have q2:=HR.out.ft.fr.row.cell (i:=16) (by decide);rw[show F1.cell sv1 mv1 16=.int .i64 (F1.gas:Int) from rfl] at q2;have q3:=HR.out.ft.fr.row.cell (i:=26) (by decide);rw[show F1.cell sv1 mv1 26=.string F1.out from rfl] at q3;refine run_r4 (b:=w.heap.size) (st:=F1.status) (gs:=F1.gas) (out:=F1.out) _ _ HR.out.ft.fr.row.lt HR.out.res q1 q2 q3 (Below.refl _ _).drew rfl rfl rfl ?_;rintro x ⟨y,hy,rfl⟩;have HT:=ze (HR.out.out (st:=F1.status) (gs:=F1.gas) (out:=F1.out) HTL.out HFO.out (Kb.of_below (S:=S1) hy));obtain⟨⟨k0,k1,k2,k3⟩,_⟩:=(HR.out.res.below hy).put (st:=F1.status) (gs:=F1.gas) (out:=F1.out) (lv:=noL);generalize yJ y w.heap.size F1.status F1.gas F1.out noL=z at*;clear hy q1 q2 q3 ce;simp only[zL,List.foldl_cons,List.foldl_nil,Act.put];simp only[sx9];go_wp2;refine leaves_cons (f:=157) (args:=#[.pointer (some ⟨w.heap.size,0,none⟩)]) (by simp) (by simp[go_sem]) ?_;refine(ziq _).mono ?_;rintro e u' w'' ⟨rfl,rfl,rfl⟩;exact⟨_,by simp[results,results95,go_sem,k0,k1,k2,k3];rfl,rfl,HT.out⟩
  |succ k2=>
   obtain⟨he,⟨rfl,hs,rfl,rfl⟩|⟨F2,T2,hs,hc⟩⟩:=hch
   ·rw[he] at ce;have HS:=ze (hs base fb tb S1 sv1 mv1 V1 wr HR.out.ft (by have:=HR.out.n;have:=HN.out;omega));go_wp2_with fail
    refine HS.out.mono ?_;rintro e z ⟨⟨u,pv,rfl⟩,hk⟩;have hres:=HR.out.res.kb hk (HR.out.no HFO.out);have HT:=ze (HR.out.out (st:=2) (gs:=0) (out:=⟨#[]⟩) HTL.out HFO.out hk);obtain⟨⟨k0,k1,k2,k3⟩,_⟩:=hres.put (st:=2) (gs:=0) (out:=⟨#[]⟩) (lv:=noL);refine leaves_cons (f:=157) (args:=#[.pointer (some ⟨w.heap.size,0,none⟩)]) (by simp) (by simp[go_sem]) ?_;refine(zbP u pv [] z hres).mono ?_;rintro e u' w'' ⟨rfl,rfl,rfl⟩;generalize yJ z w.heap.size 2 0 ⟨#[]⟩ noL=z2 at*;exact⟨_,by simp[results,results95,go_sem,k0,k1,k2,k3];rfl,rfl,HT.out⟩
   ·rw[he] at ce;have HS:=ze (hs base fb tb S1 sv1 mv1 V1 wr HR.out.ft (by have:=HR.out.n;have:=HN.out;omega));have HC:=ze hc;clear hs hc;go_wp2_with fail
    refine HS.out.mono ?_;rintro e z ⟨rfl,ht⟩;have HX:=ze (HR.out.step HTL.out HFO.out HC.out ht);clear ht HS ce he;go_wp2
    go_roundg k2
    case measure=>exact Nat.lt_succ_self _
    case rel=>
     obtain⟨S2,sv2,mv2,V2,h2⟩:=HX.out;exact⟨_,_,S2,sv2,mv2,V2,h2⟩
end
section
open Go.Maps
abbrev mkV (a b:Nat):Value:=.agg #[.int .i64 (a:Int),.int .i64 (b:Int)]
theorem zmZ {base tb:Nat} {T:TS} {V:TV} (w:World) (h:Tr base tb T V w):
  Calls prog 93 #[.pointer (some ⟨tb,0,none⟩)] w fun e w'=>e=.returned (mkV T.ch.length T.logs.length)/\Below w.heap.size w w':=by
 have h2:=h.below ((bal (Below.refl _ w) (.cells #[.int .i64 0,.int .i64 0] 186)).drew);have c2:=h2.row.cell (i:=2) (by decide);rw[show trC V 2=V.cv from rfl] at c2;have c3:=h2.row.cell (i:=3) (by decide);rw[show trC V 3=V.lv from rfl] at c3;obtain⟨ad,cp,e1⟩:=ZN h.ch;obtain⟨ad2,cp2,e2⟩:=ZN h.lo.2.1;rw[e1] at c2;rw[e2] at c3;generalize T.ch.length=n1 at*;generalize T.logs.length=n2 at*;clear h h2 e1 e2;go_enter func93,ntmps93;go_wp2
 go_region
 go_wp2;refine bodyPost_ret (v:=mkV n1 n2) (by simp[results,results93,go_sem]) rfl ⟨rfl,(bal (Below.refl _ w) _).drew⟩
theorem To2.thenTr' {base tb m m':Nat} {T T1 T':TS} {V:TV} {S:List Nat} {w w1 w2:World} (hT:∀k,zF tb T V k->k<w.heap.size) (hS:∀k∈S,k<w.heap.size) {S1:List Nat} {V1:TV} (h2:KF S tb T V w w1) (h3:∀k∈S1,k∈S\/w.heap.size<=k) (h4:∀k,zF tb T1 V1 k->zF tb T V k\/w.heap.size<=k) (h5:V1.n<=V.n+m) (h6:V1.ab=V.ab) {V2:TV} {Sk:List Nat} (k2:Kb Sk w1 w2) (k2':∀k∈Sk,k∈S1\/zF tb T1 V1 k) (k4:∀k,zF tb T' V2 k->zF tb T1 V1 k\/w1.heap.size<=k) (k5:V2.n<=V1.n+m') (k6:V2.ab=V1.ab):∃S2,Kb S2 w w2/\(∀k∈S2,k∈S\/zF tb T V k)/\(∀k,zF tb T' V2 k->zF tb T V k\/w.heap.size<=k)/\V2.n<=V.n+(m+m')/\V2.ab=V.ab:=by
 obtain⟨Sh,h2,h2'⟩:=h2;refine⟨Sh++Sk.filter (fun k=>decide (k<w.heap.size)),(h2.mono (fun i hi=>List.mem_append_left _ hi)).trans k2 (fun i hi=> ?_),fun i hi=> ?_,fun i hi=> ?_,by omega,k6.trans h6⟩
 ·by_cases hl:i<w.heap.size
  ·exact Or.inl (List.mem_append_right _ (List.mem_filter.2 ⟨hi,by simpa using hl⟩))
  ·exact Or.inr (by omega)
 ·rcases List.mem_append.1 hi with e|e
  ·exact h2' i e
  ·obtain⟨e1,e2⟩:=List.mem_filter.1 e;have e2:i<w.heap.size:=by simpa using e2
   rcases k2' i e1 with e3|e3
   ·rcases h3 i e3 with e4|e4
    ·exact Or.inl e4
    ·omega
   ·rcases h4 i e3 with e4|e4
    ·exact Or.inr e4
    ·omega
 ·rcases k4 i hi with e|e
  ·exact h4 i e
  ·exact Or.inr (Nat.le_trans h2.size e)
abbrev wk4 (w:World) (amt fr tt:Nat):World:=(((w.alloc (wc amt)).alloc (wc fr)).alloc (wc tt)).alloc rc0
theorem zkk {base fb tb:Nat} {F F':Fz} {T T':TS} {S:List Nat} {sv mv:Value} {V:TV} {k:Nat} (amt fr tt:Nat) (w:World) (h:FT base fb tb F T S sv mv V w) (hc:Chain k F (za4 T amt fr tt) (some F') T') (hst:F'.status=0) (hn:V.n+4+2*k<800000000000) (hl:T.ch.length<999999990):
  Calls prog 61 #[.pointer (some ⟨tb,0,none⟩),.pointer (some ⟨fb,0,none⟩),wv amt,wv fr,wv tt] w fun e w'=>e=.returned (zdo 0 F'.gas F'.out noL)/\zfM base tb T T' V S (4+2*k) w w':=by
 have hB:Below w.heap.size w (wk4 w amt fr tt):=bal (bal (bal (bal (Below.refl _ w) _) _) _) _;have h2:=h.below hB;have HM:=ze (zmZ _ h2.tr);have HH:=ze h2;have HB:=ze hB;have HC:=ze hc;have HN:=ze hn;have HL:=ze hl;have HF:=ze h.foot;have HTL:Hid (∀k,zF tb T V k->k<w.heap.size):=fun k hk=>h.tr.lt hk
 clear h h2 hB hc hn hl;go_enter func61,ntmps61;go_wp2_with fail
 refine HM.out.mono ?_;rintro e w1 ⟨rfl,hb1⟩;have hB1:Below w.heap.size w w1:=HB.out.trans (hb1.mono HB.out.size);have hsz1:w.heap.size+1+1+1+1<=w1.heap.size:=by have:=hb1.size;simp at this;omega
 have r0:zS w1 w.heap.size amt:=zf (zf (zf (zf (Zn w amt) (bal (Below.refl _ _) (wc fr))) (bal (Below.refl _ _) (wc tt))) (bal (Below.refl _ _) rc0)) hb1
 have r1:zS w1 (w.heap.size+1) fr:=by
  have:=zf (zf (zf (Zn (w.alloc (wc amt)) fr) (bal (Below.refl _ _) (wc tt))) (bal (Below.refl _ _) rc0)) hb1;rw[show(w.alloc (wc amt)).heap.size=w.heap.size+1 by simp] at this;exact this
 have r2:zS w1 (w.heap.size+1+1) tt:=by
  have:=zf (zf (Zn ((w.alloc (wc amt)).alloc (wc fr)) tt) (bal (Below.refl _ _) rc0)) hb1;rw[show((w.alloc (wc amt)).alloc (wc fr)).heap.size=w.heap.size+1+1 by simp] at this;exact this
 have hrs:ResAt w1 (w.heap.size+1+1+1) 0 0 ⟨#[]⟩ noL:=by
  have h0:ResAt (wk4 w amt fr tt) (w.heap.size+1+1+1) 0 0 ⟨#[]⟩ noL:=by unfold ResAt;simp[go_sem]
  exact h0.below hb1
 have hB2:Below w1.heap.size w1 (w1.alloc (.cells #[.int .i64 (T.ch.length:Int),.int .i64 (T.logs.length:Int)] 186)):=bal (Below.refl _ w1) _;have h3:=(HH.out.below hb1).below hB2;have HMV:=ze (zm0 amt fr tt _ h3.tr HL.out (by have:=HN.out;omega));obtain⟨a0,a1,a2,a3⟩:=zb (zf r0 hB2);obtain⟨b0,b1,b2,b3⟩:=zb (zf r1 hB2);obtain⟨d0,d1,d2,d3⟩:=zb (zf r2 hB2);have HRS:=ze (hrs.below hB2);have HFT:=ze h3;have HB3:Hid (Below w.heap.size w (w1.alloc (.cells #[.int .i64 (T.ch.length:Int),.int .i64 (T.logs.length:Int)] 186))):=bal hB1 _;have HSZ:Hid (w.heap.size+1+1+1+1<=(w1.alloc (.cells #[.int .i64 (T.ch.length:Int),.int .i64 (T.logs.length:Int)] 186)).heap.size):=Nat.le_trans hsz1 hB2.size;clear hb1 hB1 hB2 h3 hrs r0 r1 r2 HM HH hsz1;go_wp2_with fail
 refine HMV.out.mono ?_;rintro e w3 ⟨rfl,ht⟩;obtain⟨S3,sv3,mv3,V3,j1,j2,j3,j4,j5,j6⟩:=HFT.out.trail ht;have HRUN:=ze (run_any w3 j1 HC.out (by have:=HN.out;omega));have hnoS:∀k∈S3,k<w.heap.size\/(w1.alloc (.cells #[.int .i64 (T.ch.length:Int),.int .i64 (T.logs.length:Int)] 186)).heap.size<=k:=fun k hk=>(j3 k hk).imp (HF.out k) id
 have hnoT:∀k,zF tb (za4 T amt fr tt) V3 k->k<w.heap.size\/(w1.alloc (.cells #[.int .i64 (T.ch.length:Int),.int .i64 (T.logs.length:Int)] 186)).heap.size<=k:=fun k hk=>(j4 k hk).imp (HTL.out k) id
 have hrs3:ResAt w3 (w.heap.size+1+1+1) 0 0 ⟨#[]⟩ noL:=by
  obtain⟨Sk,q1,q2⟩:=j2;refine HRS.out.kb q1 fun hm=> ?_
  rcases q2 _ hm with e|e
  ·have:=HF.out _ e;omega
  ·have:=HTL.out _ e;omega
 have HR3:=ze hrs3;have HW3:Hid (w.heap.size+1+1+1+1<=w3.heap.size):=Nat.le_trans HSZ.out (by obtain⟨Sk,q1,q2⟩:=j2;exact q1.size)
 have HTO:Hid (∀y,zfM base tb (za4 T amt fr tt) T' V3 S3 (2*k) w3 y->∃V9 S9,Tr base tb T' V9 y/\¬zF tb T' V9 (w.heap.size+1+1+1)/\Kb S9 w y/\(∀k∈S9,k∈S\/zF tb T V k)/\(∀k,zF tb T' V9 k->zF tb T V k\/w.heap.size<=k)/\V9.n<=V.n+(4+2*k)/\V9.ab=V.ab):=by
  rintro y ⟨V2,Sk,k1,k2,k2',k4,k5,k6⟩;obtain⟨S2,q1,q2,q3,q4,q5⟩:=To2.thenTr' (base:=base) (fun k hk=>Nat.lt_of_lt_of_le (HTL.out k hk) HB3.out.size) (fun k hk=>Nat.lt_of_lt_of_le (HF.out k hk) HB3.out.size) j2 j3 j4 j5 j6 k2 k2' k4 k5 k6;refine⟨V2,S2,k1,fun hf=> ?_,(Kb.of_below HB3.out).trans q1 (fun i hi=>Or.inl hi),q2,fun k hk=>(q3 k hk).imp id (fun h=>Nat.le_trans HB3.out.size h),q4,q5⟩;have hs:=HSZ.out;have hs3:=HW3.out;rcases k4 _ hf with e|e
  ·rcases hnoT _ e with e|e<;>omega
  ·omega
 have HNS:=ze (And.intro hnoS hnoT);clear ht j1 j2 j3 j4 j5 j6 hrs3 hnoS hnoT HMV a0 a1 a2 a3 b0 b1 b2 b3 d0 d1 d2 d3 HC;go_wp2_with fail
 refine HRUN.out.mono ?_;rintro e w4 ⟨rfl,ht⟩
 have hrs4:ResAt w4 (w.heap.size+1+1+1) 0 0 ⟨#[]⟩ noL:=by
  obtain⟨V9,S9,_,q1,q2,_⟩:=ht;refine HR3.out.kb q1 fun hm=> ?_
  have hs:=HSZ.out;rcases q2 _ hm with e|e
  ·rcases HNS.out.1 _ e with e|e<;>omega
  ·rcases HNS.out.2 _ e with e|e<;>omega
 have hrs5:=hrs4.below (bal (Below.refl _ w4) (.cells #[.int .u8 0,.int .i64 (F'.gas:Int),.string F'.out,.slice none 0 0] 38));have HX:=ze (HTO.out _ ht);obtain⟨⟨k0,k1,k2,k3⟩,f0,f1,f2,f3⟩:=hrs5
 have hres:zhS (some F')=.agg #[.int .u8 0,.int .i64 (F'.gas:Int),.string F'.out,.slice none 0 0]:=by
  unfold zhS;show zdo _ _ _ _=_;rw[hst];rfl
 rw[hres];have HR5:Hid (ResAt (yJ (w4.alloc (.cells #[.int .u8 0,.int .i64 (F'.gas:Int),.string F'.out,.slice none 0 0] 38)) (w.heap.size+1+1+1) 0 F'.gas F'.out noL) (w.heap.size+1+1+1) 0 F'.gas F'.out noL):=(hrs4.below (bal (Below.refl _ w4) _)).put
 have HBP:Hid (zfM base tb T T' V S (4+2*k) w (yJ (w4.alloc (.cells #[.int .u8 0,.int .i64 (F'.gas:Int),.string F'.out,.slice none 0 0] 38)) (w.heap.size+1+1+1) 0 F'.gas F'.out noL)):=by
  obtain⟨V9,S9,q1,hnb,q2,q3,q4,q5,q6⟩:=HX.out;refine⟨V9,S9,(q1.below (bal (Below.refl _ _) _)).kb (Yh (Kb.refl [w.heap.size+1+1+1] _) (Or.inl (by simp))) (fun k hk hf=>hnb (by simp at hk;rw[<-hk];exact hf)) (by simp),Yh (q2.alloc _) (Or.inr (by omega)),q3,q4,q5,q6⟩
 clear ht hrs4 HX hres HTO HR3 HRUN;go_wp2;change bodyPost prog f61 _ _ _ (yJ (w4.alloc (.cells #[.int .u8 0,.int .i64 (F'.gas:Int),.string F'.out,.slice none 0 0] 38)) (w.heap.size+1+1+1) 0 F'.gas F'.out noL);generalize yJ (w4.alloc (.cells #[.int .u8 0,.int .i64 (F'.gas:Int),.string F'.out,.slice none 0 0] 38)) (w.heap.size+1+1+1) 0 F'.gas F'.out noL=z at*;obtain⟨⟨y0,y1,y2,y3⟩,_⟩:=HR5.out;refine bodyPost_ret (v:=zdo 0 F'.gas F'.out noL) (by simp[results,results61,go_sem,y0,y1,y2,y3]) rfl ⟨rfl,HBP.out⟩
end
section
open Go.Maps
def zcw (tb:Nat) (code:ByteArray) (jd:Value):Fz:={trail:=.pointer (some ⟨tb,0,none⟩),code:=code,jd:=jd,self:=0,caller:=0,value:=0,data:=⟨#[]⟩,gas:=0,ro:=false,depth:=0,st:=[],mem:=[],ret:=⟨#[]⟩,pc:=0,nx:=0,ended:=false,status:=0,out:=⟨#[]⟩}
def newC (tb:Nat) (code:ByteArray) (jd:Value):Array Value:=#[.pointer (some ⟨tb,0,none⟩),.string code,jd,.int .u64 0,.int .u64 0,.int .u64 0,.int .u64 0,.int .u64 0,.int .u64 0,.int .u64 0,.int .u64 0,.int .u64 0,.int .u64 0,.int .u64 0,.int .u64 0,.string ⟨#[]⟩,.int .i64 0,.bool false,.int .i64 0,.slice none 0 0,.slice none 0 0,.string ⟨#[]⟩,.int .i64 0,.int .i64 0,.bool false,.int .u8 0,.string ⟨#[]⟩]
theorem lt27 {i:Nat} (h:i<27):i=0\/i=1\/i=2\/i=3\/i=4\/i=5\/i=6\/i=7\/i=8\/i=9\/i=10\/i=11\/i=12\/i=13\/i=14\/i=15\/i=16\/i=17\/i=18\/i=19\/i=20\/i=21\/i=22\/i=23\/i=24\/i=25\/i=26:=by omega
theorem newF_FT {base tb:Nat} {T:TS} {V:TV} {w x:World} {code:ByteArray} {jd:Value} (h:Tr base tb T V w) (hb:Below w.heap.size w x) (hj:Jds x jd code) (hcs:code.size<=1000):
  FT base x.heap.size tb (zcw tb code jd) T [x.heap.size] (.slice none 0 0) (.slice none 0 0) V (x.alloc (.cells (newC tb code jd) 137)):=by
 have hB:Below x.heap.size x (x.alloc (.cells (newC tb code jd) 137)):=bal (Below.refl _ x) _;have hT:=(h.below hb).below hB;refine⟨⟨?_,World.ownsRow_nil _ _ _ _,World.ownsRow_nil _ _ _ _,rfl,by simp[zcw],by simp[zcw],by simp[zcw],hT.hb,fun i hi=> ?_,h.hb1,Nat.le_trans h.hb hb.size,by simp[zcw],hj.kb (Kb.of_below (S:=[]) hB) (by simp)⟩,hT,rfl,fun k hk hf=> ?_⟩
 ·refine World.rowIs_alloc x _ _ _ fun i hi=> ?_
  rcases lt27 hi with rfl|rfl|rfl|rfl|rfl|rfl|rfl|rfl|rfl|rfl|rfl|rfl|rfl|rfl|rfl|rfl|rfl|rfl|rfl|rfl|rfl|rfl|rfl|rfl|rfl|rfl|rfl<;>first|rfl|(simp[newC,zcw,Fz.cell,zl])
 ·obtain⟨⟨z0,z1,z2,z3⟩,_⟩:=hT.zr;rcases k4 hi with rfl|rfl|rfl|rfl<;>assumption
 ·obtain rfl:k=x.heap.size:=by simpa using hk
  have:=(h.below hb).lt hf;omega
theorem zfi {base tb:Nat} {T:TS} {V:TV} (code:ByteArray) (hcs:code.size<=1000) (w:World) (h:Tr base tb T V w):
  Calls prog 60 #[.pointer (some ⟨tb,0,none⟩),.string code] w fun e w'=>∃fb jd,e=.returned (.pointer (some ⟨fb,0,none⟩))/\w.heap.size<=fb/\Below w.heap.size w w'/\FT base fb tb (zcw tb code jd) T [fb] (.slice none 0 0) (.slice none 0 0) V w':=by
 have HJ:=ze (za6 code (by omega) w);have HT:=ze h;clear h;go_enter func60,ntmps60;go_wp2_with fail
 refine HJ.out.mono ?_;rintro e x ⟨v,rfl,⟨g,cap,rfl,hg⟩,hb⟩;have HG:=ze hg;have HB:=ze hb;clear hg hb HJ;go_wp2;refine bodyPost_ret (v:=.pointer (some ⟨x.heap.size,0,none⟩)) (by simp[results,results60,go_sem]) rfl ⟨x.heap.size,.slice (some ⟨g,0,none⟩) (code.size+1) cap,rfl,HB.out.size,bal HB.out _, ?_⟩;exact newF_FT HT.out HB.out ⟨g,cap,rfl,HG.out⟩ hcs
end
section
open Go.Maps
theorem zfe:Own 60:=fun _ _=>by kernel_rfl
def NF (base tb:Nat) (T:TS) (V:TV) (code:ByteArray) (w:World):Kp:=fun p v x=>p=1/\∃fb jd,v=.pointer (some ⟨fb,0,none⟩)/\w.heap.size<=fb/\Below w.heap.size w x/\FT base fb tb (zcw tb code jd) T [fb] (.slice none 0 0) (.slice none 0 0) V x
theorem zhZ {t d:Nat} {v:Value} {ty:TypeId} {s:Act} {x:World} {pos:String} {af:Array Edge} {g:Option (Nat×Bool)} {K:Act->World->Prop} {Q:Exit->Act->World->Prop} (he:s.tmps.getD t undef=v) (hK:K (s.put (some d) v) x):
  Oper.wp prog ⟨some d,.assign (.tmp t),ty,pos,af,g⟩ s x K Q:=by
 have he2:s.eval (.tmp t)=v:=he;go_simp;exact hK
theorem zik {base tb mb ab tt bl:Nat} {o:Option Nat} {T:TS} {V:TV} {code:ByteArray} {Q:Exit->Act->World->Prop} (a:Act) (w:World) (h:Tr base tb T V w) (hcs:code.size<=1000) (hlt:tb<w.heap.size) (hab:w.cell? ⟨tb,0,none⟩=some (.map (some ab))) (hto:∀x,Below w.heap.size w x->x.cell? ⟨mb,4,none⟩=some (.int .u64 (za tt 0))/\x.cell? ⟨mb,5,none⟩=some (.int .u64 (za tt 1))/\x.cell? ⟨mb,6,none⟩=some (.int .u64 (za tt 2))/\x.cell? ⟨mb,7,none⟩=some (.int .u64 (za tt 3))) (hlook:∀x,Below w.heap.size w x->(Instr.lookup 89 (.map (some ab)) (wv tt) false).run prog x=.ok (Zx bl code (.map o)) x) (h0:Below w.heap.size w w.drew) (hsz:([7,8,9,10,11,12,13,14,15,16,5]:List Nat).all (fun d=>decide (d<a.tmps.size))=true) (c0:a.tmps.getD 0 undef=.pointer (some ⟨tb,0,none⟩)) (c3:a.tmps.getD 3 undef=.pointer (some ⟨mb,0,none⟩))
  (hok:∀(x:World) (z9:Value) (z10:Value),(PhO (fun x=>Below w.heap.size w x) w) 1 x->(NF base tb T V code w) 1 z9 x->(NF base tb T V code w) 1 z10 x->Q .normal (zL a [(7,.pointer (some ⟨tb,0,none⟩)),(8,.pointer (some ⟨tb,0,none⟩)),(9,.pointer (some ⟨tb,0,none⟩)),(10,.pointer (some ⟨tb,0,none⟩)),(11,.map (some ab)),(12,.pointer (some ⟨mb,4,none⟩)),(13,wv tt),(14,Zx bl code (.map o)),(15,.string code),(16,z9),(5,z10)]) x):
  (Code.region 1 #[⟨some 7,.move (.tmp 0),96,"trail.go:111",#[],none⟩,⟨some 8,.move (.tmp 0),96,"trail.go:111",#[],none⟩,⟨some 9,.nilCheck (.tmp 8),0,"trail.go:111",#[⟨1,.data⟩],none⟩,⟨some 10,.fieldAddr 131 (.tmp 9) 0,0,"trail.go:111",#[⟨2,.data⟩],none⟩,⟨some 11,.load 89 (.tmp 10),89,"trail.go:111",#[⟨3,.data⟩],none⟩,⟨some 12,.fieldAddr 43 (.tmp 3) 1,0,"trail.go:111",#[],none⟩,⟨some 13,.load 24 (.tmp 12),24,"trail.go:111",#[⟨5,.data⟩],none⟩,⟨some 14,.lookup 89 (.tmp 11) (.tmp 13) false,95,"trail.go:111",#[⟨4,.data⟩,⟨6,.data⟩],none⟩,⟨some 15,.field 95 (.tmp 14) 1,9,"trail.go:111",#[⟨7,.data⟩],none⟩,⟨some 16,.call ⟨.value (.func 60),#[.tmp 7,.tmp 15],#[96,9]⟩,132,"trail.go:111",#[⟨0,.data⟩,⟨8,.data⟩],none⟩,⟨some 5,.assign (.tmp 16),132,"trail.go:111",#[⟨9,.data⟩,⟨9,.chain⟩,⟨0,.phase⟩,⟨1,.phase⟩,⟨2,.phase⟩,⟨3,.phase⟩,⟨4,.phase⟩,⟨5,.phase⟩,⟨6,.phase⟩,⟨7,.phase⟩,⟨8,.phase⟩,⟨9,.phase⟩],none⟩] true).wp prog Q a w:=by
 refine zX (PhO (fun x=>Below w.heap.size w x) w) (fun _ _ _=>True) [(0,.pointer (some ⟨tb,0,none⟩)),(3,.pointer (some ⟨mb,0,none⟩))] [(some 7,.v (.pointer (some ⟨tb,0,none⟩))),(some 8,.v (.pointer (some ⟨tb,0,none⟩))),(some 9,.v (.pointer (some ⟨tb,0,none⟩))),(some 10,.v (.pointer (some ⟨tb,0,none⟩))),(some 11,.v (.map (some ab))),(some 12,.v (.pointer (some ⟨mb,4,none⟩))),(some 13,.v (wv tt)),(some 14,.v (Zx bl code (.map o))),(some 15,.v (.string code)),(some 16,.l (NF base tb T V code w)),(some 5,.l (NF base tb T V code w))] [9] [4,6,7,8,10] (by kernel_rfl) hsz (zW c0 (zW c3 rfl)) (by kernel_rfl) h0
  (zk _ _ _ rfl rfl (fun s x hph hdf hv hl K hK=>by
   have hph:Below w.heap.size w x:=hph;refine zN zfe (ev2 (hv 7 _ rfl) (hv 15 _ rfl)) (zfi code hcs x (h.below hph)) ?_;rintro e y ⟨fb,jd,rfl,h1,h2,h3⟩;have hB:Below w.heap.size w y:=hph.trans (h2.mono hph.size);exact⟨_,rfl,hK _ y hB trivial nn1 ⟨rfl,fb,jd,rfl,Nat.le_trans hph.size h1,hB,h3⟩⟩
  )
  True.intro)
  (zk _ _ _ rfl rfl (fun k s x hk hlo hhi hph hdf hv hl K hK=>by
   have k0:x.cell? ⟨tb,0,none⟩=some (.map (some ab)):=((Z3 hph (by have:=hhi 0 9 rfl (by kernel_rfl);omega)).cell hlt).trans hab;exact Zh (fun w=>by kernel_rfl) (hv 10 _ rfl) k0 (hK _ x rfl nn1 rfl)
  )
  (zk _ _ _ rfl rfl (fun k s x hk hlo hhi hph hdf hv hl K hK=>by
   obtain⟨y0,y1,y2,y3⟩:=hto x (Z3 hph (by have:=hhi 0 9 rfl (by kernel_rfl);omega));exact Zb (n:=tt) (hv 12 _ rfl) y0 y1 y2 y3 (hK _ x rfl nn1 rfl)
  )
  (zk _ _ _ rfl rfl (fun k s x hk hlo hhi hph hdf hv hl K hK=>by
   have hk:=hlook x (Z3 hph (by have:=hhi 0 9 rfl (by kernel_rfl);omega));have e11:=hv 11 _ rfl;have f11:s.eval (.tmp 11)=_:=e11;have e13:=hv 13 _ rfl;have f13:s.eval (.tmp 13)=_:=e13;clear hv hl hlo hhi hdf;go_simp;exact(hK _ x rfl nn1 rfl)
  )
  (zk _ _ _ rfl rfl (fun k s x hk hlo hhi hph hdf hv hl K hK=>by
   have hk:=acc_f1 bl code o x;have e14:=hv 14 _ rfl;have f14:s.eval (.tmp 14)=_:=e14;clear hv hl hlo hhi hdf;go_simp;exact(hK _ x rfl nn1 rfl)
  )
  (zk _ _ _ rfl rfl (fun k s x hk hlo hhi hph hdf hv hl K hK=>by
   exact zhZ rfl (hK _ x rfl nn1 (hl 16 _ rfl))
  )
  True.intro)))))
  (zcp (And.intro (fun p v x x' hne hpl hph hrel ht=>by
   exact absurd ht.1 (by simp at hpl;omega))
  (And.intro (fun p v x x' hne hpl hph hrel ht=>by
   exact absurd ht.1 (by simp at hpl;omega))
  trivial))) ?_
 intro g x hph hT;exact hok x (g 9) (g 10) hph (hT 9 _ _ rfl) (hT 10 _ _ rfl)
end
section
open Go.Maps
theorem Fr.own' {base fb:Nat} {F F':Fz} {S:List Nat} {sv mv:Value} {w w':World} (h:Fr base fb F S sv mv w) (hst:F'.st=F.st) (hme:F'.mem=F.mem) (hjd:F'.jd=F.jd) (hcd:F'.code=F.code) (hg:F'.gas<=100000) (hr:w'.rowIs fb 137 27 (F'.cell sv mv)) (hk:Kb [fb] w w'):Fr base fb F' S sv mv w':=
 ⟨hr,by rw[hst];exact hk.own h.st (fun k hk=>by simpa using h.fs k hk),by rw[hme];exact hk.own h.me (fun k hk=>by simpa using h.fm k hk),h.foot,by rw[hst];exact h.stl,by rw[hme];exact h.mel,hg,Nat.le_trans h.hb hk.size,zc0 h.zr hk (fun hm=>h.no0 (by rw[h.foot];simp at hm;simp[hm])) h.hs,h.hb1,h.hfb,by rw[hme];exact h.m32,by rw[hjd,hcd];exact h.jr.kb hk (fun g N f hr hm=>h.bno g N f hr (by rw[h.foot];simp at hm;simp[hm]))⟩
theorem FT.own {base fb tb:Nat} {F F':Fz} {T:TS} {S:List Nat} {sv mv:Value} {V:TV} {w w':World} (h:FT base fb tb F T S sv mv V w) (hst:F'.st=F.st) (hme:F'.mem=F.mem) (hjd:F'.jd=F.jd) (hcd:F'.code=F.code) (htr:F'.trail=F.trail) (hg:F'.gas<=100000) (hr:w'.rowIs fb 137 27 (F'.cell sv mv)) (hk:Kb [fb] w w'):FT base fb tb F' T S sv mv V w':=by
 have hfb:fb∈S:=by rw[h.fr.foot];simp
 refine⟨h.fr.own' hst hme hjd hcd hg hr hk,h.tr.kb hk (fun k hk=> ?_) (fun e=>h.fr.no0 (by simp at e;rw[e];exact hfb)),htr.trans h.ptr,h.dis⟩;obtain rfl:k=fb:=by simpa using hk
 exact h.dis _ hfb
def zgY (x:World) (b o n:Nat):World:=(((x.setCell ⟨b,o,none⟩ (.int .u64 (za n 0))).setCell ⟨b,o+1,none⟩ (.int .u64 (za n 1))).setCell ⟨b,o+2,none⟩ (.int .u64 (za n 2))).setCell ⟨b,o+3,none⟩ (.int .u64 (za n 3))
theorem yT (x:World) (b o n:Nat):Kb [b] x (zgY x b o n):=((((Kb.refl [b] x).setCell (Or.inl (by simp)) _).setCell (Or.inl (by simp)) _).setCell (Or.inl (by simp)) _).setCell (Or.inl (by simp)) _
theorem zjN {x:World} {b T N o n:Nat} {f:Nat->Value} (h:x.rowIs b T N f):(zgY x b o n).rowIs b T N (fun i=>if i=o+3 then .int .u64 (za n 3) else if i=o+2 then .int .u64 (za n 2) else if i=o+1 then .int .u64 (za n 1) else if i=o then .int .u64 (za n 0) else f i):=
 (((h.set o (.int .u64 (za n 0))).set (o+1) (.int .u64 (za n 1))).set (o+2) (.int .u64 (za n 2))).set (o+3) (.int .u64 (za n 3))
section
variable {s:Act} {x:World} {pos:String} {af:Array Edge} {g:Option (Nat×Bool)} {K:Act->World->Prop} {Q:Exit->Act->World->Prop}
theorem zbv {t1 t2 b n T N:Nat} {f:Nat->Value} {ty:TypeId} (o:Nat) (h1:s.tmps.getD t1 undef=.pointer (some ⟨b,o,none⟩)) (h2:s.tmps.getD t2 undef=wv n) (hr:x.rowIs b T N f) (ho:o+3<N) (hK:K (s.put none undef) (zgY x b o n)):
  Oper.wp prog ⟨none,.store 24 (.tmp t1) (.tmp t2),ty,pos,af,g⟩ s x K Q:=by
 have e1:s.eval (.tmp t1)=.pointer (some ⟨b,o,none⟩):=h1;have e2:s.eval (.tmp t2)=wv n:=h2;have k0:=hr.cell (i:=o) (by omega);have k1:=hr.cell (i:=o+1) (by omega);have k2:=hr.cell (i:=o+2) (by omega);have k3:=hr.cell (i:=o+3) (by omega);have f0:=hr.frozen o;have f1:=hr.frozen (o+1);have f2:=hr.frozen (o+2);have f3:=hr.frozen (o+3);unfold zgY at hK;clear hr;go_simp;exact hK
theorem zjQ {t1 t2 b o:Nat} {v:ByteArray} {u:Value} {ty:TypeId} (h1:s.tmps.getD t1 undef=.pointer (some ⟨b,o,none⟩)) (h2:s.tmps.getD t2 undef=.string v) (hc:x.cell? ⟨b,o,none⟩=some u) (hf:x.frozen? ⟨b,o,none⟩=false) (hK:K (s.put none undef) (x.setCell ⟨b,o,none⟩ (.string v))):
  Oper.wp prog ⟨none,.store 9 (.tmp t1) (.tmp t2),ty,pos,af,g⟩ s x K Q:=by
 have e1:s.eval (.tmp t1)=.pointer (some ⟨b,o,none⟩):=h1;have e2:s.eval (.tmp t2)=.string v:=h2;go_simp;exact hK
theorem zj8 {t1 t2 b o:Nat} {v:Int} {u:Value} {ty:TypeId} (h1:s.tmps.getD t1 undef=.pointer (some ⟨b,o,none⟩)) (h2:s.tmps.getD t2 undef=.int .i64 v) (hc:x.cell? ⟨b,o,none⟩=some u) (hf:x.frozen? ⟨b,o,none⟩=false) (hK:K (s.put none undef) (x.setCell ⟨b,o,none⟩ (.int .i64 v))):
  Oper.wp prog ⟨none,.store 3 (.tmp t1) (.tmp t2),ty,pos,af,g⟩ s x K Q:=by
 have e1:s.eval (.tmp t1)=.pointer (some ⟨b,o,none⟩):=h1;have e2:s.eval (.tmp t2)=.int .i64 v:=h2;go_simp;exact hK
end
theorem zjG (F:Fz) (sv mv:Value) (n:Nat):(fun i=>if i=3+3 then .int .u64 (za n 3) else if i=3+2 then .int .u64 (za n 2) else if i=3+1 then .int .u64 (za n 1) else if i=3 then .int .u64 (za n 0) else F.cell sv mv i)=({F with self:=n}:Fz).cell sv mv:=by
 funext i;by_cases h3:i=3+3
 ·subst h3;rfl
 by_cases h2:i=3+2
 ·subst h2;rfl
 by_cases h1:i=3+1
 ·subst h1;rfl
 by_cases h0:i=3
 ·subst h0;rfl
 rw[if_neg h3,if_neg h2,if_neg h1,if_neg h0];have h0':¬i=3+0:=h0;simp only[Fz.cell,if_neg h3,if_neg h2,if_neg h1,if_neg h0']
theorem zfI (F:Fz) (sv mv:Value) (n:Nat):(fun i=>if i=7+3 then .int .u64 (za n 3) else if i=7+2 then .int .u64 (za n 2) else if i=7+1 then .int .u64 (za n 1) else if i=7 then .int .u64 (za n 0) else F.cell sv mv i)=({F with caller:=n}:Fz).cell sv mv:=by
 funext i;by_cases h3:i=7+3
 ·subst h3;rfl
 by_cases h2:i=7+2
 ·subst h2;rfl
 by_cases h1:i=7+1
 ·subst h1;rfl
 by_cases h0:i=7
 ·subst h0;rfl
 rw[if_neg h3,if_neg h2,if_neg h1,if_neg h0];have h0':¬i=7+0:=h0;simp only[Fz.cell,if_neg h3,if_neg h2,if_neg h1,if_neg h0']
theorem zhu (F:Fz) (sv mv:Value) (n:Nat):(fun i=>if i=11+3 then .int .u64 (za n 3) else if i=11+2 then .int .u64 (za n 2) else if i=11+1 then .int .u64 (za n 1) else if i=11 then .int .u64 (za n 0) else F.cell sv mv i)=({F with value:=n}:Fz).cell sv mv:=by
 funext i;by_cases h3:i=11+3
 ·subst h3;rfl
 by_cases h2:i=11+2
 ·subst h2;rfl
 by_cases h1:i=11+1
 ·subst h1;rfl
 by_cases h0:i=11
 ·subst h0;rfl
 rw[if_neg h3,if_neg h2,if_neg h1,if_neg h0];have h0':¬i=11+0:=h0;simp only[Fz.cell,if_neg h3,if_neg h2,if_neg h1,if_neg h0']
theorem zjy (F:Fz) (sv mv:Value) (v:ByteArray):(fun i=>if i=15 then .string v else F.cell sv mv i)=({F with data:=v}:Fz).cell sv mv:=by
 funext i;by_cases h:i=15
 ·subst h;rfl
 ·simp only[Fz.cell,if_neg h]
theorem zhF (F:Fz) (sv mv:Value) (n:Nat):(fun i=>if i=18 then .int .i64 (n:Int) else F.cell sv mv i)=({F with depth:=n}:Fz).cell sv mv:=by
 funext i;by_cases h:i=18
 ·subst h;rfl
 ·simp only[Fz.cell,if_neg h]
theorem zfp {w:World} {fb T N:Nat} {f f':Nat->Value} {o:Nat} {v:Value} (h:w.rowIs fb T N f) (e:(fun i=>if i=o then v else f i)=f'):(w.setCell ⟨fb,o,none⟩ v).rowIs fb T N f':=by
 rw[<-e];exact h.set o v
theorem zcG {w:World} {fb T N:Nat} {f f':Nat->Value} {o n:Nat} (h:w.rowIs fb T N f) (e:(fun i=>if i=o+3 then .int .u64 (za n 3) else if i=o+2 then .int .u64 (za n 2) else if i=o+1 then .int .u64 (za n 1) else if i=o then .int .u64 (za n 0) else f i)=f'):(zgY w fb o n).rowIs fb T N f':=by
 rw[<-e];exact zjN h
def PhD (base fb tb:Nat) (G:Nat->Fz) (T:TS) (S:List Nat) (sv mv:Value) (V:TV) (w:World) (p:Nat) (x:World):Prop:=FT base fb tb (G p) T S sv mv V x/\Kb [fb] w x
theorem zhE {base fb tb mb fr tt val:Nat} {F:Fz} {T:TS} {S:List Nat} {sv mv:Value} {V:TV} {Q:Exit->Act->World->Prop} (a:Act) (w:World) (h:FT base fb tb F T S sv mv V w) (htt:∀x,Kb [fb] w x->x.cell? ⟨mb,4,none⟩=some (.int .u64 (za tt 0))/\x.cell? ⟨mb,5,none⟩=some (.int .u64 (za tt 1))/\x.cell? ⟨mb,6,none⟩=some (.int .u64 (za tt 2))/\x.cell? ⟨mb,7,none⟩=some (.int .u64 (za tt 3))) (hfr:∀x,Kb [fb] w x->x.cell? ⟨mb,0,none⟩=some (.int .u64 (za fr 0))/\x.cell? ⟨mb,1,none⟩=some (.int .u64 (za fr 1))/\x.cell? ⟨mb,2,none⟩=some (.int .u64 (za fr 2))/\x.cell? ⟨mb,3,none⟩=some (.int .u64 (za fr 3))) (hval:∀x,Kb [fb] w x->x.cell? ⟨mb,8,none⟩=some (.int .u64 (za val 0))/\x.cell? ⟨mb,9,none⟩=some (.int .u64 (za val 1))/\x.cell? ⟨mb,10,none⟩=some (.int .u64 (za val 2))/\x.cell? ⟨mb,11,none⟩=some (.int .u64 (za val 3))) (h0:PhD base fb tb (fun p=>match p with|0=>F|1=>{F with self:=tt}|2=>{F with self:=tt,caller:=fr}|_=>{F with self:=tt,caller:=fr,value:=val}) T S sv mv V w 0 w.drew) (hsz:([20,21,22,23,24,25,26,27,28,29,30,31,32,33,34]:List Nat).all (fun d=>decide (d<a.tmps.size))=true) (c3:a.tmps.getD 3 undef=.pointer (some ⟨mb,0,none⟩)) (c5:a.tmps.getD 5 undef=.pointer (some ⟨fb,0,none⟩))
  (hok:∀(x:World),(PhD base fb tb (fun p=>match p with|0=>F|1=>{F with self:=tt}|2=>{F with self:=tt,caller:=fr}|_=>{F with self:=tt,caller:=fr,value:=val}) T S sv mv V w) 3 x->Q .normal (zL a [(20,.pointer (some ⟨fb,0,none⟩)),(21,.pointer (some ⟨fb,0,none⟩)),(22,.pointer (some ⟨fb,0,none⟩)),(23,.pointer (some ⟨mb,4,none⟩)),(24,wv tt),(25,.pointer (some ⟨mb,0,none⟩)),(26,wv fr),(27,.pointer (some ⟨mb,8,none⟩)),(28,wv val),(29,.pointer (some ⟨fb,0,none⟩)),(30,.pointer (some ⟨fb,3,none⟩)),(31,.pointer (some ⟨fb,0,none⟩)),(32,.pointer (some ⟨fb,7,none⟩)),(33,.pointer (some ⟨fb,0,none⟩)),(34,.pointer (some ⟨fb,11,none⟩))]) x):
  (Code.region 3 #[⟨some 20,.move (.tmp 5),132,"trail.go:113",#[],none⟩,⟨some 21,.move (.tmp 5),132,"trail.go:113",#[⟨11,.gcOnly .lateStores⟩],none⟩,⟨some 22,.move (.tmp 5),132,"trail.go:113",#[⟨14,.gcOnly .lateStores⟩],none⟩,⟨some 23,.fieldAddr 43 (.tmp 3) 1,0,"trail.go:113",#[],none⟩,⟨some 24,.load 24 (.tmp 23),24,"trail.go:113",#[⟨3,.data⟩],none⟩,⟨some 25,.fieldAddr 43 (.tmp 3) 0,0,"trail.go:113",#[⟨11,.gcOnly .lateStores⟩],none⟩,⟨some 26,.load 24 (.tmp 25),24,"trail.go:113",#[⟨5,.data⟩,⟨11,.gcOnly .lateStores⟩],none⟩,⟨some 27,.fieldAddr 43 (.tmp 3) 2,0,"trail.go:113",#[⟨14,.gcOnly .lateStores⟩],none⟩,⟨some 28,.load 24 (.tmp 27),24,"trail.go:113",#[⟨7,.data⟩,⟨14,.gcOnly .lateStores⟩],none⟩,⟨some 29,.nilCheck (.tmp 20),0,"trail.go:113",#[⟨0,.data⟩,⟨0,.phase⟩,⟨1,.textOnly .lateStores⟩,⟨2,.textOnly .lateStores⟩,⟨3,.phase⟩,⟨4,.phase⟩,⟨5,.textOnly .lateStores⟩,⟨6,.textOnly .lateStores⟩,⟨7,.textOnly .lateStores⟩,⟨8,.textOnly .lateStores⟩],none⟩,⟨some 30,.fieldAddr 137 (.tmp 29) 3,0,"trail.go:113",#[⟨9,.data⟩,⟨0,.phase⟩,⟨1,.textOnly .lateStores⟩,⟨2,.textOnly .lateStores⟩,⟨3,.phase⟩,⟨4,.phase⟩,⟨5,.textOnly .lateStores⟩,⟨6,.textOnly .lateStores⟩,⟨7,.textOnly .lateStores⟩,⟨8,.textOnly .lateStores⟩],none⟩,⟨none,.store 24 (.tmp 30) (.tmp 24),0,"trail.go:113",#[⟨10,.data⟩,⟨4,.data⟩,⟨0,.phase⟩,⟨1,.textOnly .lateStores⟩,⟨2,.textOnly .lateStores⟩,⟨3,.phase⟩,⟨4,.phase⟩,⟨5,.textOnly .lateStores⟩,⟨6,.textOnly .lateStores⟩,⟨7,.textOnly .lateStores⟩,⟨8,.textOnly .lateStores⟩],none⟩,⟨some 31,.nilCheck (.tmp 21),0,"trail.go:113",#[⟨1,.data⟩,⟨0,.phase⟩,⟨1,.phase⟩,⟨2,.textOnly .lateStores⟩,⟨3,.phase⟩,⟨4,.phase⟩,⟨5,.phase⟩,⟨6,.phase⟩,⟨7,.textOnly .lateStores⟩,⟨8,.textOnly .lateStores⟩,⟨9,.phase⟩,⟨10,.phase⟩,⟨11,.phase⟩],none⟩,⟨some 32,.fieldAddr 137 (.tmp 31) 4,0,"trail.go:113",#[⟨12,.data⟩,⟨0,.phase⟩,⟨1,.phase⟩,⟨2,.textOnly .lateStores⟩,⟨3,.phase⟩,⟨4,.phase⟩,⟨5,.phase⟩,⟨6,.phase⟩,⟨7,.textOnly .lateStores⟩,⟨8,.textOnly .lateStores⟩,⟨9,.phase⟩,⟨10,.phase⟩,⟨11,.phase⟩],none⟩,⟨none,.store 24 (.tmp 32) (.tmp 26),0,"trail.go:113",#[⟨13,.data⟩,⟨6,.data⟩,⟨11,.chain⟩,⟨0,.phase⟩,⟨1,.phase⟩,⟨2,.textOnly .lateStores⟩,⟨3,.phase⟩,⟨4,.phase⟩,⟨5,.phase⟩,⟨6,.phase⟩,⟨7,.textOnly .lateStores⟩,⟨8,.textOnly .lateStores⟩,⟨9,.phase⟩,⟨10,.phase⟩,⟨11,.phase⟩],none⟩,⟨some 33,.nilCheck (.tmp 22),0,"trail.go:113",#[⟨2,.data⟩,⟨0,.phase⟩,⟨1,.phase⟩,⟨2,.phase⟩,⟨3,.phase⟩,⟨4,.phase⟩,⟨5,.phase⟩,⟨6,.phase⟩,⟨7,.phase⟩,⟨8,.phase⟩,⟨9,.phase⟩,⟨10,.phase⟩,⟨11,.phase⟩,⟨12,.phase⟩,⟨13,.phase⟩,⟨14,.phase⟩],none⟩,⟨some 34,.fieldAddr 137 (.tmp 33) 5,0,"trail.go:113",#[⟨15,.data⟩,⟨0,.phase⟩,⟨1,.phase⟩,⟨2,.phase⟩,⟨3,.phase⟩,⟨4,.phase⟩,⟨5,.phase⟩,⟨6,.phase⟩,⟨7,.phase⟩,⟨8,.phase⟩,⟨9,.phase⟩,⟨10,.phase⟩,⟨11,.phase⟩,⟨12,.phase⟩,⟨13,.phase⟩,⟨14,.phase⟩],none⟩,⟨none,.store 24 (.tmp 34) (.tmp 28),0,"trail.go:113",#[⟨16,.data⟩,⟨8,.data⟩,⟨14,.chain⟩,⟨0,.phase⟩,⟨1,.phase⟩,⟨2,.phase⟩,⟨3,.phase⟩,⟨4,.phase⟩,⟨5,.phase⟩,⟨6,.phase⟩,⟨7,.phase⟩,⟨8,.phase⟩,⟨9,.phase⟩,⟨10,.phase⟩,⟨11,.phase⟩,⟨12,.phase⟩,⟨13,.phase⟩,⟨14,.phase⟩],none⟩] true).wp prog Q a w:=by
 refine zX (PhD base fb tb (fun p=>match p with|0=>F|1=>{F with self:=tt}|2=>{F with self:=tt,caller:=fr}|_=>{F with self:=tt,caller:=fr,value:=val}) T S sv mv V w) (fun _ _ _=>True) [(3,.pointer (some ⟨mb,0,none⟩)),(5,.pointer (some ⟨fb,0,none⟩))] [(some 20,.v (.pointer (some ⟨fb,0,none⟩))),(some 21,.v (.pointer (some ⟨fb,0,none⟩))),(some 22,.v (.pointer (some ⟨fb,0,none⟩))),(some 23,.v (.pointer (some ⟨mb,4,none⟩))),(some 24,.v (wv tt)),(some 25,.v (.pointer (some ⟨mb,0,none⟩))),(some 26,.v (wv fr)),(some 27,.v (.pointer (some ⟨mb,8,none⟩))),(some 28,.v (wv val)),(some 29,.v (.pointer (some ⟨fb,0,none⟩))),(some 30,.v (.pointer (some ⟨fb,3,none⟩))),(none,.v undef),(some 31,.v (.pointer (some ⟨fb,0,none⟩))),(some 32,.v (.pointer (some ⟨fb,7,none⟩))),(none,.v undef),(some 33,.v (.pointer (some ⟨fb,0,none⟩))),(some 34,.v (.pointer (some ⟨fb,11,none⟩))),(none,.v undef)] [11,14,17] [4,6,8] (by kernel_rfl) hsz (zW c3 (zW c5 rfl)) (by kernel_rfl) h0
  (zk _ _ _ rfl rfl (fun s x hph hdf hv hl K hK=>by
   have hr:=hph.1.fr.row;refine zbv 3 (hv 30 _ rfl) (hv 24 _ rfl) hr (by decide) (hK undef _ ⟨hph.1.own rfl rfl rfl rfl rfl hph.1.fr.gal ?_ (yT _ _ _ _),hph.2.trans (yT _ _ _ _) (fun i hi=>Or.inl hi)⟩ trivial (fun _=>rfl) rfl);exact zcG hr (zjG _ sv mv _)
  )
  (zk _ _ _ rfl rfl (fun s x hph hdf hv hl K hK=>by
   have hr:=hph.1.fr.row;refine zbv 7 (hv 32 _ rfl) (hv 26 _ rfl) hr (by decide) (hK undef _ ⟨hph.1.own rfl rfl rfl rfl rfl hph.1.fr.gal ?_ (yT _ _ _ _),hph.2.trans (yT _ _ _ _) (fun i hi=>Or.inl hi)⟩ trivial (fun _=>rfl) rfl);exact zcG hr (zfI _ sv mv _)
  )
  (zk _ _ _ rfl rfl (fun s x hph hdf hv hl K hK=>by
   have hr:=hph.1.fr.row;refine zbv 11 (hv 34 _ rfl) (hv 28 _ rfl) hr (by decide) (hK undef _ ⟨hph.1.own rfl rfl rfl rfl rfl hph.1.fr.gal ?_ (yT _ _ _ _),hph.2.trans (yT _ _ _ _) (fun i hi=>Or.inl hi)⟩ trivial (fun _=>rfl) rfl);exact zcG hr (zhu _ sv mv _)
  )
  True.intro)))
  (zk _ _ _ rfl rfl (fun k s x hk hlo hhi hph hdf hv hl K hK=>by
   obtain⟨y0,y1,y2,y3⟩:=htt x hph.2;exact Zb (n:=tt) (hv 23 _ rfl) y0 y1 y2 y3 (hK _ x rfl nn1 rfl)
  )
  (zk _ _ _ rfl rfl (fun k s x hk hlo hhi hph hdf hv hl K hK=>by
   obtain⟨y0,y1,y2,y3⟩:=hfr x hph.2;exact Zb (n:=fr) (hv 25 _ rfl) y0 y1 y2 y3 (hK _ x rfl nn1 rfl)
  )
  (zk _ _ _ rfl rfl (fun k s x hk hlo hhi hph hdf hv hl K hK=>by
   obtain⟨y0,y1,y2,y3⟩:=hval x hph.2;exact Zb (n:=val) (hv 27 _ rfl) y0 y1 y2 y3 (hK _ x rfl nn1 rfl)
  )
  True.intro)))
  (fun _ _ _ h=>(yH rfl h).elim) ?_
 intro g x hph hT;exact hok x hph
theorem zhQ {base fb tb mb gs:Nat} {F:Fz} {data:ByteArray} {T:TS} {S:List Nat} {sv mv:Value} {V:TV} {Q:Exit->Act->World->Prop} (a:Act) (w:World) (h:FT base fb tb F T S sv mv V w) (hgl:gs<=100000) (hdata:∀x,Kb [fb] w x->x.cell? ⟨mb,12,none⟩=some (.string data)) (hgs:∀x,Kb [fb] w x->x.cell? ⟨mb,13,none⟩=some (.int .i64 (gs:Int))) (h0:PhD base fb tb (fun p=>match p with|0=>F|1=>{F with data:=data}|_=>{F with data:=data,gas:=gs}) T S sv mv V w 0 w.drew) (hsz:([35,36,37,38,39,40,41,42,43,44]:List Nat).all (fun d=>decide (d<a.tmps.size))=true) (c3:a.tmps.getD 3 undef=.pointer (some ⟨mb,0,none⟩)) (c5:a.tmps.getD 5 undef=.pointer (some ⟨fb,0,none⟩))
  (hok:∀(x:World),(PhD base fb tb (fun p=>match p with|0=>F|1=>{F with data:=data}|_=>{F with data:=data,gas:=gs}) T S sv mv V w) 2 x->Q .normal (zL a [(35,.pointer (some ⟨fb,0,none⟩)),(36,.pointer (some ⟨fb,0,none⟩)),(37,.pointer (some ⟨mb,12,none⟩)),(38,.string data),(39,.pointer (some ⟨mb,13,none⟩)),(40,.int .i64 (gs:Int)),(41,.pointer (some ⟨fb,0,none⟩)),(42,.pointer (some ⟨fb,15,none⟩)),(43,.pointer (some ⟨fb,0,none⟩)),(44,.pointer (some ⟨fb,16,none⟩))]) x):
  (Code.region 4 #[⟨some 35,.move (.tmp 5),132,"trail.go:114",#[],none⟩,⟨some 36,.move (.tmp 5),132,"trail.go:114",#[⟨8,.gcOnly .lateStores⟩],none⟩,⟨some 37,.fieldAddr 43 (.tmp 3) 3,0,"trail.go:114",#[],none⟩,⟨some 38,.load 9 (.tmp 37),9,"trail.go:114",#[⟨2,.data⟩],none⟩,⟨some 39,.fieldAddr 43 (.tmp 3) 4,0,"trail.go:114",#[⟨8,.gcOnly .lateStores⟩],none⟩,⟨some 40,.load 3 (.tmp 39),3,"trail.go:114",#[⟨4,.data⟩,⟨8,.gcOnly .lateStores⟩],none⟩,⟨some 41,.nilCheck (.tmp 35),0,"trail.go:114",#[⟨0,.data⟩,⟨0,.phase⟩,⟨1,.textOnly .lateStores⟩,⟨2,.phase⟩,⟨3,.phase⟩,⟨4,.textOnly .lateStores⟩,⟨5,.textOnly .lateStores⟩],none⟩,⟨some 42,.fieldAddr 137 (.tmp 41) 6,0,"trail.go:114",#[⟨6,.data⟩,⟨0,.phase⟩,⟨1,.textOnly .lateStores⟩,⟨2,.phase⟩,⟨3,.phase⟩,⟨4,.textOnly .lateStores⟩,⟨5,.textOnly .lateStores⟩],none⟩,⟨none,.store 9 (.tmp 42) (.tmp 38),0,"trail.go:114",#[⟨7,.data⟩,⟨3,.data⟩,⟨0,.phase⟩,⟨1,.textOnly .lateStores⟩,⟨2,.phase⟩,⟨3,.phase⟩,⟨4,.textOnly .lateStores⟩,⟨5,.textOnly .lateStores⟩],none⟩,⟨some 43,.nilCheck (.tmp 36),0,"trail.go:114",#[⟨1,.data⟩,⟨0,.phase⟩,⟨1,.phase⟩,⟨2,.phase⟩,⟨3,.phase⟩,⟨4,.phase⟩,⟨5,.phase⟩,⟨6,.phase⟩,⟨7,.phase⟩,⟨8,.phase⟩],none⟩,⟨some 44,.fieldAddr 137 (.tmp 43) 7,0,"trail.go:114",#[⟨9,.data⟩,⟨0,.phase⟩,⟨1,.phase⟩,⟨2,.phase⟩,⟨3,.phase⟩,⟨4,.phase⟩,⟨5,.phase⟩,⟨6,.phase⟩,⟨7,.phase⟩,⟨8,.phase⟩],none⟩,⟨none,.store 3 (.tmp 44) (.tmp 40),0,"trail.go:114",#[⟨10,.data⟩,⟨5,.data⟩,⟨8,.chain⟩,⟨0,.phase⟩,⟨1,.phase⟩,⟨2,.phase⟩,⟨3,.phase⟩,⟨4,.phase⟩,⟨5,.phase⟩,⟨6,.phase⟩,⟨7,.phase⟩,⟨8,.phase⟩],none⟩] true).wp prog Q a w:=by
 refine zX (PhD base fb tb (fun p=>match p with|0=>F|1=>{F with data:=data}|_=>{F with data:=data,gas:=gs}) T S sv mv V w) (fun _ _ _=>True) [(3,.pointer (some ⟨mb,0,none⟩)),(5,.pointer (some ⟨fb,0,none⟩))] [(some 35,.v (.pointer (some ⟨fb,0,none⟩))),(some 36,.v (.pointer (some ⟨fb,0,none⟩))),(some 37,.v (.pointer (some ⟨mb,12,none⟩))),(some 38,.v (.string data)),(some 39,.v (.pointer (some ⟨mb,13,none⟩))),(some 40,.v (.int .i64 (gs:Int))),(some 41,.v (.pointer (some ⟨fb,0,none⟩))),(some 42,.v (.pointer (some ⟨fb,15,none⟩))),(none,.v undef),(some 43,.v (.pointer (some ⟨fb,0,none⟩))),(some 44,.v (.pointer (some ⟨fb,16,none⟩))),(none,.v undef)] [8,11] [3,5] (by kernel_rfl) hsz (zW c3 (zW c5 rfl)) (by kernel_rfl) h0
  (zk _ _ _ rfl rfl (fun s x hph hdf hv hl K hK=>by
   have hr:=hph.1.fr.row;exact zjQ (hv 42 _ rfl) (hv 38 _ rfl) (hr.cell (i:=15) (by decide)) (hr.frozen _) (hK undef _ ⟨hph.1.own rfl rfl rfl rfl rfl hph.1.fr.gal (zfp hr (zjy _ sv mv data)) ((Kb.refl [fb] x).setCell (Or.inl (by simp)) _),hph.2.setCell (Or.inl (by simp)) _⟩ trivial (fun _=>rfl) rfl)
  )
  (zk _ _ _ rfl rfl (fun s x hph hdf hv hl K hK=>by
   have hr:=hph.1.fr.row;exact zj8 (hv 44 _ rfl) (hv 40 _ rfl) (hr.cell (i:=16) (by decide)) (hr.frozen _) (hK undef _ ⟨hph.1.own rfl rfl rfl rfl rfl hgl (zfp hr (zfT _ sv mv gs)) ((Kb.refl [fb] x).setCell (Or.inl (by simp)) _),hph.2.setCell (Or.inl (by simp)) _⟩ trivial (fun _=>rfl) rfl)
  )
  True.intro))
  (zk _ _ _ rfl rfl (fun k s x hk hlo hhi hph hdf hv hl K hK=>by
   have k0:=hdata x hph.2;exact Zh (fun w=>by kernel_rfl) (hv 37 _ rfl) k0 (hK _ x rfl nn1 rfl)
  )
  (zk _ _ _ rfl rfl (fun k s x hk hlo hhi hph hdf hv hl K hK=>by
   have k0:=hgs x hph.2;exact Zh (fun w=>by kernel_rfl) (hv 39 _ rfl) k0 (hK _ x rfl nn1 rfl)
  )
  True.intro))
  (fun _ _ _ h=>(yH rfl h).elim) ?_
 intro g x hph hT;exact hok x hph
end
end cin
end Go.Proofs.YtohoajjdoihekaaGreatDoor
