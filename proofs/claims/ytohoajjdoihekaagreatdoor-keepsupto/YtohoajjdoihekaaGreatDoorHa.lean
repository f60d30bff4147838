import Derived.Test.YtohoajjdoihekaaGreatDoorReg
import Derived.RegionTactic
set_option linter.unusedVariables false
set_option linter.unusedSimpArgs false
namespace Go.Proofs.YtohoajjdoihekaaGreatDoor
namespace cin
open Go.RowKit Go.Proofs.Tryz Tryz
set_option maxRecDepth 100000
set_option maxHeartbeats 8000000
theorem zf4 (h:Bool) (w:World):Calls prog 108 #[.bool h] w (Ret w (zcf h)):=by
 cases h
 ·go_enter func108,ntmps108;go_wp2;refine bodyPost_ret (v:=wv 0) (by simp[results,results108,go_sem,zs]) rfl (Zo (by rfl) ?_);exact bal (Below.refl _ _) _
 ·go_enter func108,ntmps108;go_wp2;refine bodyPost_ret (v:=wv 1) (by rw[<-wv_one];simp[results,results108,go_sem]) rfl (Zo (by rfl) ?_);exact bal (Below.refl _ _) _
theorem not_w (a:Nat) (w:World):Calls prog 114 #[wv a] w (Ret w (zfF (a%M))):=by
 refine(not_any a w).mono ?_;rintro e w' ⟨rfl,hb⟩;refine Zo ?_ hb;unfold zfc zfF;rfl
theorem shl_w (a b:Nat) (w:World):Calls prog 116 #[wv a,wv b] w (Ret w (zbX (a%M) b)):=by
 refine(shl_any a b w).mono ?_;rintro e w' ⟨rfl,hb⟩;refine Zo ?_ hb;rw[<-shlw_eq (a%M) b (Nat.mod_lt _ Yx),Nat.mod_mod];unfold zgP;rw[Nat.mod_mod]
theorem zln (a b:Nat) (w:World):Calls prog 117 #[wv a,wv b] w (Ret w (zd0 (a%M) (b%M))):=by
 rw[<-zdk b];refine(shr_any a (b%M) (Nat.mod_lt _ Yx) w).mono ?_;rintro e w' ⟨rfl,hb⟩;refine Zo ?_ hb;rw[<-shrw_eq (a%M) _ (Nat.mod_lt _ Yx)];unfold zgH;rw[Nat.mod_mod]
theorem zgL (a b:Nat) (w:World):Calls prog 109 #[wv a,wv b] w fun e w'=>∃r:Bool,Hid (r=decide (a%M<b%M))/\e=.returned (.bool r)/\Below w.heap.size w w':=
 (zhR a b w).mono fun _ _ h=>⟨_,rfl,h.1,h.2⟩
theorem i6 {i:Nat} (h:i<6):i=0\/i=1\/i=2\/i=3\/i=4\/i=5:=by omega
theorem i5' {i:Nat} (h:i<5):i=0\/i=1\/i=2\/i=3\/i=4:=by omega
theorem YX (a:Nat) (na:Bool) (h:Hid (neg a=na)) (w:World):Calls prog 167 #[wv a] w fun e w'=>e=.returned (.bool na)/\Below w.heap.size w w':=by
 have:=zba a w;rw[h.out] at this;exact this
structure S2 (w:World) (a b:Nat) (x:World):Prop where
 ra:x.rowIs w.heap.size 24 4 (zu (za a))
 rb:x.rowIs (w.heap.size+1) 24 4 (zu (za b))
 be:Below w.heap.size w x
theorem S2.drew {w:World} {a b:Nat} {x:World} (h:S2 w a b x):S2 w a b x.drew:=⟨h.ra,h.rb,h.be.drew⟩
theorem S2.call {w:World} {a b:Nat} {x y:World} (h:S2 w a b x) (hb:Below x.heap.size x y):S2 w a b y:=⟨zg h.ra hb,zg h.rb hb,ZE h.be hb⟩
theorem S2.start (w:World) (a b:Nat):S2 w a b ((w.alloc (.cells #[.int .u64 (za a 0),.int .u64 (za a 1),.int .u64 (za a 2),.int .u64 (za a 3)] 24)).alloc (.cells #[.int .u64 (za b 0),.int .u64 (za b 1),.int .u64 (za b 2),.int .u64 (za b 3)] 24)):=
 ⟨zj (za a) rfl rfl rfl rfl rfl |>.alloc _,zj (za b) (by simp) rfl rfl rfl rfl,bal (bal (Below.refl _ _) _) _⟩
structure S3 (w:World) (a b:Nat) (x:World):Prop where
 ra:x.rowIs w.heap.size 24 4 (zu (za a))
 rb:x.rowIs (w.heap.size+1) 24 4 (zu (za b))
 rz:∃f:Nat->Int,x.rowIs (w.heap.size+1+1) 24 4 (zu f)
 be:Below w.heap.size w x
theorem S3.drew {w:World} {a b:Nat} {x:World} (h:S3 w a b x):S3 w a b x.drew:=⟨h.ra,h.rb,h.rz,h.be.drew⟩
theorem S3.alloc {w:World} {a b:Nat} {x:World} (h:S3 w a b x) (o:Obj):S3 w a b (x.alloc o):=⟨h.ra.alloc _,h.rb.alloc _,h.rz.imp fun _ h=>h.alloc _,bal h.be _⟩
theorem S3.call {w:World} {a b:Nat} {x y:World} (h:S3 w a b x) (hb:Below x.heap.size x y):S3 w a b y:=⟨zg h.ra hb,zg h.rb hb,h.rz.imp fun _ h=>zg h hb,ZE h.be hb⟩
theorem S3.put {w:World} {a b:Nat} {x:World} (h:S3 w a b x) (r:Nat):S3 w a b ((((x.setCell ⟨w.heap.size+1+1,0,none⟩ (.int .u64 (za r 0))).setCell ⟨w.heap.size+1+1,1,none⟩ (.int .u64 (za r 1))).setCell ⟨w.heap.size+1+1,2,none⟩ (.int .u64 (za r 2))).setCell ⟨w.heap.size+1+1,3,none⟩ (.int .u64 (za r 3))):=by
 obtain⟨f,hf⟩:=h.rz;exact⟨zR h.ra (by omega) _ _ _ _,zR h.rb (by omega) _ _ _ _,⟨za r,zy hf (za r) rfl rfl rfl rfl⟩,zC h.be (by omega) _ _ _ _⟩
theorem S3.start (w:World) (a b:Nat):S3 w a b (((w.alloc (.cells #[.int .u64 (za a 0),.int .u64 (za a 1),.int .u64 (za a 2),.int .u64 (za a 3)] 24)).alloc (.cells #[.int .u64 (za b 0),.int .u64 (za b 1),.int .u64 (za b 2),.int .u64 (za b 3)] 24)).alloc (.cells #[.int .u64 0,.int .u64 0,.int .u64 0,.int .u64 0] 24)):=
 ⟨zj (za a) rfl rfl rfl rfl rfl |>.alloc _ |>.alloc _,zj (za b) (by simp) rfl rfl rfl rfl |>.alloc _,⟨fun _=>0,zj (fun _=>0) (by simp) rfl rfl rfl rfl⟩,bal (bal (bal (Below.refl _ _) _) _) _⟩
def FSar (w:World) (a b nb sh r:Nat):Nat->Act->World->Prop
 |0,s,_=>s.tmps.getD 7 undef=wv a
 |1,s,_=>s.tmps.getD 8 undef=wv b
 |2,s,_=>s.tmps.getD 9 undef=wv nb
 |3,s,_=>s.tmps.getD 10 undef=wv sh
 |4,s,_=>s.tmps.getD 11 undef=wv r
 |5,s,x=>x.rowIs (w.heap.size+1+1) 24 4 (zu (za r))
 |_,_,_=>True
theorem zaI (w:World) (a b nb sh r:Nat) (j:Nat) (h:6<=j) (s:Act) (x:World):FSar w a b nb sh r j s x:=by
 match j,h with
 |j+6,_=>trivial
def GSar (w:World) (a b:Nat) (s:Act) (x:World):Prop:=∃s5 s6 s7 s8 s9 s10 s11 s12 s13 s14:Value,
 s=⟨#[wv a,wv b,.pointer (some ⟨w.heap.size,0,none⟩),.pointer (some ⟨w.heap.size+1,0,none⟩),.pointer (some ⟨w.heap.size+1+1,0,none⟩),s5,s6,s7,s8,s9,s10,s11,s12,s13,s14],[]⟩/\S3 w a b x
theorem sar_neg {a b nb sh r:Nat} (h1:nb=zfF (b%M)) (h2:sh=zd0 (a%M) (nb%M)) (h3:r=zfF (sh%M)) (hn:neg b=true):r%M=zjr (a%M) (b%M)%M:=by
 unfold zjr;rw[ZY,hn,if_pos rfl,h3,h2,h1,Nat.mod_eq_of_lt (zlj (b%M)),Nat.mod_eq_of_lt (fshr_lt (a%M) _ (zlj (b%M)))]
theorem zlu (a b:Nat) (w:World):Calls prog 118 #[wv a,wv b] w (Ret w (zjr (a%M) (b%M))):=by
 obtain⟨nb,HNB⟩:∃nb,Hid (nb=zfF (b%M)):=⟨_,rfl⟩;obtain⟨sh,HSH⟩:∃sh,Hid (sh=zd0 (a%M) (nb%M)):=⟨_,rfl⟩;obtain⟨r,HR⟩:∃r,Hid (r=zfF (sh%M)):=⟨_,rfl⟩;obtain⟨ng,HN⟩:∃ng,Hid (neg b=ng):=⟨_,rfl⟩;have hs:=S3.start w a b;go_enter func118,ntmps118;go_wp2_with fail
 refine(YX b ng HN _).mono ?_;rintro e w1 ⟨rfl,hb⟩;replace hs:=hs.call hb;clear hb;cases ng
 ·obtain⟨a0,a1,a2,a3⟩:=ze hs.ra;obtain⟨b0,b1,b2,b3⟩:=ze hs.rb;go_wp2_with fail
  refine(zln a b _).mono ?_;rintro e w2 ⟨s,HS,rfl,hb⟩;replace hs:=hs.call hb;clear hb a0 a1 a2 a3 b0 b1 b2 b3;obtain⟨f0,hf0⟩:=hs.rz;obtain⟨y0,y1,y2,y3⟩:=ze hf0;have fz:=hf0.frozen;go_wp2;obtain⟨q0,q1,q2,q3⟩:=ze (zy hf0 (za s) rfl rfl rfl rfl);refine bodyPost_ret (v:=wv s) (by simp[results,results118,go_sem,q0,q1,q2,q3]) rfl (Zo (by rw[HS.out];unfold zjr;rw[ZY,HN.out,if_neg (by decide)]) ?_);exact(hs.put s).be
 ·go_wp2;refine ZK (by kernel_rfl) (GSar w a b) (FSar w a b nb sh r) (YF (by kernel_rfl)) ?_ ?_ ?_
  ·exact⟨_,_,_,_,_,_,_,_,_,_,rfl,hs.drew⟩
  ·intro i o ho s x hG hdep;obtain⟨s5,s6,s7,s8,s9,s10,s11,s12,s13,s14,rfl,hs⟩:=hG;have hi:i<6:=(Array.getElem?_eq_some_iff.1 ho).1;rcases i6 hi with rfl|rfl|rfl|rfl|rfl|rfl
   ·obtain rfl:=sj ho;refine wpOp_step rfl fun K hK=> ?_
    obtain⟨y0,y1,y2,y3⟩:=ze hs.ra;go_simp;refine hK _ _ ⟨⟨_,_,_,_,_,_,_,_,_,_,rfl,hs⟩,rfl,fun j hj hd hF=> ?_⟩;rcases Nat.lt_or_ge j 6 with hjn|hjn
    ·rcases i6 hjn with rfl|rfl|rfl|rfl|rfl|rfl
     ·exact absurd rfl hj
     ·have h:s8=wv b:=hF;exact h
     ·have h:s9=wv nb:=hF;exact h
     ·exfalso;revert hd;exact of_decide_eq_true (by kernel_rfl)
     ·have h:s11=wv r:=hF;exact h
     ·have h:x.rowIs (w.heap.size+1+1) 24 4 (zu (za r)):=hF;exact h
    ·exact zaI _ _ _ _ _ _ _ hjn _ _
   ·obtain rfl:=sj ho;refine wpOp_step rfl fun K hK=> ?_
    obtain⟨y0,y1,y2,y3⟩:=ze hs.rb;go_simp;refine hK _ _ ⟨⟨_,_,_,_,_,_,_,_,_,_,rfl,hs⟩,rfl,fun j hj hd hF=> ?_⟩;rcases Nat.lt_or_ge j 6 with hjn|hjn
    ·rcases i6 hjn with rfl|rfl|rfl|rfl|rfl|rfl
     ·have h:s7=wv a:=hF;exact h
     ·exact absurd rfl hj
     ·exfalso;revert hd;exact of_decide_eq_true (by kernel_rfl)
     ·have h:s10=wv sh:=hF;exact h
     ·have h:s11=wv r:=hF;exact h
     ·have h:x.rowIs (w.heap.size+1+1) 24 4 (zu (za r)):=hF;exact h
    ·exact zaI _ _ _ _ _ _ _ hjn _ _
   ·obtain rfl:=sj ho;refine wpOp_step rfl fun K hK=> ?_
    have h1:s8=wv b:=hdep ⟨1,.data⟩ (by simp) rfl;subst h1;go_simp;refine(not_w b _).mono ?_;rintro e y ⟨rr,HRR,rfl,hb⟩;obtain rfl:rr=nb:=HRR.out.trans HNB.out.symm;dsimp only;refine hK _ _ ⟨⟨_,_,_,_,_,_,_,_,_,_,rfl,hs.call hb⟩,rfl,fun j hj hd hF=> ?_⟩;rcases Nat.lt_or_ge j 6 with hjn|hjn
    ·rcases i6 hjn with rfl|rfl|rfl|rfl|rfl|rfl
     ·have h:s7=wv a:=hF;exact h
     ·exact(rfl:(wv b:Value)=wv b)
     ·exact absurd rfl hj
     ·exfalso;revert hd;exact of_decide_eq_true (by kernel_rfl)
     ·have h:s11=wv r:=hF;exact h
     ·have h:x.rowIs (w.heap.size+1+1) 24 4 (zu (za r)):=hF;exact zg h hb
    ·exact zaI _ _ _ _ _ _ _ hjn _ _
   ·obtain rfl:=sj ho;refine wpOp_step rfl fun K hK=> ?_
    have h0:s7=wv a:=hdep ⟨0,.data⟩ (by simp) rfl;subst h0;have h2:s9=wv nb:=hdep ⟨2,.data⟩ (by simp) rfl;subst h2;go_simp;refine(zln a nb _).mono ?_;rintro e y ⟨rr,HRR,rfl,hb⟩;obtain rfl:rr=sh:=HRR.out.trans HSH.out.symm;dsimp only;refine hK _ _ ⟨⟨_,_,_,_,_,_,_,_,_,_,rfl,hs.call hb⟩,rfl,fun j hj hd hF=> ?_⟩;rcases Nat.lt_or_ge j 6 with hjn|hjn
    ·rcases i6 hjn with rfl|rfl|rfl|rfl|rfl|rfl
     ·exact(rfl:(wv a:Value)=wv a)
     ·have h:s8=wv b:=hF;exact h
     ·exact(rfl:(wv nb:Value)=wv nb)
     ·exact absurd rfl hj
     ·exfalso;revert hd;exact of_decide_eq_true (by kernel_rfl)
     ·have h:x.rowIs (w.heap.size+1+1) 24 4 (zu (za r)):=hF;exact zg h hb
    ·exact zaI _ _ _ _ _ _ _ hjn _ _
   ·obtain rfl:=sj ho;refine wpOp_step rfl fun K hK=> ?_
    have h3:s10=wv sh:=hdep ⟨3,.data⟩ (by simp) rfl;subst h3;go_simp;refine(not_w sh _).mono ?_;rintro e y ⟨rr,HRR,rfl,hb⟩;obtain rfl:rr=r:=HRR.out.trans HR.out.symm;dsimp only;refine hK _ _ ⟨⟨_,_,_,_,_,_,_,_,_,_,rfl,hs.call hb⟩,rfl,fun j hj hd hF=> ?_⟩;rcases Nat.lt_or_ge j 6 with hjn|hjn
    ·rcases i6 hjn with rfl|rfl|rfl|rfl|rfl|rfl
     ·have h:s7=wv a:=hF;exact h
     ·have h:s8=wv b:=hF;exact h
     ·have h:s9=wv nb:=hF;exact h
     ·exact(rfl:(wv sh:Value)=wv sh)
     ·exact absurd rfl hj
     ·exfalso;revert hd;exact of_decide_eq_true (by kernel_rfl)
    ·exact zaI _ _ _ _ _ _ _ hjn _ _
   ·obtain rfl:=sj ho;refine wpOp_step rfl fun K hK=> ?_
    have h4:s11=wv r:=hdep ⟨4,.data⟩ (by simp) rfl;subst h4;obtain⟨f0,hf0⟩:=hs.rz;obtain⟨y0,y1,y2,y3⟩:=ze hf0;have fz:=hf0.frozen;go_simp;refine hK _ _ ⟨⟨_,_,_,_,_,_,_,_,_,_,rfl,hs.put r⟩,zy hf0 (za r) rfl rfl rfl rfl,fun j hj hd hF=> ?_⟩;rcases Nat.lt_or_ge j 6 with hjn|hjn
    ·rcases i6 hjn with rfl|rfl|rfl|rfl|rfl|rfl
     ·have h:s7=wv a:=hF;exact h
     ·have h:s8=wv b:=hF;exact h
     ·have h:s9=wv nb:=hF;exact h
     ·have h:s10=wv sh:=hF;exact h
     ·exact(rfl:(wv r:Value)=wv r)
     ·exact absurd rfl hj
    ·exact zaI _ _ _ _ _ _ _ hjn _ _
  ·intro s x hG hF;obtain⟨s5,s6,s7,s8,s9,s10,s11,s12,s13,s14,rfl,hs⟩:=hG;have hr:x.rowIs (w.heap.size+1+1) 24 4 (zu (za r)):=hF 5 (by decide);clear hF;go_wp2;obtain⟨q0,q1,q2,q3⟩:=ze hr;refine bodyPost_ret (v:=wv r) (by simp[results,results118,go_sem,q0,q1,q2,q3]) rfl (Zo (sar_neg HNB.out HSH.out HR.out HN.out) ?_);exact hs.be
def FSl (a b:Nat) (na nb:Bool):Nat->Act->World->Prop
 |0,s,_=>s.tmps.getD 5 undef=wv a
 |1,s,_=>s.tmps.getD 6 undef=.bool na
 |2,s,_=>s.tmps.getD 7 undef=wv b
 |3,s,_=>s.tmps.getD 8 undef=.bool nb
 |4,s,_=>s.tmps.getD 9 undef=.bool (na !=nb)
 |_,_,_=>True
theorem FSl_big (a b:Nat) (na nb:Bool) (j:Nat) (h:5<=j) (s:Act) (x:World):FSl a b na nb j s x:=by
 match j,h with
 |j+5,_=>trivial
def GSl (w:World) (a b:Nat) (s:Act) (x:World):Prop:=∃s5 s6 s7 s8 s9 s10 s11 s12 s13 s14:Value,
 s=⟨#[wv a,wv b,.pointer (some ⟨w.heap.size,0,none⟩),.pointer (some ⟨w.heap.size+1,0,none⟩),.bool false,s5,s6,s7,s8,s9,s10,s11,s12,s13,s14],[]⟩/\S2 w a b x
theorem zbl (a b:Nat) (w:World):Calls prog 110 #[wv a,wv b] w fun e w'=>∃r:Bool,Hid (r=zeZ (a%M) (b%M))/\e=.returned (.bool r)/\Below w.heap.size w w':=by
 obtain⟨na,HNA⟩:∃na,Hid (neg a=na):=⟨_,rfl⟩;obtain⟨nb,HNB⟩:∃nb,Hid (neg b=nb):=⟨_,rfl⟩;have hS:=S2.start w a b;go_enter func110,ntmps110;go_wp2;refine ZK (by kernel_rfl) (GSl w a b) (FSl a b na nb) (YF (by kernel_rfl)) ?_ ?_ ?_
 ·exact⟨_,_,_,_,_,_,_,_,_,_,rfl,hS.drew⟩
 ·intro i o ho s x hG hdep;obtain⟨s5,s6,s7,s8,s9,s10,s11,s12,s13,s14,rfl,hs⟩:=hG;have hi:i<5:=(Array.getElem?_eq_some_iff.1 ho).1;rcases i5' hi with rfl|rfl|rfl|rfl|rfl;obtain rfl:=sj ho;refine wpOp_step rfl fun K hK=> ?_
  obtain⟨y0,y1,y2,y3⟩:=ze hs.ra;go_simp;refine hK _ _ ⟨⟨_,_,_,_,_,_,_,_,_,_,rfl,hs⟩,rfl,fun j hj hd hF=> ?_⟩;rotate_left;obtain rfl:=sj ho;refine wpOp_step rfl fun K hK=> ?_
  have h0:s5=wv a:=hdep ⟨0,.data⟩ (by simp) rfl;subst h0;go_simp;refine(YX a na HNA _).mono ?_;rintro e y ⟨rfl,hb⟩;dsimp only;refine hK _ _ ⟨⟨_,_,_,_,_,_,_,_,_,_,rfl,hs.call hb⟩,rfl,fun j hj hd hF=> ?_⟩;rotate_left;obtain rfl:=sj ho;refine wpOp_step rfl fun K hK=> ?_
  obtain⟨y0,y1,y2,y3⟩:=ze hs.rb;go_simp;refine hK _ _ ⟨⟨_,_,_,_,_,_,_,_,_,_,rfl,hs⟩,rfl,fun j hj hd hF=> ?_⟩;rotate_left;obtain rfl:=sj ho;refine wpOp_step rfl fun K hK=> ?_
  have h2:s7=wv b:=hdep ⟨2,.data⟩ (by simp) rfl;subst h2;go_simp;refine(YX b nb HNB _).mono ?_;rintro e y ⟨rfl,hb⟩;dsimp only;refine hK _ _ ⟨⟨_,_,_,_,_,_,_,_,_,_,rfl,hs.call hb⟩,rfl,fun j hj hd hF=> ?_⟩;rotate_left;obtain rfl:=sj ho;refine wpOp_step rfl fun K hK=> ?_
  have h1:s6=.bool na:=hdep ⟨1,.data⟩ (by simp) rfl;subst h1;have h3:s8=.bool nb:=hdep ⟨3,.data⟩ (by simp) rfl;subst h3;go_simp;refine hK _ _ ⟨⟨_,_,_,_,_,_,_,_,_,_,rfl,hs⟩,rfl,fun j hj hd hF=> ?_⟩;rotate_left
  all_goals
   rcases Nat.lt_or_ge j 5 with hjn|hjn
   ·rcases i5' hjn with rfl|rfl|rfl|rfl|rfl
    all_goals first
     |exact absurd rfl hj
     |exact hF
     |exact rfl
     |(exfalso;revert hd;exact of_decide_eq_true (by kernel_rfl))
   ·exact FSl_big _ _ _ _ _ hjn _ _
 ·intro s x hG hF;obtain⟨s5,s6,s7,s8,s9,s10,s11,s12,s13,s14,rfl,hs⟩:=hG;have h4:s9=.bool (na !=nb):=hF 4 (by decide);clear hF;subst h4;cases na<;>cases nb
  ·skip;obtain⟨a0,a1,a2,a3⟩:=ze hs.ra;obtain⟨b0,b1,b2,b3⟩:=ze hs.rb;go_wp2_with fail
   refine(zgL a b _).mono ?_;rintro e w2 ⟨t,HT,rfl,hb⟩;go_wp2;go_ret;exact⟨_,by show _=zeZ _ _;unfold zeZ;rw[ZY,ZY,HNA.out,HNB.out,HT.out];rfl,rfl,ZE hs.be hb⟩
  ·skip;obtain⟨a0,a1,a2,a3⟩:=ze hs.ra;go_wp2_with fail
   refine(YX a _ HNA _).mono ?_;rintro e w2 ⟨rfl,hb⟩;go_wp2;go_ret;exact⟨_,by show _=zeZ _ _;unfold zeZ;rw[ZY,ZY,HNA.out,HNB.out];rfl,rfl,ZE hs.be hb⟩
  ·skip;obtain⟨a0,a1,a2,a3⟩:=ze hs.ra;go_wp2_with fail
   refine(YX a _ HNA _).mono ?_;rintro e w2 ⟨rfl,hb⟩;go_wp2;go_ret;exact⟨_,by show _=zeZ _ _;unfold zeZ;rw[ZY,ZY,HNA.out,HNB.out];rfl,rfl,ZE hs.be hb⟩
  ·skip;obtain⟨a0,a1,a2,a3⟩:=ze hs.ra;obtain⟨b0,b1,b2,b3⟩:=ze hs.rb;go_wp2_with fail
   refine(zgL a b _).mono ?_;rintro e w2 ⟨t,HT,rfl,hb⟩;go_wp2;go_ret;exact⟨_,by show _=zeZ _ _;unfold zeZ;rw[ZY,ZY,HNA.out,HNB.out,HT.out];rfl,rfl,ZE hs.be hb⟩
def FSe (w:World) (b lf sl r:Nat):Nat->Act->World->Prop
 |0,s,_=>s.tmps.getD 15 undef=wv lf
 |1,s,_=>s.tmps.getD 16 undef=wv lf
 |2,s,_=>s.tmps.getD 17 undef=wv b
 |3,s,_=>s.tmps.getD 18 undef=wv sl
 |4,s,_=>s.tmps.getD 19 undef=wv r
 |5,s,x=>x.rowIs (w.heap.size+1+1) 24 4 (zu (za r))
 |_,_,_=>True
theorem zbK (w:World) (b lf sl r:Nat) (j:Nat) (h:6<=j) (s:Act) (x:World):FSe w b lf sl r j s x:=by
 match j,h with
 |j+6,_=>trivial
def GSe (w:World) (a b p lf:Nat) (s:Act) (x:World):Prop:=∃s6 s7 s8 s9 s10 s11 s12 s13 s14 s15 s16 s17 s18 s19:Value,
 s=⟨#[wv a,wv b,.pointer (some ⟨w.heap.size,0,none⟩),.pointer (some ⟨w.heap.size+1,0,none⟩),.pointer (some ⟨w.heap.size+1+1,0,none⟩),.pointer (some ⟨p,0,none⟩),s6,s7,s8,s9,s10,s11,s12,s13,s14,s15,s16,s17,s18,s19],[]⟩/\(S3 w a b x/\x.rowIs p 24 4 (zu (za lf)))
theorem znd {a b:Nat} (h:decide (a%M<31)=false):b%M=zgx (a%M) (b%M)%M:=by
 unfold zgx;rw[if_neg (of_decide_eq_false h),Nat.mod_mod]
theorem sext_in {a b lf sl r:Nat} (h:decide (a%M<31)=true) (h0:lf=248 - 8*(a%M)) (h1:sl=zbX (lf%M) b) (h2:r=zjr (lf%M) (sl%M)):r%M=zgx (a%M) (b%M)%M:=by
 have e:lf%M=lf:=Nat.mod_eq_of_lt (by rw[h0];unfold M;omega)
 have e2:zbX lf b=zbX lf (b%M):=by
  unfold zbX;split
  ·rw[Nat.mul_mod b (2^lf) M,Nat.mul_mod (b%M) (2^lf) M,Nat.mod_mod]
  ·rfl
 unfold zgx;rw[if_pos (of_decide_eq_true h),<-h0,h2,h1,e,Nat.mod_eq_of_lt (fshl_lt _ _),e2]
theorem zdM {a:Nat} {k:Nat} (hk:k<=256) (h:decide (a%M<k)=true):∃s:Nat,s<k/\s=a%M/\za a 0=(s:Int):=by
 have h2:=of_decide_eq_true h;refine⟨a%M,h2,rfl, ?_⟩;unfold za M at*;rw[pw0];omega
theorem zlg (a k:Nat) (hk:k<18446744073709551616) (t:Bool) (ht:Hid (decide (a%M<k)=t)) (w:World):
  Calls prog 171 #[wv a,.int .u64 (k:Int)] w fun e w'=>e=.returned (.bool t)/\Below w.heap.size w w':=by
 have:=zaE a k hk w;unfold ltw at this;rw[Nat.mod_eq_of_lt (show k<M by unfold M;omega),ht.out] at this;exact this
theorem ZM (n:Nat) (h:n<18446744073709551616):za n 0=(n:Int)/\za n 1=0/\za n 2=0/\za n 3=0:=by
 unfold za;rw[pw0,pw1,pw2,pw3];refine⟨?_, ?_, ?_, ?_⟩<;>omega
theorem zft (a b:Nat) (w:World):Calls prog 107 #[wv a,wv b] w (Ret w (zgx (a%M) (b%M))):=by
 obtain⟨t,HT⟩:∃t,Hid (decide (a%M<31)=t):=⟨_,rfl⟩;have hs:=S3.start w a b;go_enter func107,ntmps107;go_wp2_with fail
 refine(zlg a 31 (by omega) t HT _).mono ?_;rintro e w1 ⟨rfl,hb⟩;replace hs:=hs.call hb;clear hb;cases t
 ·obtain⟨b0,b1,b2,b3⟩:=ze hs.rb;obtain⟨f0,hf0⟩:=hs.rz;obtain⟨y0,y1,y2,y3⟩:=ze hf0;have fz:=hf0.frozen;go_wp2;obtain⟨q0,q1,q2,q3⟩:=ze (zy hf0 (za b) rfl rfl rfl rfl);refine bodyPost_ret (v:=wv b) (by simp[results,results107,go_sem,q0,q1,q2,q3]) rfl (Zo (znd HT.out) ?_);exact(hs.put b).be
 ·obtain⟨s,hs1,hs2,hs3⟩:=zdM (k:=31) (by omega) HT.out;have HS2:Hid (s=a%M):=hs2;obtain⟨a0,a1,a2,a3⟩:=ze hs.ra;rw[hs3] at a0;clear hs2 hs3 a1 a2 a3;obtain⟨lf,HLF⟩:∃lf,Hid (lf=248 - 8*s):=⟨_,rfl⟩;obtain⟨sl,HSL⟩:∃sl,Hid (sl=zbX (lf%M) b):=⟨_,rfl⟩;obtain⟨r,HR⟩:∃r,Hid (r=zjr (lf%M) (sl%M)):=⟨_,rfl⟩;have hpl:w.heap.size+1+1<w1.heap.size:=by obtain⟨f0,hf0⟩:=hs.rz;exact hf0.lt
  have L0:Hid ((248 - 8*(s:Int))=za lf 0):=by show _=_;rw[(ZM lf (by rw[HLF.out];omega)).1,HLF.out];omega
  have L1:Hid ((0:Int)=za lf 1):=(ZM lf (by rw[HLF.out];omega)).2.1.symm;have L2:Hid ((0:Int)=za lf 2):=(ZM lf (by rw[HLF.out];omega)).2.2.1.symm;have L3:Hid ((0:Int)=za lf 3):=(ZM lf (by rw[HLF.out];omega)).2.2.2.symm;go_wp2;refine ZK (by kernel_rfl) (GSe w a b w1.heap.size lf) (FSe w b lf sl r) (YF (by kernel_rfl)) ?_ ?_ ?_
  ·exact⟨_,_,_,_,_,_,_,_,_,_,_,_,_,_,rfl,⟨(hs.alloc _).drew,(zj (za lf) rfl L0.out L1.out L2.out L3.out).drew⟩⟩
  ·intro i o ho s x hG hdep;obtain⟨s6,s7,s8,s9,s10,s11,s12,s13,s14,s15,s16,s17,s18,s19,rfl,hs⟩:=hG;have hi:i<6:=(Array.getElem?_eq_some_iff.1 ho).1;rcases i6 hi with rfl|rfl|rfl|rfl|rfl|rfl
   ·obtain rfl:=sj ho;refine wpOp_step rfl fun K hK=> ?_
    obtain⟨y0,y1,y2,y3⟩:=ze hs.2;go_simp;refine hK _ _ ⟨⟨_,_,_,_,_,_,_,_,_,_,_,_,_,_,rfl,hs⟩,rfl,fun j hj hd hF=> ?_⟩;rcases Nat.lt_or_ge j 6 with hjn|hjn
    ·rcases i6 hjn with rfl|rfl|rfl|rfl|rfl|rfl
     ·exact absurd rfl hj
     ·have h:s16=wv lf:=hF;exact h
     ·have h:s17=wv b:=hF;exact h
     ·have h:s18=wv sl:=hF;exact h
     ·exfalso;revert hd;exact of_decide_eq_true (by kernel_rfl)
     ·have h:x.rowIs (w.heap.size+1+1) 24 4 (zu (za r)):=hF;exact h
    ·exact zbK _ _ _ _ _ _ hjn _ _
   ·obtain rfl:=sj ho;refine wpOp_step rfl fun K hK=> ?_
    obtain⟨y0,y1,y2,y3⟩:=ze hs.2;go_simp;refine hK _ _ ⟨⟨_,_,_,_,_,_,_,_,_,_,_,_,_,_,rfl,hs⟩,rfl,fun j hj hd hF=> ?_⟩;rcases Nat.lt_or_ge j 6 with hjn|hjn
    ·rcases i6 hjn with rfl|rfl|rfl|rfl|rfl|rfl
     ·have h:s15=wv lf:=hF;exact h
     ·exact absurd rfl hj
     ·have h:s17=wv b:=hF;exact h
     ·exfalso;revert hd;exact of_decide_eq_true (by kernel_rfl)
     ·have h:s19=wv r:=hF;exact h
     ·have h:x.rowIs (w.heap.size+1+1) 24 4 (zu (za r)):=hF;exact h
    ·exact zbK _ _ _ _ _ _ hjn _ _
   ·obtain rfl:=sj ho;refine wpOp_step rfl fun K hK=> ?_
    obtain⟨y0,y1,y2,y3⟩:=ze hs.1.rb;go_simp;refine hK _ _ ⟨⟨_,_,_,_,_,_,_,_,_,_,_,_,_,_,rfl,hs⟩,rfl,fun j hj hd hF=> ?_⟩;rcases Nat.lt_or_ge j 6 with hjn|hjn
    ·rcases i6 hjn with rfl|rfl|rfl|rfl|rfl|rfl
     ·have h:s15=wv lf:=hF;exact h
     ·have h:s16=wv lf:=hF;exact h
     ·exact absurd rfl hj
     ·exfalso;revert hd;exact of_decide_eq_true (by kernel_rfl)
     ·have h:s19=wv r:=hF;exact h
     ·have h:x.rowIs (w.heap.size+1+1) 24 4 (zu (za r)):=hF;exact h
    ·exact zbK _ _ _ _ _ _ hjn _ _
   ·obtain rfl:=sj ho;refine wpOp_step rfl fun K hK=> ?_
    have h1:s16=wv lf:=hdep ⟨1,.data⟩ (by simp) rfl;subst h1;have h2:s17=wv b:=hdep ⟨2,.data⟩ (by simp) rfl;subst h2;go_simp;refine(shl_w lf b _).mono ?_;rintro e y ⟨rr,HRR,rfl,hb⟩;obtain rfl:rr=sl:=HRR.out.trans HSL.out.symm;dsimp only;refine hK _ _ ⟨⟨_,_,_,_,_,_,_,_,_,_,_,_,_,_,rfl,⟨hs.1.call hb,zg hs.2 hb⟩⟩,rfl,fun j hj hd hF=> ?_⟩;rcases Nat.lt_or_ge j 6 with hjn|hjn
    ·rcases i6 hjn with rfl|rfl|rfl|rfl|rfl|rfl
     ·have h:s15=wv lf:=hF;exact h
     ·exact(rfl:(wv lf:Value)=wv lf)
     ·exact(rfl:(wv b:Value)=wv b)
     ·exact absurd rfl hj
     ·exfalso;revert hd;exact of_decide_eq_true (by kernel_rfl)
     ·have h:x.rowIs (w.heap.size+1+1) 24 4 (zu (za r)):=hF;exact zg h hb
    ·exact zbK _ _ _ _ _ _ hjn _ _
   ·obtain rfl:=sj ho;refine wpOp_step rfl fun K hK=> ?_
    have h0:s15=wv lf:=hdep ⟨0,.data⟩ (by simp) rfl;subst h0;have h3:s18=wv sl:=hdep ⟨3,.data⟩ (by simp) rfl;subst h3;go_simp;refine(zlu lf sl _).mono ?_;rintro e y ⟨rr,HRR,rfl,hb⟩;obtain rfl:rr=r:=HRR.out.trans HR.out.symm;dsimp only;refine hK _ _ ⟨⟨_,_,_,_,_,_,_,_,_,_,_,_,_,_,rfl,⟨hs.1.call hb,zg hs.2 hb⟩⟩,rfl,fun j hj hd hF=> ?_⟩;rcases Nat.lt_or_ge j 6 with hjn|hjn
    ·rcases i6 hjn with rfl|rfl|rfl|rfl|rfl|rfl
     ·exact(rfl:(wv lf:Value)=wv lf)
     ·have h:s16=wv lf:=hF;exact h
     ·have h:s17=wv b:=hF;exact h
     ·exact(rfl:(wv sl:Value)=wv sl)
     ·exact absurd rfl hj
     ·exfalso;revert hd;exact of_decide_eq_true (by kernel_rfl)
    ·exact zbK _ _ _ _ _ _ hjn _ _
   ·obtain rfl:=sj ho;refine wpOp_step rfl fun K hK=> ?_
    have h4:s19=wv r:=hdep ⟨4,.data⟩ (by simp) rfl;subst h4;obtain⟨f0,hf0⟩:=hs.1.rz;obtain⟨y0,y1,y2,y3⟩:=ze hf0;have fz:=hf0.frozen;go_simp;refine hK _ _ ⟨⟨_,_,_,_,_,_,_,_,_,_,_,_,_,_,rfl,⟨hs.1.put r,zR hs.2 (Nat.ne_of_gt hpl) _ _ _ _⟩⟩,zy hf0 (za r) rfl rfl rfl rfl,fun j hj hd hF=> ?_⟩;rcases Nat.lt_or_ge j 6 with hjn|hjn
    ·rcases i6 hjn with rfl|rfl|rfl|rfl|rfl|rfl
     ·have h:s15=wv lf:=hF;exact h
     ·have h:s16=wv lf:=hF;exact h
     ·have h:s17=wv b:=hF;exact h
     ·have h:s18=wv sl:=hF;exact h
     ·exact(rfl:(wv r:Value)=wv r)
     ·exact absurd rfl hj
    ·exact zbK _ _ _ _ _ _ hjn _ _
  ·intro s x hG hF;obtain⟨s6,s7,s8,s9,s10,s11,s12,s13,s14,s15,s16,s17,s18,s19,rfl,hs⟩:=hG;have hr:x.rowIs (w.heap.size+1+1) 24 4 (zu (za r)):=hF 5 (by decide);clear hF;obtain⟨hs, -⟩:=hs;go_wp2;obtain⟨q0,q1,q2,q3⟩:=ze hr;refine bodyPost_ret (v:=wv r) (by simp[results,results107,go_sem,q0,q1,q2,q3]) rfl (Zo (sext_in HT.out (by rw[HLF.out,HS2.out]) HSL.out HR.out) ?_);exact hs.be
theorem zos {a b:Nat} (h:decide (a%M<32)=false):0%M=zf9 (a%M) (b%M)%M:=by
 unfold zf9;rw[if_neg (of_decide_eq_false h)]
theorem byte_in {a b k m:Nat} (h:decide (a%M<32)=true) (h0:k=8*(31 - a%M)) (h1:m=zd0 (k%M) (b%M)):m%256%M=zf9 (a%M) (b%M)%M:=by
 have e:k%M=k:=Nat.mod_eq_of_lt (by rw[h0];unfold M;omega);unfold zf9;rw[if_pos (of_decide_eq_true h),<-h0,h1,e]
theorem and_255 (m:Nat):bits .and .u64 (za m 0) 255=((m%256:Nat):Int):=by
 have h:=bits_and_u64_nat (zZ m 0) 255 (Yi _ _) (by omega);rw[show zZ m 0 &&& 255=zZ m 0%256 from Nat.and_two_pow_sub_one_eq_mod _ 8] at h;rw[Zw];refine h.trans ?_;unfold zZ;rw[pw0];omega
theorem zjI (a b:Nat) (w:World):Calls prog 115 #[wv a,wv b] w (Ret w (zf9 (a%M) (b%M))):=by
 obtain⟨t,HT⟩:∃t,Hid (decide (a%M<32)=t):=⟨_,rfl⟩;have hs:=S3.start w a b;go_enter func115,ntmps115;go_wp2_with fail
 refine(zlg a 32 (by omega) t HT _).mono ?_;rintro e w1 ⟨rfl,hb⟩;replace hs:=hs.call hb;clear hb;cases t
 ·obtain⟨f0,hf0⟩:=hs.rz;obtain⟨y0,y1,y2,y3⟩:=ze hf0;have fz:=hf0.frozen;go_wp2;obtain⟨q0,q1,q2,q3⟩:=ze (zy hf0 (fun _=>0) rfl rfl rfl rfl);refine bodyPost_ret (v:=wv 0) (by rw[<-zcR];simp[results,results115,go_sem,q0,q1,q2,q3]) rfl (Zo (zos HT.out) ?_);exact zC hs.be (by omega) _ _ _ _
 ·obtain⟨s,hs1,hs2,hs3⟩:=zdM (k:=32) (by omega) HT.out;have HS2:Hid (s=a%M):=hs2;obtain⟨a0,a1,a2,a3⟩:=ze hs.ra;obtain⟨b0,b1,b2,b3⟩:=ze hs.rb;rw[hs3] at a0;clear hs2 hs3 a1 a2 a3;obtain⟨k,HK⟩:∃k,Hid (k=8*(31 - s)):=⟨_,rfl⟩;go_wp2_with fail
  rw[show(8*(31 - (s:Int)))=(k:Int) from by rw[HK.out];omega,zeV k (by rw[HK.out];omega)];refine(zln k b _).mono ?_;rintro e w2 ⟨m,HM,rfl,hb⟩;replace hs:=hs.call hb;clear hb a0 b0 b1 b2 b3;obtain⟨r,HR⟩:∃r,Hid (r=m%256):=⟨_,rfl⟩;have h255:bits .and .u64 (za m 0) 255=(r:Int):=by rw[HR.out];exact and_255 m
  have hrl:r<18446744073709551616:=by rw[HR.out];omega
  have HRL:Hid (r<18446744073709551616):=hrl;clear hrl;obtain⟨f0,hf0⟩:=hs.rz;obtain⟨y0,y1,y2,y3⟩:=ze hf0;have fz:=hf0.frozen;have z:=hf0.lt;go_wp2;obtain⟨q0,q1,q2,q3⟩:=ze (zy hf0 (za r) (x0:=(r:Int)) (x1:=0) (x2:=0) (x3:=0) (ZM r HRL.out).1.symm (ZM r HRL.out).2.1.symm (ZM r HRL.out).2.2.1.symm (ZM r HRL.out).2.2.2.symm);refine bodyPost_ret (v:=wv r) (by simp[results,results115,go_sem,q0,q1,q2,q3,z]) rfl (Zo (by rw[HR.out];exact byte_in HT.out (by rw[HK.out,HS2.out]) HM.out) ?_);exact bal (zC hs.be (by omega) _ _ _ _) _
structure SS (w:World) (a b:Nat) (x:World):Prop where
 ra:x.rowIs w.heap.size 24 4 (zu (za a))
 rb:x.rowIs (w.heap.size+1) 24 4 (zu (za b))
 rz:x.rowIs (w.heap.size+1+1) 24 4 (zu fun _=>0)
 be:Below w.heap.size w x
theorem SS.drew {w:World} {a b:Nat} {x:World} (h:SS w a b x):SS w a b x.drew:=⟨h.ra,h.rb,h.rz,h.be.drew⟩
theorem SS.alloc {w:World} {a b:Nat} {x:World} (h:SS w a b x) (o:Obj):SS w a b (x.alloc o):=⟨h.ra.alloc _,h.rb.alloc _,h.rz.alloc _,bal h.be _⟩
theorem SS.call {w:World} {a b:Nat} {x y:World} (h:SS w a b x) (hb:Below x.heap.size x y):SS w a b y:=⟨zg h.ra hb,zg h.rb hb,zg h.rz hb,ZE h.be hb⟩
theorem SS.set {w:World} {a b:Nat} {x:World} (h:SS w a b x) {p:Addr} (hp:w.heap.size+1+1<p.block) (v:Value):SS w a b (x.setCell p v):=
 ⟨h.ra.setOther (by omega) _,h.rb.setOther (by omega) _,h.rz.setOther (by omega) _,h.be.setCell (by omega) _⟩
theorem SS.start (w:World) (a b:Nat):SS w a b (((w.alloc (.cells #[.int .u64 (za a 0),.int .u64 (za a 1),.int .u64 (za a 2),.int .u64 (za a 3)] 24)).alloc (.cells #[.int .u64 (za b 0),.int .u64 (za b 1),.int .u64 (za b 2),.int .u64 (za b 3)] 24)).alloc (.cells #[.int .u64 0,.int .u64 0,.int .u64 0,.int .u64 0] 24)):=
 ⟨zj (za a) rfl rfl rfl rfl rfl |>.alloc _ |>.alloc _,zj (za b) (by simp) rfl rfl rfl rfl |>.alloc _,zj (fun _=>0) (by simp) rfl rfl rfl rfl,bal (bal (bal (Below.refl _ _) _) _) _⟩
theorem i11 {i:Nat} (h:i<11):i=0\/i=1\/i=2\/i=3\/i=4\/i=5\/i=6\/i=7\/i=8\/i=9\/i=10:=by omega
def Fdiv (N a am b q r:Nat):Nat->Act->World->Prop
 |0,s,_=>s.tmps.getD 8 undef=wv a
 |1,s,_=>s.tmps.getD 9 undef=wv8 am
 |2,s,_=>s.tmps.getD 10 undef=wv b
 |3,s,_=>s.tmps.getD 11 undef=.tuple #[wv8 q,wv r]
 |4,s,_=>s.tmps.getD 7 undef=.tuple #[wv8 q,wv r]
 |5,s,_=>s.tmps.getD 12 undef=wv8 q
 |6,s,_=>s.tmps.getD 13 undef=wv r
 |7,s,x=>∃(p:Nat) (f:Nat->Int),s.tmps.getD 5 undef=.pointer (some ⟨p,0,none⟩)/\x.rowIs p 224 8 (zu f)/\N<p
 |8,s,x=>∃(p:Nat) (f:Nat->Int),s.tmps.getD 6 undef=.pointer (some ⟨p,0,none⟩)/\x.rowIs p 24 4 (zu f)/\N<p
 |9,s,x=>∃p:Nat,s.tmps.getD 5 undef=.pointer (some ⟨p,0,none⟩)/\x.rowIs p 224 8 (zu (za q))/\N<p
 |10,s,x=>∃p:Nat,s.tmps.getD 6 undef=.pointer (some ⟨p,0,none⟩)/\x.rowIs p 24 4 (zu (za r))/\N<p
 |_,_,_=>True
theorem zaO (N a am b q r j:Nat) (h:11<=j) (s:Act) (x:World):Fdiv N a am b q r j s x:=by
 match j,h with
 |j+11,_=>trivial
theorem YK {x:World} {p p':Nat} {t t':TypeId} {n n':Nat} {f f':Nat->Value} (h:x.rowIs p t n f) (h':x.rowIs p' t' n' f') (ht:t≠t'):p≠p':=by
 rintro rfl;obtain⟨c,hb,_,_⟩:=h;obtain⟨c',hb',_,_⟩:=h';rw[hb] at hb';injection hb' with e
 injection e with _ e2
 exact ht e2
def Gdiv (w:World) (a b:Nat) (s:Act) (x:World):Prop:=∃s5 s6 s7 s8 s9 s10 s11 s12 s13:Value,
 s=⟨#[wv a,wv b,.pointer (some ⟨w.heap.size,0,none⟩),.pointer (some ⟨w.heap.size+1,0,none⟩),.pointer (some ⟨w.heap.size+1+1,0,none⟩),s5,s6,s7,s8,s9,s10,s11,s12,s13,undef,undef],[]⟩/\SS w a b x
def Gmod (w:World) (a b:Nat) (s:Act) (x:World):Prop:=∃s5 s6 s7 s8 s9 s10 s11 s12 s13:Value,
 s=⟨#[wv a,wv b,.pointer (some ⟨w.heap.size,0,none⟩),.pointer (some ⟨w.heap.size+1,0,none⟩),.pointer (some ⟨w.heap.size+1+1,0,none⟩),s5,s6,s7,s8,s9,s10,s11,s12,s13,undef],[]⟩/\SS w a b x
theorem zli (a b:Nat) (w:World):Calls prog 100 #[wv a,wv b] w (Ret w (zfO (a%M) (b%M))):=by
 obtain⟨am,HA⟩:∃am,Hid (am=a%M):=⟨_,rfl⟩;obtain⟨q,HQ⟩:∃q,Hid (q=am/(b%M)):=⟨_,rfl⟩;obtain⟨r,HR⟩:∃r,Hid (r=zbi am (b%M)):=⟨_,rfl⟩;have hS:=SS.start w a b;go_enter func100,ntmps100;go_wp2;refine ZK (by kernel_rfl) (Gdiv w a b) (Fdiv (w.heap.size+1+1) a am b q r) (YF (by kernel_rfl)) ?_ ?_ ?_
 ·exact⟨_,_,_,_,_,_,_,_,_,rfl,hS.drew⟩
 ·intro i o ho s x hG hdep;clear hS;obtain⟨s5,s6,s7,s8,s9,s10,s11,s12,s13,rfl,hs⟩:=hG;have hi:i<11:=(Array.getElem?_eq_some_iff.1 ho).1;rcases i11 hi with rfl|rfl|rfl|rfl|rfl|rfl|rfl|rfl|rfl|rfl|rfl;obtain rfl:=sj ho;refine wpOp_step rfl fun K hK=> ?_
  obtain⟨y0,y1,y2,y3⟩:=ze hs.ra;go_simp;refine hK _ _ ⟨⟨_,_,_,_,_,_,_,_,_,rfl,hs⟩,rfl,fun j hj hd hF=> ?_⟩;rotate_left;obtain rfl:=sj ho;refine wpOp_step rfl fun K hK=> ?_
  have h0:s8=wv a:=hdep ⟨0,.data⟩ (by simp) rfl;subst h0;go_simp;refine(zlH a _).mono ?_;rintro e y ⟨rr,HRR,rfl,hb⟩;obtain rfl:rr=am:=HRR.out.trans HA.out.symm;dsimp only;refine hK _ _ ⟨⟨_,_,_,_,_,_,_,_,_,rfl,hs.call hb⟩,rfl,fun j hj hd hF=> ?_⟩;rotate_left;obtain rfl:=sj ho;refine wpOp_step rfl fun K hK=> ?_
  obtain⟨y0,y1,y2,y3⟩:=ze hs.rb;go_simp;refine hK _ _ ⟨⟨_,_,_,_,_,_,_,_,_,rfl,hs⟩,rfl,fun j hj hd hF=> ?_⟩;rotate_left;obtain rfl:=sj ho;refine wpOp_step rfl fun K hK=> ?_
  have h0:s9=wv8 am:=hdep ⟨1,.data⟩ (by simp) rfl;have h2:s10=wv b:=hdep ⟨2,.data⟩ (by simp) rfl;subst h0 h2;go_simp;refine(zbO am b (by rw[HA.out];exact lt512 a) _).mono ?_;rintro e y ⟨qq,rr,HQQ,HRR,rfl,hb⟩;obtain rfl:qq=q:=HQQ.out.trans HQ.out.symm;obtain rfl:rr=r:=HRR.out.trans HR.out.symm;dsimp only;refine hK _ _ ⟨⟨_,_,_,_,_,_,_,_,_,rfl,hs.call hb⟩,rfl,fun j hj hd hF=> ?_⟩;rotate_left;obtain rfl:=sj ho;refine wpOp_step rfl fun K hK=> ?_
  have h0:s11=.tuple #[wv8 q,wv r]:=hdep ⟨3,.data⟩ (by simp) rfl;subst h0;go_simp;refine hK _ _ ⟨⟨_,_,_,_,_,_,_,_,_,rfl,hs⟩,rfl,fun j hj hd hF=> ?_⟩;rotate_left;obtain rfl:=sj ho;refine wpOp_step rfl fun K hK=> ?_
  have h0:s7=.tuple #[wv8 q,wv r]:=hdep ⟨4,.data⟩ (by simp) rfl;subst h0;go_simp;refine hK _ _ ⟨⟨_,_,_,_,_,_,_,_,_,rfl,hs⟩,rfl,fun j hj hd hF=> ?_⟩;rotate_left;obtain rfl:=sj ho;refine wpOp_step rfl fun K hK=> ?_
  have h0:s7=.tuple #[wv8 q,wv r]:=hdep ⟨4,.data⟩ (by simp) rfl;subst h0;go_simp;refine hK _ _ ⟨⟨_,_,_,_,_,_,_,_,_,rfl,hs⟩,rfl,fun j hj hd hF=> ?_⟩;rotate_left;obtain rfl:=sj ho;refine wpOp_step rfl fun K hK=> ?_
  have zz:=hs.rz.lt;go_simp;refine hK _ _ ⟨⟨_,_,_,_,_,_,_,_,_,rfl,hs.alloc _⟩,⟨_,fun _=>0,rfl,YH _ rfl rfl rfl rfl rfl rfl rfl rfl rfl,zz⟩,fun j hj hd hF=> ?_⟩;rotate_left;obtain rfl:=sj ho;refine wpOp_step rfl fun K hK=> ?_
  have zz:=hs.rz.lt;go_simp;refine hK _ _ ⟨⟨_,_,_,_,_,_,_,_,_,rfl,hs.alloc _⟩,⟨_,fun _=>0,rfl,zj _ rfl rfl rfl rfl rfl,zz⟩,fun j hj hd hF=> ?_⟩;rotate_left
  ·obtain rfl:=sj ho;refine wpOp_step rfl fun K hK=> ?_
   have h7:∃(p:Nat) (f:Nat->Int),s5=.pointer (some ⟨p,0,none⟩)/\x.rowIs p 224 8 (zu f)/\w.heap.size+1+1<p:=hdep ⟨7,.data⟩ (by simp) rfl;have h0:s12=wv8 q:=hdep ⟨5,.data⟩ (by simp) rfl;obtain⟨p5,f5,rfl,hr5,hl5⟩:=h7;subst h0;obtain⟨y0,y1,y2,y3,y4,y5,y6,y7⟩:=yc hr5;have fz:=hr5.frozen;go_simp;refine hK _ _ ⟨⟨_,_,_,_,_,_,_,_,_,rfl,((((((((hs.set hl5 _).set hl5 _).set hl5 _).set hl5 _).set hl5 _).set hl5 _).set hl5 _).set hl5 _)⟩,⟨p5,rfl,zae hr5 (za q),hl5⟩,fun j hj hd hF=> ?_⟩
   ·rcases Nat.lt_or_ge j 11 with hj11|hj11
    ·rcases i11 hj11 with rfl|rfl|rfl|rfl|rfl|rfl|rfl|rfl|rfl|rfl|rfl
     ·have h:s8=wv a:=hF;exact h
     ·have h:s9=wv8 am:=hF;exact h
     ·have h:s10=wv b:=hF;exact h
     ·have h:s11=.tuple #[wv8 q,wv r]:=hF;exact h
     ·have h:s7=.tuple #[wv8 q,wv r]:=hF;exact h
     ·exact(rfl:wv8 q=wv8 q)
     ·have h:s13=wv r:=hF;exact h
     ·exact⟨p5,za q,rfl,zae hr5 (za q),hl5⟩
     ·obtain⟨p,f,h1,h2,h3⟩:=hF;exact⟨p,f,h1,Yv h2 (YK h2 hr5 (by decide)) _ _ _ _ _ _ _ _,h3⟩
     ·exact absurd rfl hj
     ·obtain⟨p,h1,h2,h3⟩:=hF;exact⟨p,h1,Yv h2 (YK h2 hr5 (by decide)) _ _ _ _ _ _ _ _,h3⟩
    ·exact zaO _ _ _ _ _ _ _ hj11 _ _
  ·obtain rfl:=sj ho;refine wpOp_step rfl fun K hK=> ?_
   have h8:∃(p:Nat) (f:Nat->Int),s6=.pointer (some ⟨p,0,none⟩)/\x.rowIs p 24 4 (zu f)/\w.heap.size+1+1<p:=hdep ⟨8,.data⟩ (by simp) rfl;have h0:s13=wv r:=hdep ⟨6,.data⟩ (by simp) rfl;obtain⟨p6,f6,rfl,hr6,hl6⟩:=h8;subst h0;obtain⟨y0,y1,y2,y3⟩:=ze hr6;have fz:=hr6.frozen;go_simp;refine hK _ _ ⟨⟨_,_,_,_,_,_,_,_,_,rfl,((((hs.set hl6 _).set hl6 _).set hl6 _).set hl6 _)⟩,⟨p6,rfl,zy hr6 (za r) rfl rfl rfl rfl,hl6⟩,fun j hj hd hF=> ?_⟩
   ·rcases Nat.lt_or_ge j 11 with hj11|hj11
    ·rcases i11 hj11 with rfl|rfl|rfl|rfl|rfl|rfl|rfl|rfl|rfl|rfl|rfl
     ·have h:s8=wv a:=hF;exact h
     ·have h:s9=wv8 am:=hF;exact h
     ·have h:s10=wv b:=hF;exact h
     ·have h:s11=.tuple #[wv8 q,wv r]:=hF;exact h
     ·have h:s7=.tuple #[wv8 q,wv r]:=hF;exact h
     ·have h:s12=wv8 q:=hF;exact h
     ·exact(rfl:wv r=wv r)
     ·obtain⟨p,f,h1,h2,h3⟩:=hF;exact⟨p,f,h1,zR h2 (YK h2 hr6 (by decide)) _ _ _ _,h3⟩
     ·exact⟨p6,za r,rfl,zy hr6 (za r) rfl rfl rfl rfl,hl6⟩
     ·obtain⟨p,h1,h2,h3⟩:=hF;exact⟨p,h1,zR h2 (YK h2 hr6 (by decide)) _ _ _ _,h3⟩
     ·exact absurd rfl hj
    ·exact zaO _ _ _ _ _ _ _ hj11 _ _
  all_goals
   rcases Nat.lt_or_ge j 11 with hj11|hj11
   ·rcases i11 hj11 with rfl|rfl|rfl|rfl|rfl|rfl|rfl|rfl|rfl|rfl|rfl
    all_goals first
     |exact absurd rfl hj
     |exact hF
     |(obtain⟨p,f,h1,h2,h3⟩:=hF;exact⟨p,f,h1,h2,h3⟩)
     |(obtain⟨p,h1,h2,h3⟩:=hF;exact⟨p,h1,h2,h3⟩)
     |(obtain⟨p,f,h1,h2,h3⟩:=hF;exact⟨p,f,h1,zg h2 hb,h3⟩)
     |(obtain⟨p,h1,h2,h3⟩:=hF;exact⟨p,h1,zg h2 hb,h3⟩)
     |(obtain⟨p,f,h1,h2,h3⟩:=hF;exact⟨p,f,h1,h2.alloc _,h3⟩)
     |(obtain⟨p,h1,h2,h3⟩:=hF;exact⟨p,h1,h2.alloc _,h3⟩)
     |(exfalso;revert hd;exact of_decide_eq_true (by kernel_rfl))
   ·exact zaO _ _ _ _ _ _ _ hj11 _ _
 ·intro s x hG hF;clear hS;obtain⟨s5,s6,s7,s8,s9,s10,s11,s12,s13,rfl,hs⟩:=hG;obtain⟨p,rfl,hr,hl⟩:∃p:Nat,s5=.pointer (some ⟨p,0,none⟩)/\x.rowIs p 224 8 (zu (za q))/\w.heap.size+1+1<p:=hF 9 (by decide);clear hF;obtain⟨y0,y1,y2,y3,y4,y5,y6,y7⟩:=yc hr;go_wp2_with fail
  refine(low_w q _).mono ?_;rintro e w2 ⟨rfl,hb⟩;have hrz:=zg hs.rz hb;have hbel:=ZE hs.be hb;have z:=hrz.lt;have z':=hbel.size;obtain⟨x0,x1,x2,x3⟩:=ze hrz;have fz:=hrz.frozen;clear hb;go_wp2;obtain⟨q0,q1,q2,q3⟩:=ze (zy hrz (za q) rfl rfl rfl rfl);refine bodyPost_ret (v:=wv q) (by simp[results,results100,go_sem,q0,q1,q2,q3,z]) rfl (Zo (by rw[HQ.out,HA.out];rfl) ?_);exact zC hbel (by omega) _ _ _ _
theorem zkH (a b:Nat) (w:World):Calls prog 102 #[wv a,wv b] w (Ret w (zbi (a%M) (b%M))):=by
 obtain⟨am,HA⟩:∃am,Hid (am=a%M):=⟨_,rfl⟩;obtain⟨q,HQ⟩:∃q,Hid (q=am/(b%M)):=⟨_,rfl⟩;obtain⟨r,HR⟩:∃r,Hid (r=zbi am (b%M)):=⟨_,rfl⟩;have hS:=SS.start w a b;go_enter func102,ntmps102;go_wp2;refine ZK (by kernel_rfl) (Gmod w a b) (Fdiv (w.heap.size+1+1) a am b q r) (YF (by kernel_rfl)) ?_ ?_ ?_
 ·exact⟨_,_,_,_,_,_,_,_,_,rfl,hS.drew⟩
 ·intro i o ho s x hG hdep;clear hS;obtain⟨s5,s6,s7,s8,s9,s10,s11,s12,s13,rfl,hs⟩:=hG;have hi:i<11:=(Array.getElem?_eq_some_iff.1 ho).1;rcases i11 hi with rfl|rfl|rfl|rfl|rfl|rfl|rfl|rfl|rfl|rfl|rfl;obtain rfl:=sj ho;refine wpOp_step rfl fun K hK=> ?_
  obtain⟨y0,y1,y2,y3⟩:=ze hs.ra;go_simp;refine hK _ _ ⟨⟨_,_,_,_,_,_,_,_,_,rfl,hs⟩,rfl,fun j hj hd hF=> ?_⟩;rotate_left;obtain rfl:=sj ho;refine wpOp_step rfl fun K hK=> ?_
  have h0:s8=wv a:=hdep ⟨0,.data⟩ (by simp) rfl;subst h0;go_simp;refine(zlH a _).mono ?_;rintro e y ⟨rr,HRR,rfl,hb⟩;obtain rfl:rr=am:=HRR.out.trans HA.out.symm;dsimp only;refine hK _ _ ⟨⟨_,_,_,_,_,_,_,_,_,rfl,hs.call hb⟩,rfl,fun j hj hd hF=> ?_⟩;rotate_left;obtain rfl:=sj ho;refine wpOp_step rfl fun K hK=> ?_
  obtain⟨y0,y1,y2,y3⟩:=ze hs.rb;go_simp;refine hK _ _ ⟨⟨_,_,_,_,_,_,_,_,_,rfl,hs⟩,rfl,fun j hj hd hF=> ?_⟩;rotate_left;obtain rfl:=sj ho;refine wpOp_step rfl fun K hK=> ?_
  have h0:s9=wv8 am:=hdep ⟨1,.data⟩ (by simp) rfl;have h2:s10=wv b:=hdep ⟨2,.data⟩ (by simp) rfl;subst h0 h2;go_simp;refine(zbO am b (by rw[HA.out];exact lt512 a) _).mono ?_;rintro e y ⟨qq,rr,HQQ,HRR,rfl,hb⟩;obtain rfl:qq=q:=HQQ.out.trans HQ.out.symm;obtain rfl:rr=r:=HRR.out.trans HR.out.symm;dsimp only;refine hK _ _ ⟨⟨_,_,_,_,_,_,_,_,_,rfl,hs.call hb⟩,rfl,fun j hj hd hF=> ?_⟩;rotate_left;obtain rfl:=sj ho;refine wpOp_step rfl fun K hK=> ?_
  have h0:s11=.tuple #[wv8 q,wv r]:=hdep ⟨3,.data⟩ (by simp) rfl;subst h0;go_simp;refine hK _ _ ⟨⟨_,_,_,_,_,_,_,_,_,rfl,hs⟩,rfl,fun j hj hd hF=> ?_⟩;rotate_left;obtain rfl:=sj ho;refine wpOp_step rfl fun K hK=> ?_
  have h0:s7=.tuple #[wv8 q,wv r]:=hdep ⟨4,.data⟩ (by simp) rfl;subst h0;go_simp;refine hK _ _ ⟨⟨_,_,_,_,_,_,_,_,_,rfl,hs⟩,rfl,fun j hj hd hF=> ?_⟩;rotate_left;obtain rfl:=sj ho;refine wpOp_step rfl fun K hK=> ?_
  have h0:s7=.tuple #[wv8 q,wv r]:=hdep ⟨4,.data⟩ (by simp) rfl;subst h0;go_simp;refine hK _ _ ⟨⟨_,_,_,_,_,_,_,_,_,rfl,hs⟩,rfl,fun j hj hd hF=> ?_⟩;rotate_left;obtain rfl:=sj ho;refine wpOp_step rfl fun K hK=> ?_
  have zz:=hs.rz.lt;go_simp;refine hK _ _ ⟨⟨_,_,_,_,_,_,_,_,_,rfl,hs.alloc _⟩,⟨_,fun _=>0,rfl,YH _ rfl rfl rfl rfl rfl rfl rfl rfl rfl,zz⟩,fun j hj hd hF=> ?_⟩;rotate_left;obtain rfl:=sj ho;refine wpOp_step rfl fun K hK=> ?_
  have zz:=hs.rz.lt;go_simp;refine hK _ _ ⟨⟨_,_,_,_,_,_,_,_,_,rfl,hs.alloc _⟩,⟨_,fun _=>0,rfl,zj _ rfl rfl rfl rfl rfl,zz⟩,fun j hj hd hF=> ?_⟩;rotate_left
  ·obtain rfl:=sj ho;refine wpOp_step rfl fun K hK=> ?_
   have h7:∃(p:Nat) (f:Nat->Int),s5=.pointer (some ⟨p,0,none⟩)/\x.rowIs p 224 8 (zu f)/\w.heap.size+1+1<p:=hdep ⟨7,.data⟩ (by simp) rfl;have h0:s12=wv8 q:=hdep ⟨5,.data⟩ (by simp) rfl;obtain⟨p5,f5,rfl,hr5,hl5⟩:=h7;subst h0;obtain⟨y0,y1,y2,y3,y4,y5,y6,y7⟩:=yc hr5;have fz:=hr5.frozen;go_simp;refine hK _ _ ⟨⟨_,_,_,_,_,_,_,_,_,rfl,((((((((hs.set hl5 _).set hl5 _).set hl5 _).set hl5 _).set hl5 _).set hl5 _).set hl5 _).set hl5 _)⟩,⟨p5,rfl,zae hr5 (za q),hl5⟩,fun j hj hd hF=> ?_⟩
   ·rcases Nat.lt_or_ge j 11 with hj11|hj11
    ·rcases i11 hj11 with rfl|rfl|rfl|rfl|rfl|rfl|rfl|rfl|rfl|rfl|rfl
     ·have h:s8=wv a:=hF;exact h
     ·have h:s9=wv8 am:=hF;exact h
     ·have h:s10=wv b:=hF;exact h
     ·have h:s11=.tuple #[wv8 q,wv r]:=hF;exact h
     ·have h:s7=.tuple #[wv8 q,wv r]:=hF;exact h
     ·exact(rfl:wv8 q=wv8 q)
     ·have h:s13=wv r:=hF;exact h
     ·exact⟨p5,za q,rfl,zae hr5 (za q),hl5⟩
     ·obtain⟨p,f,h1,h2,h3⟩:=hF;exact⟨p,f,h1,Yv h2 (YK h2 hr5 (by decide)) _ _ _ _ _ _ _ _,h3⟩
     ·exact absurd rfl hj
     ·obtain⟨p,h1,h2,h3⟩:=hF;exact⟨p,h1,Yv h2 (YK h2 hr5 (by decide)) _ _ _ _ _ _ _ _,h3⟩
    ·exact zaO _ _ _ _ _ _ _ hj11 _ _
  ·obtain rfl:=sj ho;refine wpOp_step rfl fun K hK=> ?_
   have h8:∃(p:Nat) (f:Nat->Int),s6=.pointer (some ⟨p,0,none⟩)/\x.rowIs p 24 4 (zu f)/\w.heap.size+1+1<p:=hdep ⟨8,.data⟩ (by simp) rfl;have h0:s13=wv r:=hdep ⟨6,.data⟩ (by simp) rfl;obtain⟨p6,f6,rfl,hr6,hl6⟩:=h8;subst h0;obtain⟨y0,y1,y2,y3⟩:=ze hr6;have fz:=hr6.frozen;go_simp;refine hK _ _ ⟨⟨_,_,_,_,_,_,_,_,_,rfl,((((hs.set hl6 _).set hl6 _).set hl6 _).set hl6 _)⟩,⟨p6,rfl,zy hr6 (za r) rfl rfl rfl rfl,hl6⟩,fun j hj hd hF=> ?_⟩
   ·rcases Nat.lt_or_ge j 11 with hj11|hj11
    ·rcases i11 hj11 with rfl|rfl|rfl|rfl|rfl|rfl|rfl|rfl|rfl|rfl|rfl
     ·have h:s8=wv a:=hF;exact h
     ·have h:s9=wv8 am:=hF;exact h
     ·have h:s10=wv b:=hF;exact h
     ·have h:s11=.tuple #[wv8 q,wv r]:=hF;exact h
     ·have h:s7=.tuple #[wv8 q,wv r]:=hF;exact h
     ·have h:s12=wv8 q:=hF;exact h
     ·exact(rfl:wv r=wv r)
     ·obtain⟨p,f,h1,h2,h3⟩:=hF;exact⟨p,f,h1,zR h2 (YK h2 hr6 (by decide)) _ _ _ _,h3⟩
     ·exact⟨p6,za r,rfl,zy hr6 (za r) rfl rfl rfl rfl,hl6⟩
     ·obtain⟨p,h1,h2,h3⟩:=hF;exact⟨p,h1,zR h2 (YK h2 hr6 (by decide)) _ _ _ _,h3⟩
     ·exact absurd rfl hj
    ·exact zaO _ _ _ _ _ _ _ hj11 _ _
  all_goals
   rcases Nat.lt_or_ge j 11 with hj11|hj11
   ·rcases i11 hj11 with rfl|rfl|rfl|rfl|rfl|rfl|rfl|rfl|rfl|rfl|rfl
    all_goals first
     |exact absurd rfl hj
     |exact hF
     |(obtain⟨p,f,h1,h2,h3⟩:=hF;exact⟨p,f,h1,h2,h3⟩)
     |(obtain⟨p,h1,h2,h3⟩:=hF;exact⟨p,h1,h2,h3⟩)
     |(obtain⟨p,f,h1,h2,h3⟩:=hF;exact⟨p,f,h1,zg h2 hb,h3⟩)
     |(obtain⟨p,h1,h2,h3⟩:=hF;exact⟨p,h1,zg h2 hb,h3⟩)
     |(obtain⟨p,f,h1,h2,h3⟩:=hF;exact⟨p,f,h1,h2.alloc _,h3⟩)
     |(obtain⟨p,h1,h2,h3⟩:=hF;exact⟨p,h1,h2.alloc _,h3⟩)
     |(exfalso;revert hd;exact of_decide_eq_true (by kernel_rfl))
   ·exact zaO _ _ _ _ _ _ _ hj11 _ _
 ·intro s x hG hF;clear hS;obtain⟨s5,s6,s7,s8,s9,s10,s11,s12,s13,rfl,hs⟩:=hG;obtain⟨p,rfl,hr,hl⟩:∃p:Nat,s6=.pointer (some ⟨p,0,none⟩)/\x.rowIs p 24 4 (zu (za r))/\w.heap.size+1+1<p:=hF 10 (by decide);clear hF;obtain⟨y0,y1,y2,y3⟩:=ze hr;have hrz:=hs.rz;have hbel:=hs.be;have z:=hrz.lt;have z':=hbel.size;obtain⟨x0,x1,x2,x3⟩:=ze hrz;have fz:=hrz.frozen;go_wp2;obtain⟨q0,q1,q2,q3⟩:=ze (zy hrz (za r) rfl rfl rfl rfl);refine bodyPost_ret (v:=wv r) (by simp[results,results102,go_sem,q0,q1,q2,q3,z]) rfl (Zo (by rw[HR.out,HA.out]) ?_);exact zC hbel (by omega) _ _ _ _
theorem i7 {i:Nat} (h:i<7):i=0\/i=1\/i=2\/i=3\/i=4\/i=5\/i=6:=by omega
theorem i5 {i:Nat} (h:i<5):i=0\/i=1\/i=2\/i=3\/i=4:=by omega
theorem zb9 (a:Nat) (na:Bool) (h:Hid (neg a=na)) (w:World):Calls prog 167 #[wv a] w fun e w'=>e=.returned (.bool na)/\Below w.heap.size w w':=by
 have:=zba a w;rw[h.out] at this;exact this
def FSd (w:World) (a b ma mb qd:Nat):Nat->Act->World->Prop
 |0,s,_=>s.tmps.getD 6 undef=wv a
 |1,s,_=>s.tmps.getD 7 undef=wv ma
 |2,s,_=>s.tmps.getD 8 undef=wv b
 |3,s,_=>s.tmps.getD 9 undef=wv mb
 |4,s,_=>s.tmps.getD 10 undef=wv qd
 |5,s,x=>∃(p:Nat) (f:Nat->Int),s.tmps.getD 5 undef=.pointer (some ⟨p,0,none⟩)/\x.rowIs p 24 4 (zu f)/\w.heap.size+1+1<p
 |6,s,x=>∃p:Nat,s.tmps.getD 5 undef=.pointer (some ⟨p,0,none⟩)/\x.rowIs p 24 4 (zu (za qd))/\w.heap.size+1+1<p
 |_,_,_=>True
theorem zkB (w:World) (a b ma mb qd:Nat) (j:Nat) (h:7<=j) (s:Act) (x:World):FSd w a b ma mb qd j s x:=by
 match j,h with
 |j+7,_=>trivial
def GSd (w:World) (a b:Nat) (s:Act) (x:World):Prop:=∃s5 s6 s7 s8 s9 s10:Value,
 s=⟨#[wv a,wv b,.pointer (some ⟨w.heap.size,0,none⟩),.pointer (some ⟨w.heap.size+1,0,none⟩),.pointer (some ⟨w.heap.size+1+1,0,none⟩),s5,s6,s7,s8,s9,s10,undef,undef,undef,undef,undef,undef,undef,undef],[]⟩/\SS w a b x
def FSm (w:World) (a b ma mb qd:Nat):Nat->Act->World->Prop
 |0,s,_=>s.tmps.getD 6 undef=wv a
 |1,s,_=>s.tmps.getD 7 undef=wv ma
 |2,s,_=>s.tmps.getD 8 undef=wv b
 |3,s,_=>s.tmps.getD 9 undef=wv mb
 |4,s,_=>s.tmps.getD 10 undef=wv qd
 |5,s,x=>∃(p:Nat) (f:Nat->Int),s.tmps.getD 5 undef=.pointer (some ⟨p,0,none⟩)/\x.rowIs p 24 4 (zu f)/\w.heap.size+1+1<p
 |6,s,x=>∃p:Nat,s.tmps.getD 5 undef=.pointer (some ⟨p,0,none⟩)/\x.rowIs p 24 4 (zu (za qd))/\w.heap.size+1+1<p
 |_,_,_=>True
theorem zkX (w:World) (a b ma mb qd:Nat) (j:Nat) (h:7<=j) (s:Act) (x:World):FSm w a b ma mb qd j s x:=by
 match j,h with
 |j+7,_=>trivial
def GSm (w:World) (a b:Nat) (s:Act) (x:World):Prop:=∃s5 s6 s7 s8 s9 s10:Value,
 s=⟨#[wv a,wv b,.pointer (some ⟨w.heap.size,0,none⟩),.pointer (some ⟨w.heap.size+1,0,none⟩),.pointer (some ⟨w.heap.size+1+1,0,none⟩),s5,s6,s7,s8,s9,s10,undef,undef,undef,undef,undef],[]⟩/\SS w a b x
def FSg (a b:Nat) (na nb:Bool):Nat->Act->World->Prop
 |0,s,_=>s.tmps.getD 11 undef=wv a
 |1,s,_=>s.tmps.getD 12 undef=.bool na
 |2,s,_=>s.tmps.getD 13 undef=wv b
 |3,s,_=>s.tmps.getD 14 undef=.bool nb
 |4,s,_=>s.tmps.getD 15 undef=.bool (na !=nb)
 |_,_,_=>True
theorem zc5 (a b:Nat) (na nb:Bool) (j:Nat) (h:5<=j) (s:Act) (x:World):FSg a b na nb j s x:=by
 match j,h with
 |j+5,_=>trivial
def GSg (w:World) (a b p qd:Nat) (v6 v7 v8 v9 v10:Value) (s:Act) (x:World):Prop:=∃s11 s12 s13 s14 s15:Value,
 s=⟨#[wv a,wv b,.pointer (some ⟨w.heap.size,0,none⟩),.pointer (some ⟨w.heap.size+1,0,none⟩),.pointer (some ⟨w.heap.size+1+1,0,none⟩),.pointer (some ⟨p,0,none⟩),v6,v7,v8,v9,v10,s11,s12,s13,s14,s15,undef,undef,undef],[]⟩/\(SS w a b x/\x.rowIs p 24 4 (zu (za qd)))
theorem zcG {a b ma mb qd:Nat} (h1:ma=yM (a%M)) (h2:mb=yM (b%M)) (h3:qd=zfO (ma%M) (mb%M)):zfO (yM (a%M)) (yM (b%M))=qd:=by
 rw[h3,h1,h2,Nat.mod_eq_of_lt (zee _ (Nat.mod_lt _ Yx)),Nat.mod_eq_of_lt (zee _ (Nat.mod_lt _ Yx))]
theorem zil {a b ma mb qd:Nat} (h1:ma=yM (a%M)) (h2:mb=yM (b%M)) (h3:qd=zbi (ma%M) (mb%M)):zbi (yM (a%M)) (yM (b%M))=qd:=by
 rw[h3,h1,h2,Nat.mod_eq_of_lt (zee _ (Nat.mod_lt _ Yx)),Nat.mod_eq_of_lt (zee _ (Nat.mod_lt _ Yx))]
theorem zjn {a b qd s:Nat} (h:zfO (yM (a%M)) (yM (b%M))=qd) (hn:(neg a !=neg b)=true) (hs:s=zha (qd%M)) (hq:qd<M):s%M=zgl (a%M) (b%M)%M:=by
 unfold zgl;rw[ZY,ZY,hn,if_pos rfl,h,hs,Nat.mod_eq_of_lt hq]
theorem zih {a b qd:Nat} (h:zfO (yM (a%M)) (yM (b%M))=qd) (hn:(neg a !=neg b)=false):qd%M=zgl (a%M) (b%M)%M:=by
 unfold zgl;rw[ZY,ZY,hn,if_neg (by decide),h]
theorem znK {a b qd s:Nat} (h:zbi (yM (a%M)) (yM (b%M))=qd) (hn:neg a=true) (hs:s=zha (qd%M)) (hq:qd<M):s%M=zfY (a%M) (b%M)%M:=by
 unfold zfY;rw[ZY,hn,if_pos rfl,h,hs,Nat.mod_eq_of_lt hq]
theorem znp {a b qd:Nat} (h:zbi (yM (a%M)) (yM (b%M))=qd) (hn:neg a=false):qd%M=zfY (a%M) (b%M)%M:=by
 unfold zfY;rw[ZY,hn,if_neg (by decide),h]
theorem zn6 (a b:Nat) (w:World):Calls prog 101 #[wv a,wv b] w (Ret w (zgl (a%M) (b%M))):=by
 obtain⟨ma,HMA⟩:∃ma,Hid (ma=yM (a%M)):=⟨_,rfl⟩;obtain⟨mb,HMB⟩:∃mb,Hid (mb=yM (b%M)):=⟨_,rfl⟩;obtain⟨qd,HQD⟩:∃qd,Hid (qd=zfO (ma%M) (mb%M)):=⟨_,rfl⟩;obtain⟨na,HNA⟩:∃na,Hid (neg a=na):=⟨_,rfl⟩;obtain⟨nb,HNB⟩:∃nb,Hid (neg b=nb):=⟨_,rfl⟩;have hS:=SS.start w a b;go_enter func101,ntmps101;go_wp2;refine ZK (by kernel_rfl) (GSd w a b) (FSd w a b ma mb qd) (YF (by kernel_rfl)) ?_ ?_ ?_
 ·exact⟨_,_,_,_,_,_,rfl,hS.drew⟩
 ·intro i o ho s x hG hdep;clear hS;obtain⟨s5,s6,s7,s8,s9,s10,rfl,hs⟩:=hG;have hi:i<7:=(Array.getElem?_eq_some_iff.1 ho).1;rcases i7 hi with rfl|rfl|rfl|rfl|rfl|rfl|rfl;obtain rfl:=sj ho;refine wpOp_step rfl fun K hK=> ?_
  obtain⟨y0,y1,y2,y3⟩:=ze hs.ra;go_simp;refine hK _ _ ⟨⟨_,_,_,_,_,_,rfl,hs⟩,rfl,fun j hj hd hF=> ?_⟩;rotate_left;obtain rfl:=sj ho;refine wpOp_step rfl fun K hK=> ?_
  have h0:s6=wv a:=hdep ⟨0,.data⟩ (by simp) rfl;subst h0;go_simp;refine(YD a _).mono ?_;rintro e y ⟨rr,HRR,rfl,hb⟩;obtain rfl:rr=ma:=HRR.out.trans HMA.out.symm;dsimp only;refine hK _ _ ⟨⟨_,_,_,_,_,_,rfl,hs.call hb⟩,rfl,fun j hj hd hF=> ?_⟩;rotate_left;obtain rfl:=sj ho;refine wpOp_step rfl fun K hK=> ?_
  obtain⟨y0,y1,y2,y3⟩:=ze hs.rb;go_simp;refine hK _ _ ⟨⟨_,_,_,_,_,_,rfl,hs⟩,rfl,fun j hj hd hF=> ?_⟩;rotate_left;obtain rfl:=sj ho;refine wpOp_step rfl fun K hK=> ?_
  have h2:s8=wv b:=hdep ⟨2,.data⟩ (by simp) rfl;subst h2;go_simp;refine(YD b _).mono ?_;rintro e y ⟨rr,HRR,rfl,hb⟩;obtain rfl:rr=mb:=HRR.out.trans HMB.out.symm;dsimp only;refine hK _ _ ⟨⟨_,_,_,_,_,_,rfl,hs.call hb⟩,rfl,fun j hj hd hF=> ?_⟩;rotate_left;obtain rfl:=sj ho;refine wpOp_step rfl fun K hK=> ?_
  have h1:s7=wv ma:=hdep ⟨1,.data⟩ (by simp) rfl;subst h1;have h3:s9=wv mb:=hdep ⟨3,.data⟩ (by simp) rfl;subst h3;go_simp;refine(zli ma mb _).mono ?_;rintro e y ⟨rr,HRR,rfl,hb⟩;obtain rfl:rr=qd:=HRR.out.trans HQD.out.symm;dsimp only;refine hK _ _ ⟨⟨_,_,_,_,_,_,rfl,hs.call hb⟩,rfl,fun j hj hd hF=> ?_⟩;rotate_left;obtain rfl:=sj ho;refine wpOp_step rfl fun K hK=> ?_
  have zz:=hs.rz.lt;go_simp;refine hK _ _ ⟨⟨_,_,_,_,_,_,rfl,hs.alloc _⟩,⟨_,fun _=>0,rfl,zj _ rfl rfl rfl rfl rfl,zz⟩,fun j hj hd hF=> ?_⟩;rotate_left
  ·obtain rfl:=sj ho;refine wpOp_step rfl fun K hK=> ?_
   have h5:∃(p:Nat) (f:Nat->Int),s5=.pointer (some ⟨p,0,none⟩)/\x.rowIs p 24 4 (zu f)/\w.heap.size+1+1<p:=hdep ⟨5,.data⟩ (by simp) rfl;have h4:s10=wv qd:=hdep ⟨4,.data⟩ (by simp) rfl;subst h4;obtain⟨p5,f5,rfl,hr5,hl5⟩:=h5;obtain⟨y0,y1,y2,y3⟩:=ze hr5;have fz:=hr5.frozen;go_simp;refine hK _ _ ⟨⟨_,_,_,_,_,_,rfl,((((hs.set hl5 _).set hl5 _).set hl5 _).set hl5 _)⟩,⟨p5,rfl,zy hr5 (za qd) rfl rfl rfl rfl,hl5⟩,fun j hj hd hF=> ?_⟩;rcases Nat.lt_or_ge j 7 with hjn|hjn
   ·rcases i7 hjn with rfl|rfl|rfl|rfl|rfl|rfl|rfl
    ·have h:s6=wv a:=hF;exact h
    ·have h:s7=wv ma:=hF;exact h
    ·have h:s8=wv b:=hF;exact h
    ·have h:s9=wv mb:=hF;exact h
    ·exact(rfl:(wv qd:Value)=wv qd)
    ·exact⟨p5,za qd,rfl,zy hr5 (za qd) rfl rfl rfl rfl,hl5⟩
    ·exact absurd rfl hj
   ·exact zkB _ _ _ _ _ _ _ hjn _ _
  all_goals
   rcases Nat.lt_or_ge j 7 with hjn|hjn
   ·rcases i7 hjn with rfl|rfl|rfl|rfl|rfl|rfl|rfl
    all_goals first
     |exact absurd rfl hj
     |exact hF
     |exact rfl
     |(obtain⟨p,f,h1,h2,h3⟩:=hF;exact⟨p,f,h1,h2,h3⟩)
     |(obtain⟨p,h1,h2,h3⟩:=hF;exact⟨p,h1,h2,h3⟩)
     |(obtain⟨p,f,h1,h2,h3⟩:=hF;exact⟨p,f,h1,zg h2 hb,h3⟩)
     |(obtain⟨p,h1,h2,h3⟩:=hF;exact⟨p,h1,zg h2 hb,h3⟩)
     |(exfalso;revert hd;exact of_decide_eq_true (by kernel_rfl))
   ·exact zkB _ _ _ _ _ _ _ hjn _ _
 ·intro s x hG hF;clear hS;obtain⟨s5,s6,s7,s8,s9,s10,rfl,hs⟩:=hG;obtain⟨p,rfl,hr,hl⟩:∃p:Nat,s5=.pointer (some ⟨p,0,none⟩)/\x.rowIs p 24 4 (zu (za qd))/\w.heap.size+1+1<p:=hF 6 (by decide);clear hF;go_wp2;refine ZK (by kernel_rfl) (GSg w a b p qd s6 s7 s8 s9 s10) (FSg a b na nb) (YF (by kernel_rfl)) ?_ ?_ ?_
  ·exact⟨_,_,_,_,_,rfl,⟨hs.drew,hr.drew⟩⟩
  ·intro i o ho s x hG hdep;obtain⟨s11,s12,s13,s14,s15,rfl,hs⟩:=hG;have hi:i<5:=(Array.getElem?_eq_some_iff.1 ho).1;rcases i5 hi with rfl|rfl|rfl|rfl|rfl
   ·obtain rfl:=sj ho;refine wpOp_step rfl fun K hK=> ?_
    obtain⟨y0,y1,y2,y3⟩:=ze hs.1.ra;go_simp;refine hK _ _ ⟨⟨_,_,_,_,_,rfl,hs⟩,rfl,fun j hj hd hF=> ?_⟩;rcases Nat.lt_or_ge j 5 with hjn|hjn
    ·rcases i5 hjn with rfl|rfl|rfl|rfl|rfl
     ·exact absurd rfl hj
     ·exfalso;revert hd;exact of_decide_eq_true (by kernel_rfl)
     ·have h:s13=wv b:=hF;exact h
     ·have h:s14=.bool nb:=hF;exact h
     ·have h:s15=.bool (na !=nb):=hF;exact h
    ·exact zc5 _ _ _ _ _ hjn _ _
   ·obtain rfl:=sj ho;refine wpOp_step rfl fun K hK=> ?_
    have h0:s11=wv a:=hdep ⟨0,.data⟩ (by simp) rfl;subst h0;go_simp;refine(zb9 a na HNA _).mono ?_;rintro e y ⟨rfl,hb⟩;dsimp only;refine hK _ _ ⟨⟨_,_,_,_,_,rfl,⟨hs.1.call hb,zg hs.2 hb⟩⟩,rfl,fun j hj hd hF=> ?_⟩;rcases Nat.lt_or_ge j 5 with hjn|hjn
    ·rcases i5 hjn with rfl|rfl|rfl|rfl|rfl
     ·exact(rfl:(wv a:Value)=wv a)
     ·exact absurd rfl hj
     ·have h:s13=wv b:=hF;exact h
     ·have h:s14=.bool nb:=hF;exact h
     ·exfalso;revert hd;exact of_decide_eq_true (by kernel_rfl)
    ·exact zc5 _ _ _ _ _ hjn _ _
   ·obtain rfl:=sj ho;refine wpOp_step rfl fun K hK=> ?_
    obtain⟨y0,y1,y2,y3⟩:=ze hs.1.rb;go_simp;refine hK _ _ ⟨⟨_,_,_,_,_,rfl,hs⟩,rfl,fun j hj hd hF=> ?_⟩;rcases Nat.lt_or_ge j 5 with hjn|hjn
    ·rcases i5 hjn with rfl|rfl|rfl|rfl|rfl
     ·have h:s11=wv a:=hF;exact h
     ·have h:s12=.bool na:=hF;exact h
     ·exact absurd rfl hj
     ·exfalso;revert hd;exact of_decide_eq_true (by kernel_rfl)
     ·have h:s15=.bool (na !=nb):=hF;exact h
    ·exact zc5 _ _ _ _ _ hjn _ _
   ·obtain rfl:=sj ho;refine wpOp_step rfl fun K hK=> ?_
    have h2:s13=wv b:=hdep ⟨2,.data⟩ (by simp) rfl;subst h2;go_simp;refine(zb9 b nb HNB _).mono ?_;rintro e y ⟨rfl,hb⟩;dsimp only;refine hK _ _ ⟨⟨_,_,_,_,_,rfl,⟨hs.1.call hb,zg hs.2 hb⟩⟩,rfl,fun j hj hd hF=> ?_⟩;rcases Nat.lt_or_ge j 5 with hjn|hjn
    ·rcases i5 hjn with rfl|rfl|rfl|rfl|rfl
     ·have h:s11=wv a:=hF;exact h
     ·have h:s12=.bool na:=hF;exact h
     ·exact(rfl:(wv b:Value)=wv b)
     ·exact absurd rfl hj
     ·exfalso;revert hd;exact of_decide_eq_true (by kernel_rfl)
    ·exact zc5 _ _ _ _ _ hjn _ _
   ·obtain rfl:=sj ho;refine wpOp_step rfl fun K hK=> ?_
    have h1:s12=.bool na:=hdep ⟨1,.data⟩ (by simp) rfl;subst h1;have h3:s14=.bool nb:=hdep ⟨3,.data⟩ (by simp) rfl;subst h3;go_simp;refine hK _ _ ⟨⟨_,_,_,_,_,rfl,hs⟩,rfl,fun j hj hd hF=> ?_⟩;rcases Nat.lt_or_ge j 5 with hjn|hjn
    ·rcases i5 hjn with rfl|rfl|rfl|rfl|rfl
     ·have h:s11=wv a:=hF;exact h
     ·exact(rfl:(.bool na:Value)=.bool na)
     ·have h:s13=wv b:=hF;exact h
     ·exact(rfl:(.bool nb:Value)=.bool nb)
     ·exact absurd rfl hj
    ·exact zc5 _ _ _ _ _ hjn _ _
  ·intro s x hG hF;obtain⟨s11,s12,s13,s14,s15,rfl,hs⟩:=hG;have h4:s15=.bool (na !=nb):=hF 4 (by decide);clear hF hr;obtain⟨hs,hr⟩:=hs;subst h4;cases na<;>cases nb
   ·skip;obtain⟨y0,y1,y2,y3⟩:=ze hr;have hrz:=hs.rz;have hbel:=hs.be;have z':=hbel.size;obtain⟨x0,x1,x2,x3⟩:=ze hrz;have fz:=hrz.frozen;go_wp2;obtain⟨q0,q1,q2,q3⟩:=ze (zy hrz (za qd) rfl rfl rfl rfl);refine bodyPost_ret (v:=wv qd) (by simp[results,results101,go_sem,q0,q1,q2,q3]) rfl (Zo (zih (zcG HMA.out HMB.out HQD.out) (by rw[HNA.out,HNB.out];rfl)) ?_);exact zC hbel (by omega) _ _ _ _
   ·skip;obtain⟨y0,y1,y2,y3⟩:=ze hr;go_wp2_with fail
    refine(za5 qd _).mono ?_;rintro e w2 ⟨s,HSN,rfl,hb⟩;have hrz:=zg hs.rz hb;have hbel:=ZE hs.be hb;have z':=hbel.size;obtain⟨x0,x1,x2,x3⟩:=ze hrz;have fz:=hrz.frozen;clear hb;go_wp2;obtain⟨q0,q1,q2,q3⟩:=ze (zy hrz (za s) rfl rfl rfl rfl);refine bodyPost_ret (v:=wv s) (by simp[results,results101,go_sem,q0,q1,q2,q3]) rfl (Zo (zjn (zcG HMA.out HMB.out HQD.out) (by rw[HNA.out,HNB.out];rfl) HSN.out (by rw[HQD.out];exact zkC _ _ (Nat.mod_lt _ Yx))) ?_);exact zC hbel (by omega) _ _ _ _
   ·skip;obtain⟨y0,y1,y2,y3⟩:=ze hr;go_wp2_with fail
    refine(za5 qd _).mono ?_;rintro e w2 ⟨s,HSN,rfl,hb⟩;have hrz:=zg hs.rz hb;have hbel:=ZE hs.be hb;have z':=hbel.size;obtain⟨x0,x1,x2,x3⟩:=ze hrz;have fz:=hrz.frozen;clear hb;go_wp2;obtain⟨q0,q1,q2,q3⟩:=ze (zy hrz (za s) rfl rfl rfl rfl);refine bodyPost_ret (v:=wv s) (by simp[results,results101,go_sem,q0,q1,q2,q3]) rfl (Zo (zjn (zcG HMA.out HMB.out HQD.out) (by rw[HNA.out,HNB.out];rfl) HSN.out (by rw[HQD.out];exact zkC _ _ (Nat.mod_lt _ Yx))) ?_);exact zC hbel (by omega) _ _ _ _
   ·skip;obtain⟨y0,y1,y2,y3⟩:=ze hr;have hrz:=hs.rz;have hbel:=hs.be;have z':=hbel.size;obtain⟨x0,x1,x2,x3⟩:=ze hrz;have fz:=hrz.frozen;go_wp2;obtain⟨q0,q1,q2,q3⟩:=ze (zy hrz (za qd) rfl rfl rfl rfl);refine bodyPost_ret (v:=wv qd) (by simp[results,results101,go_sem,q0,q1,q2,q3]) rfl (Zo (zih (zcG HMA.out HMB.out HQD.out) (by rw[HNA.out,HNB.out];rfl)) ?_);exact zC hbel (by omega) _ _ _ _
theorem zoh (a b:Nat) (w:World):Calls prog 103 #[wv a,wv b] w (Ret w (zfY (a%M) (b%M))):=by
 obtain⟨ma,HMA⟩:∃ma,Hid (ma=yM (a%M)):=⟨_,rfl⟩;obtain⟨mb,HMB⟩:∃mb,Hid (mb=yM (b%M)):=⟨_,rfl⟩;obtain⟨qd,HQD⟩:∃qd,Hid (qd=zbi (ma%M) (mb%M)):=⟨_,rfl⟩;obtain⟨na,HNA⟩:∃na,Hid (neg a=na):=⟨_,rfl⟩;have hS:=SS.start w a b;go_enter func103,ntmps103;go_wp2;refine ZK (by kernel_rfl) (GSm w a b) (FSm w a b ma mb qd) (YF (by kernel_rfl)) ?_ ?_ ?_
 ·exact⟨_,_,_,_,_,_,rfl,hS.drew⟩
 ·intro i o ho s x hG hdep;clear hS;obtain⟨s5,s6,s7,s8,s9,s10,rfl,hs⟩:=hG;have hi:i<7:=(Array.getElem?_eq_some_iff.1 ho).1;rcases i7 hi with rfl|rfl|rfl|rfl|rfl|rfl|rfl;obtain rfl:=sj ho;refine wpOp_step rfl fun K hK=> ?_
  obtain⟨y0,y1,y2,y3⟩:=ze hs.ra;go_simp;refine hK _ _ ⟨⟨_,_,_,_,_,_,rfl,hs⟩,rfl,fun j hj hd hF=> ?_⟩;rotate_left;obtain rfl:=sj ho;refine wpOp_step rfl fun K hK=> ?_
  have h0:s6=wv a:=hdep ⟨0,.data⟩ (by simp) rfl;subst h0;go_simp;refine(YD a _).mono ?_;rintro e y ⟨rr,HRR,rfl,hb⟩;obtain rfl:rr=ma:=HRR.out.trans HMA.out.symm;dsimp only;refine hK _ _ ⟨⟨_,_,_,_,_,_,rfl,hs.call hb⟩,rfl,fun j hj hd hF=> ?_⟩;rotate_left;obtain rfl:=sj ho;refine wpOp_step rfl fun K hK=> ?_
  obtain⟨y0,y1,y2,y3⟩:=ze hs.rb;go_simp;refine hK _ _ ⟨⟨_,_,_,_,_,_,rfl,hs⟩,rfl,fun j hj hd hF=> ?_⟩;rotate_left;obtain rfl:=sj ho;refine wpOp_step rfl fun K hK=> ?_
  have h2:s8=wv b:=hdep ⟨2,.data⟩ (by simp) rfl;subst h2;go_simp;refine(YD b _).mono ?_;rintro e y ⟨rr,HRR,rfl,hb⟩;obtain rfl:rr=mb:=HRR.out.trans HMB.out.symm;dsimp only;refine hK _ _ ⟨⟨_,_,_,_,_,_,rfl,hs.call hb⟩,rfl,fun j hj hd hF=> ?_⟩;rotate_left;obtain rfl:=sj ho;refine wpOp_step rfl fun K hK=> ?_
  have h1:s7=wv ma:=hdep ⟨1,.data⟩ (by simp) rfl;subst h1;have h3:s9=wv mb:=hdep ⟨3,.data⟩ (by simp) rfl;subst h3;go_simp;refine(zkH ma mb _).mono ?_;rintro e y ⟨rr,HRR,rfl,hb⟩;obtain rfl:rr=qd:=HRR.out.trans HQD.out.symm;dsimp only;refine hK _ _ ⟨⟨_,_,_,_,_,_,rfl,hs.call hb⟩,rfl,fun j hj hd hF=> ?_⟩;rotate_left;obtain rfl:=sj ho;refine wpOp_step rfl fun K hK=> ?_
  have zz:=hs.rz.lt;go_simp;refine hK _ _ ⟨⟨_,_,_,_,_,_,rfl,hs.alloc _⟩,⟨_,fun _=>0,rfl,zj _ rfl rfl rfl rfl rfl,zz⟩,fun j hj hd hF=> ?_⟩;rotate_left
  ·obtain rfl:=sj ho;refine wpOp_step rfl fun K hK=> ?_
   have h5:∃(p:Nat) (f:Nat->Int),s5=.pointer (some ⟨p,0,none⟩)/\x.rowIs p 24 4 (zu f)/\w.heap.size+1+1<p:=hdep ⟨5,.data⟩ (by simp) rfl;have h4:s10=wv qd:=hdep ⟨4,.data⟩ (by simp) rfl;subst h4;obtain⟨p5,f5,rfl,hr5,hl5⟩:=h5;obtain⟨y0,y1,y2,y3⟩:=ze hr5;have fz:=hr5.frozen;go_simp;refine hK _ _ ⟨⟨_,_,_,_,_,_,rfl,((((hs.set hl5 _).set hl5 _).set hl5 _).set hl5 _)⟩,⟨p5,rfl,zy hr5 (za qd) rfl rfl rfl rfl,hl5⟩,fun j hj hd hF=> ?_⟩;rcases Nat.lt_or_ge j 7 with hjn|hjn
   ·rcases i7 hjn with rfl|rfl|rfl|rfl|rfl|rfl|rfl
    ·have h:s6=wv a:=hF;exact h
    ·have h:s7=wv ma:=hF;exact h
    ·have h:s8=wv b:=hF;exact h
    ·have h:s9=wv mb:=hF;exact h
    ·exact(rfl:(wv qd:Value)=wv qd)
    ·exact⟨p5,za qd,rfl,zy hr5 (za qd) rfl rfl rfl rfl,hl5⟩
    ·exact absurd rfl hj
   ·exact zkX _ _ _ _ _ _ _ hjn _ _
  all_goals
   rcases Nat.lt_or_ge j 7 with hjn|hjn
   ·rcases i7 hjn with rfl|rfl|rfl|rfl|rfl|rfl|rfl
    all_goals first
     |exact absurd rfl hj
     |exact hF
     |exact rfl
     |(obtain⟨p,f,h1,h2,h3⟩:=hF;exact⟨p,f,h1,h2,h3⟩)
     |(obtain⟨p,h1,h2,h3⟩:=hF;exact⟨p,h1,h2,h3⟩)
     |(obtain⟨p,f,h1,h2,h3⟩:=hF;exact⟨p,f,h1,zg h2 hb,h3⟩)
     |(obtain⟨p,h1,h2,h3⟩:=hF;exact⟨p,h1,zg h2 hb,h3⟩)
     |(exfalso;revert hd;exact of_decide_eq_true (by kernel_rfl))
   ·exact zkX _ _ _ _ _ _ _ hjn _ _
 ·intro s x hG hF;clear hS;obtain⟨s5,s6,s7,s8,s9,s10,rfl,hs⟩:=hG;obtain⟨p,rfl,hr,hl⟩:∃p:Nat,s5=.pointer (some ⟨p,0,none⟩)/\x.rowIs p 24 4 (zu (za qd))/\w.heap.size+1+1<p:=hF 6 (by decide);clear hF;obtain⟨u0,u1,u2,u3⟩:=ze hs.ra;go_wp2_with fail
  refine(zb9 a na HNA _).mono ?_;rintro e w1 ⟨rfl,hb⟩;replace hs:=hs.call hb;replace hr:=zg hr hb;clear hb u0 u1 u2 u3;cases na
  ·skip;obtain⟨y0,y1,y2,y3⟩:=ze hr;have hrz:=hs.rz;have hbel:=hs.be;have z':=hbel.size;obtain⟨x0,x1,x2,x3⟩:=ze hrz;have fz:=hrz.frozen;go_wp2;obtain⟨q0,q1,q2,q3⟩:=ze (zy hrz (za qd) rfl rfl rfl rfl);refine bodyPost_ret (v:=wv qd) (by simp[results,results103,go_sem,q0,q1,q2,q3]) rfl (Zo (znp (zil HMA.out HMB.out HQD.out) HNA.out) ?_);exact zC hbel (by omega) _ _ _ _
  ·skip;obtain⟨y0,y1,y2,y3⟩:=ze hr;go_wp2_with fail
   refine(za5 qd _).mono ?_;rintro e w2 ⟨s,HSN,rfl,hb⟩;have hrz:=zg hs.rz hb;have hbel:=ZE hs.be hb;have z':=hbel.size;obtain⟨x0,x1,x2,x3⟩:=ze hrz;have fz:=hrz.frozen;clear hb;go_wp2;obtain⟨q0,q1,q2,q3⟩:=ze (zy hrz (za s) rfl rfl rfl rfl);refine bodyPost_ret (v:=wv s) (by simp[results,results103,go_sem,q0,q1,q2,q3]) rfl (Zo (znK (zil HMA.out HMB.out HQD.out) HNA.out HSN.out (by rw[HQD.out];exact fmod_lt _ _ (Nat.mod_lt _ Yx))) ?_);exact zC hbel (by omega) _ _ _ _
def Pk (a b k:Nat):Nat:=a^(b/2^k)%M
theorem Pk_top (a b L:Nat) (h:b<2^L):Pk a b L=1%M:=by unfold Pk;rw[Nat.div_eq_of_lt h,Nat.pow_zero]
theorem Pk_zero (a b:Nat):Pk a b 0=zg0 a b:=by unfold Pk zg0;simp
theorem pow_mod (a n:Nat):a^n%M=(a%M)^n%M:=Nat.pow_mod a n M
theorem Pk_sq {a b i p r:Nat} (h:p%M=Pk a b (i+1)) (h0:za7 b i=0) (hr:r=zdB p p):r%M=Pk a b i:=by
 unfold Pk at*;rw[zbD b i,h0,Nat.add_zero,Nat.two_mul,Nat.pow_add,hr];unfold zdB;rw[Nat.mod_mod,Nat.mul_mod,h,<-Nat.mul_mod]
theorem Pk_mul {a b i p r s:Nat} (h:p%M=Pk a b (i+1)) (h1:za7 b i=1) (hr:r=zdB p p) (hs:s=zdB r a):s%M=Pk a b i:=by
 unfold Pk at*;rw[zbD b i,h1,Nat.two_mul,Nat.pow_add,Nat.pow_add,Nat.pow_one,hs,hr];unfold zdB;have e:p*p%M=a^(b/2^(i+1))*a^(b/2^(i+1))%M:=by rw[Nat.mul_mod,h,<-Nat.mul_mod]
 rw[Nat.mod_mod,e,Nat.mod_mul_mod]
structure EX (w:World) (a b:Nat) (x:World):Prop where
 ra:x.rowIs w.heap.size 24 4 (zu (za a))
 rb:x.rowIs (w.heap.size+1) 24 4 (zu (za b))
 rz:x.rowIs (w.heap.size+1+1) 24 4 (zu fun _=>0)
 be:Below w.heap.size w x
theorem EX.call {w:World} {a b:Nat} {x y:World} (h:EX w a b x) (hb:Below x.heap.size x y):EX w a b y:=⟨zg h.ra hb,zg h.rb hb,zg h.rz hb,ZE h.be hb⟩
theorem EX.put {w:World} {a b:Nat} {x:World} (h:EX w a b x) (v0 v1 v2 v3:Value):EX w a b ((((x.setCell ⟨w.heap.size+1+1+1,0,none⟩ v0).setCell ⟨w.heap.size+1+1+1,1,none⟩ v1).setCell ⟨w.heap.size+1+1+1,2,none⟩ v2).setCell ⟨w.heap.size+1+1+1,3,none⟩ v3):=
 ⟨zR h.ra (by omega) _ _ _ _,zR h.rb (by omega) _ _ _ _,zR h.rz (by omega) _ _ _ _,zC h.be (by omega) _ _ _ _⟩
theorem EX.start (w:World) (a b:Nat) {o:Obj}:EX w a b ((((w.alloc (.cells #[.int .u64 (za a 0),.int .u64 (za a 1),.int .u64 (za a 2),.int .u64 (za a 3)] 24)).alloc (.cells #[.int .u64 (za b 0),.int .u64 (za b 1),.int .u64 (za b 2),.int .u64 (za b 3)] 24)).alloc (.cells #[.int .u64 0,.int .u64 0,.int .u64 0,.int .u64 0] 24)).alloc o):=
 ⟨zj (za a) rfl rfl rfl rfl rfl |>.alloc _ |>.alloc _ |>.alloc _,zj (za b) (by simp) rfl rfl rfl rfl |>.alloc _ |>.alloc _,zj (fun _=>0) (by simp) rfl rfl rfl rfl |>.alloc _,bal (bal (bal (bal (Below.refl _ _) _) _) _) _⟩
theorem zmh:(1:Int)=za 1 0/\(0:Int)=za 1 1/\(0:Int)=za 1 2/\(0:Int)=za 1 3:=by
 unfold za;rw[pw0,pw1,pw2,pw3];decide
theorem exp_lt (a b:Nat) (hb:b<2^(64*4)) (w:World):Calls prog 106 #[wv a,wv b] w (Ret w (zg0 a b)):=by
 have HB:Hid (b<2^(64*4)):=hb;clear hb;go_enter func106,ntmps106;go_wp2_with fail
 refine(zbZ b 4 (w.heap.size+1) 24 _ (by omega) HB.out ?_).mono ?_
 ·exact zj (za b) (by simp) rfl rfl rfl rfl |>.alloc _ |>.alloc _
 rintro e w' ⟨L,hL,hLb,rfl,rfl⟩;have HL:Hid (b<2^L):=hLb;clear hLb;go_wp2
 go_loopw [6] (fun t6 wr=>∃(k p:Nat),k<=256/\t6=.int .i64 ((k:Int) - 1)/\EX w a b wr/\wr.rowIs (w.heap.size+1+1+1) 24 4 (zu (za p))/\Hid (p%M=Pk a b k))
   (fun t6 _=>(intOf t6+1).toNat)
 case atStart=>
  obtain⟨o0,o1,o2,o3⟩:=zmh;exact⟨L,1,by omega,by go_num,EX.start w a b,zj (za 1) (by simp) o0 o1 o2 o3,(Pk_top a b L HL.out).symm⟩
 case round=>
  clear HL hL;obtain⟨k,p,hk,rfl,hx,hp,HP⟩:=hrel;rcases Nat.eq_zero_or_pos k with rfl|hpos
  ·obtain⟨r0,r1,r2,r3⟩:=ze hp;obtain⟨x0,x1,x2,x3⟩:=ze hx.rz;have fz:=hx.rz.frozen;have hbel:=hx.be;go_wp2;obtain⟨q0,q1,q2,q3⟩:=ze (zy hx.rz (za p) rfl rfl rfl rfl);refine bodyPost_ret (v:=wv p) (by simp[results,results106,go_sem,q0,q1,q2,q3]) rfl (Zo (by rw[HP.out,Pk_zero,Nat.mod_eq_of_lt (fexp_lt a b)]) ?_);exact zC hbel (by omega) _ _ _ _
  ·obtain⟨i,rfl⟩:∃i,k=i+1:=⟨k - 1,by omega⟩;clear hpos;have ek:((i+1:Nat):Int) - 1=(i:Int):=by omega
   rw[ek];obtain⟨r0,r1,r2,r3⟩:=ze hp;go_wp2_with fail
   refine(zhd p p _).mono ?_;rintro e w1 ⟨r,HR,rfl,hb1⟩;replace hx:=hx.call hb1;replace hp:=zg hp hb1;clear hb1 r0 r1 r2 r3;obtain⟨r0,r1,r2,r3⟩:=ze hp;have fp:=hp.frozen;obtain⟨bt,HBT⟩:∃bt,Hid (bt=za7 b i):=⟨_,rfl⟩;go_wp2_with fail
   replace hx:=hx.put (.int .u64 (za r 0)) (.int .u64 (za r 1)) (.int .u64 (za r 2)) (.int .u64 (za r 3));replace hp:=zy hp (za r) rfl rfl rfl rfl;refine(zlx b 4 i (w.heap.size+1) 24 _ (by omega) (by omega) hx.rb).mono ?_;rintro e w2 ⟨rfl,rfl⟩;rw[<-HBT.out];clear r0 r1 r2 r3 fp;have hbt:bt<=1:=by rw[HBT.out];exact zhq b i
   have hbt2:bt=0\/bt=1:=by omega
   clear hbt;rcases hbt2 with rfl|rfl
   ·go_wp2
    go_roundw
    case rel=>exact⟨i,r,by omega,rfl,hx,hp,Pk_sq HP.out HBT.out.symm HR.out⟩
    case measure=>simp[intOf]
   ·obtain⟨r0,r1,r2,r3⟩:=ze hp;obtain⟨a0,a1,a2,a3⟩:=ze hx.ra;go_wp2_with fail
    refine(zhd r a _).mono ?_;rintro e w3 ⟨s,HS,rfl,hb3⟩;replace hx:=hx.call hb3;replace hp:=zg hp hb3;clear hb3 r0 r1 r2 r3 a0 a1 a2 a3;obtain⟨r0,r1,r2,r3⟩:=ze hp;have fp:=hp.frozen;go_wp2
    go_roundw
    case rel=>exact⟨i,s,by omega,rfl,hx.put _ _ _ _,zy hp (za s) rfl rfl rfl rfl,Pk_mul HP.out HBT.out.symm HR.out HS.out⟩
    case measure=>simp[intOf]
theorem zm6 (a b:Nat):zg0 a b=zg0 (a%M) b:=by unfold zg0;exact pow_mod a b
theorem exp_any (a b:Nat) (w:World):Calls prog 106 #[wv a,wv b] w (Ret w (zg0 (a%M) (b%M))):=by
 rw[<-zdk b,<-zm6];exact exp_lt a (b%M) (Nat.mod_lt _ Yx) w
theorem i12 {i:Nat} (h:i<12):i=0\/i=1\/i=2\/i=3\/i=4\/i=5\/i=6\/i=7\/i=8\/i=9\/i=10\/i=11:=by omega
structure S4 (w:World) (a b c:Nat) (x:World):Prop where
 ra:x.rowIs w.heap.size 24 4 (zu (za a))
 rb:x.rowIs (w.heap.size+1) 24 4 (zu (za b))
 rc:x.rowIs (w.heap.size+1+1) 24 4 (zu (za c))
 rz:x.rowIs (w.heap.size+1+1+1) 24 4 (zu fun _=>0)
 be:Below w.heap.size w x
theorem S4.drew {w:World} {a b c:Nat} {x:World} (h:S4 w a b c x):S4 w a b c x.drew:=⟨h.ra,h.rb,h.rc,h.rz,h.be.drew⟩
theorem S4.alloc {w:World} {a b c:Nat} {x:World} (h:S4 w a b c x) (o:Obj):S4 w a b c (x.alloc o):=⟨h.ra.alloc _,h.rb.alloc _,h.rc.alloc _,h.rz.alloc _,bal h.be _⟩
theorem S4.call {w:World} {a b c:Nat} {x y:World} (h:S4 w a b c x) (hb:Below x.heap.size x y):S4 w a b c y:=⟨zg h.ra hb,zg h.rb hb,zg h.rc hb,zg h.rz hb,ZE h.be hb⟩
theorem S4.set {w:World} {a b c:Nat} {x:World} (h:S4 w a b c x) {p:Addr} (hp:w.heap.size+1+1+1<p.block) (v:Value):S4 w a b c (x.setCell p v):=
 ⟨h.ra.setOther (by omega) _,h.rb.setOther (by omega) _,h.rc.setOther (by omega) _,h.rz.setOther (by omega) _,h.be.setCell (by omega) _⟩
theorem S4.start (w:World) (a b c:Nat):S4 w a b c ((((w.alloc (.cells #[.int .u64 (za a 0),.int .u64 (za a 1),.int .u64 (za a 2),.int .u64 (za a 3)] 24)).alloc (.cells #[.int .u64 (za b 0),.int .u64 (za b 1),.int .u64 (za b 2),.int .u64 (za b 3)] 24)).alloc (.cells #[.int .u64 (za c 0),.int .u64 (za c 1),.int .u64 (za c 2),.int .u64 (za c 3)] 24)).alloc (.cells #[.int .u64 0,.int .u64 0,.int .u64 0,.int .u64 0] 24)):=
 ⟨zj (za a) rfl rfl rfl rfl rfl |>.alloc _ |>.alloc _ |>.alloc _,zj (za b) (by simp) rfl rfl rfl rfl |>.alloc _ |>.alloc _,zj (za c) (by simp) rfl rfl rfl rfl |>.alloc _,zj (fun _=>0) (by simp) rfl rfl rfl rfl,bal (bal (bal (bal (Below.refl _ _) _) _) _) _⟩
theorem prod_le (x n:Nat) (hn:512<=n) (h:x<M*M):x<2^n:=by
 have e:M*M<=2^(n - 256)*2^256:=Nat.mul_le_mul (zcK (n - 256) (by omega)) (zcK 256 (by omega));have e2:2^(n - 256)*2^256=2^n:=by rw[<-Nat.pow_add];congr 1;omega
 omega
theorem zow (a b:Nat):Yo a b<2^(64*8):=by
 have h1:a%M*(b%M)<M*M:=Nat.mul_lt_mul'' (Nat.mod_lt _ Yx) (Nat.mod_lt _ Yx);have h:=prod_le (Yo a b) (64*8) (by omega) h1;exact h
def FMm (w:World) (a b c pr q r:Nat):Nat->Act->World->Prop
 |0,s,_=>s.tmps.getD 10 undef=wv a
 |1,s,_=>s.tmps.getD 11 undef=wv b
 |2,s,_=>s.tmps.getD 12 undef=wv8 pr
 |3,s,_=>s.tmps.getD 13 undef=wv c
 |4,s,_=>s.tmps.getD 14 undef=.tuple #[wv8 q,wv r]
 |5,s,_=>s.tmps.getD 9 undef=.tuple #[wv8 q,wv r]
 |6,s,_=>s.tmps.getD 15 undef=wv8 q
 |7,s,_=>s.tmps.getD 16 undef=wv r
 |8,s,x=>∃(p:Nat) (f:Nat->Int),s.tmps.getD 7 undef=.pointer (some ⟨p,0,none⟩)/\x.rowIs p 224 8 (zu f)/\w.heap.size+1+1+1<p
 |9,s,x=>∃(p:Nat) (f:Nat->Int),s.tmps.getD 8 undef=.pointer (some ⟨p,0,none⟩)/\x.rowIs p 24 4 (zu f)/\w.heap.size+1+1+1<p
 |10,s,x=>∃(p:Nat),s.tmps.getD 7 undef=.pointer (some ⟨p,0,none⟩)/\x.rowIs p 224 8 (zu (za q))/\w.heap.size+1+1+1<p
 |11,s,x=>∃(p:Nat),s.tmps.getD 8 undef=.pointer (some ⟨p,0,none⟩)/\x.rowIs p 24 4 (zu (za r))/\w.heap.size+1+1+1<p
 |_,_,_=>True
theorem zgY (w:World) (a b c pr q r:Nat) (j:Nat) (h:12<=j) (s:Act) (x:World):FMm w a b c pr q r j s x:=by
 match j,h with
 |j+12,_=>trivial
def GMm (w:World) (a b c:Nat) (s:Act) (x:World):Prop:=∃s7 s8 s9 s10 s11 s12 s13 s14 s15 s16 s17:Value,
 s=⟨#[wv a,wv b,wv c,.pointer (some ⟨w.heap.size,0,none⟩),.pointer (some ⟨w.heap.size+1,0,none⟩),.pointer (some ⟨w.heap.size+1+1,0,none⟩),.pointer (some ⟨w.heap.size+1+1+1,0,none⟩),s7,s8,s9,s10,s11,s12,s13,s14,s15,s16,s17],[]⟩/\S4 w a b c x
theorem zkp (a b c:Nat) (w:World):Calls prog 105 #[wv a,wv b,wv c] w (Ret w (zkJ (a%M) (b%M) (c%M))):=by
 obtain⟨pr,HP⟩:∃pr,Hid (pr=Yo a b):=⟨_,rfl⟩;obtain⟨q,HQ⟩:∃q,Hid (q=pr/(c%M)):=⟨_,rfl⟩;obtain⟨r,HR⟩:∃r,Hid (r=zbi pr (c%M)):=⟨_,rfl⟩;have hS:=S4.start w a b c;go_enter func105,ntmps105;go_wp2;refine ZK (by kernel_rfl) (GMm w a b c) (FMm w a b c pr q r) (YF (by kernel_rfl)) ?_ ?_ ?_
 ·exact⟨_,_,_,_,_,_,_,_,_,_,_,rfl,hS.drew⟩
 ·intro i o ho s x hG hdep;clear hS;obtain⟨s7,s8,s9,s10,s11,s12,s13,s14,s15,s16,s17,rfl,hs⟩:=hG;have hi:i<12:=(Array.getElem?_eq_some_iff.1 ho).1;rcases i12 hi with rfl|rfl|rfl|rfl|rfl|rfl|rfl|rfl|rfl|rfl|rfl|rfl;obtain rfl:=sj ho;refine wpOp_step rfl fun K hK=> ?_
  obtain⟨y0,y1,y2,y3⟩:=ze hs.ra;go_simp;refine hK _ _ ⟨⟨_,_,_,_,_,_,_,_,_,_,_,rfl,hs⟩,rfl,fun j hj hd hF=> ?_⟩;rotate_left;obtain rfl:=sj ho;refine wpOp_step rfl fun K hK=> ?_
  obtain⟨y0,y1,y2,y3⟩:=ze hs.rb;go_simp;refine hK _ _ ⟨⟨_,_,_,_,_,_,_,_,_,_,_,rfl,hs⟩,rfl,fun j hj hd hF=> ?_⟩;rotate_left;obtain rfl:=sj ho;refine wpOp_step rfl fun K hK=> ?_
  have h0:s10=wv a:=hdep ⟨0,.data⟩ (by simp) rfl;subst h0;have h1:s11=wv b:=hdep ⟨1,.data⟩ (by simp) rfl;subst h1;go_simp;refine(ze2 a b _).mono ?_;rintro e y ⟨rr,HRR,rfl,hb⟩;obtain rfl:rr=pr:=HRR.out.trans HP.out.symm;dsimp only;refine hK _ _ ⟨⟨_,_,_,_,_,_,_,_,_,_,_,rfl,hs.call hb⟩,rfl,fun j hj hd hF=> ?_⟩;rotate_left;obtain rfl:=sj ho;refine wpOp_step rfl fun K hK=> ?_
  obtain⟨y0,y1,y2,y3⟩:=ze hs.rc;go_simp;refine hK _ _ ⟨⟨_,_,_,_,_,_,_,_,_,_,_,rfl,hs⟩,rfl,fun j hj hd hF=> ?_⟩;rotate_left;obtain rfl:=sj ho;refine wpOp_step rfl fun K hK=> ?_
  have h2:s12=wv8 pr:=hdep ⟨2,.data⟩ (by simp) rfl;subst h2;have h3:s13=wv c:=hdep ⟨3,.data⟩ (by simp) rfl;subst h3;go_simp;refine(zbO pr c (by rw[HP.out];exact zow a b) _).mono ?_;rintro e y ⟨qq,rr,HQQ,HRR,rfl,hb⟩;obtain rfl:q=qq:=HQ.out.trans HQQ.out.symm;obtain rfl:r=rr:=HR.out.trans HRR.out.symm;dsimp only;refine hK _ _ ⟨⟨_,_,_,_,_,_,_,_,_,_,_,rfl,hs.call hb⟩,rfl,fun j hj hd hF=> ?_⟩;rotate_left;obtain rfl:=sj ho;refine wpOp_step rfl fun K hK=> ?_
  have h4:s14=.tuple #[wv8 q,wv r]:=hdep ⟨4,.data⟩ (by simp) rfl;subst h4;go_simp;refine hK _ _ ⟨⟨_,_,_,_,_,_,_,_,_,_,_,rfl,hs⟩,rfl,fun j hj hd hF=> ?_⟩;rotate_left;obtain rfl:=sj ho;refine wpOp_step rfl fun K hK=> ?_
  have h5:s9=.tuple #[wv8 q,wv r]:=hdep ⟨5,.data⟩ (by simp) rfl;subst h5;go_simp;refine hK _ _ ⟨⟨_,_,_,_,_,_,_,_,_,_,_,rfl,hs⟩,rfl,fun j hj hd hF=> ?_⟩;rotate_left;obtain rfl:=sj ho;refine wpOp_step rfl fun K hK=> ?_
  have h5:s9=.tuple #[wv8 q,wv r]:=hdep ⟨5,.data⟩ (by simp) rfl;subst h5;go_simp;refine hK _ _ ⟨⟨_,_,_,_,_,_,_,_,_,_,_,rfl,hs⟩,rfl,fun j hj hd hF=> ?_⟩;rotate_left;obtain rfl:=sj ho;refine wpOp_step rfl fun K hK=> ?_
  have zz:=hs.rz.lt;go_simp;refine hK _ _ ⟨⟨_,_,_,_,_,_,_,_,_,_,_,rfl,hs.alloc _⟩,⟨_,fun _=>0,rfl,YH _ rfl rfl rfl rfl rfl rfl rfl rfl rfl,zz⟩,fun j hj hd hF=> ?_⟩;rotate_left;obtain rfl:=sj ho;refine wpOp_step rfl fun K hK=> ?_
  have zz:=hs.rz.lt;go_simp;refine hK _ _ ⟨⟨_,_,_,_,_,_,_,_,_,_,_,rfl,hs.alloc _⟩,⟨_,fun _=>0,rfl,zj _ rfl rfl rfl rfl rfl,zz⟩,fun j hj hd hF=> ?_⟩;rotate_left
  ·obtain rfl:=sj ho;refine wpOp_step rfl fun K hK=> ?_
   have h8:∃(p:Nat) (f:Nat->Int),s7=.pointer (some ⟨p,0,none⟩)/\x.rowIs p 224 8 (zu f)/\w.heap.size+1+1+1<p:=hdep ⟨8,.data⟩ (by simp) rfl;have h6:s15=wv8 q:=hdep ⟨6,.data⟩ (by simp) rfl;subst h6;obtain⟨p7,f7,rfl,hr7,hl7⟩:=h8;obtain⟨y0,y1,y2,y3,y4,y5,y6,y7⟩:=yc hr7;have fz:=hr7.frozen;go_simp;refine hK _ _ ⟨⟨_,_,_,_,_,_,_,_,_,_,_,rfl,((((((((hs.set hl7 _).set hl7 _).set hl7 _).set hl7 _).set hl7 _).set hl7 _).set hl7 _).set hl7 _)⟩,⟨p7,rfl,zae hr7 (za q),hl7⟩,fun j hj hd hF=> ?_⟩;rcases Nat.lt_or_ge j 12 with hjn|hjn
   ·rcases i12 hjn with rfl|rfl|rfl|rfl|rfl|rfl|rfl|rfl|rfl|rfl|rfl|rfl
    ·have h:s10=wv a:=hF;exact h
    ·have h:s11=wv b:=hF;exact h
    ·have h:s12=wv8 pr:=hF;exact h
    ·have h:s13=wv c:=hF;exact h
    ·have h:s14=.tuple #[wv8 q,wv r]:=hF;exact h
    ·have h:s9=.tuple #[wv8 q,wv r]:=hF;exact h
    ·exact(rfl:(wv8 q:Value)=wv8 q)
    ·have h:s16=wv r:=hF;exact h
    ·exact⟨p7,za q,rfl,zae hr7 (za q),hl7⟩
    ·obtain⟨p,f,h1,h2,h3⟩:=hF;exact⟨p,f,h1,Yv h2 (YK h2 hr7 (by decide)) _ _ _ _ _ _ _ _,h3⟩
    ·exact absurd rfl hj
    ·obtain⟨p,h1,h2,h3⟩:=hF;exact⟨p,h1,Yv h2 (YK h2 hr7 (by decide)) _ _ _ _ _ _ _ _,h3⟩
   ·exact zgY _ _ _ _ _ _ _ _ hjn _ _
  ·obtain rfl:=sj ho;refine wpOp_step rfl fun K hK=> ?_
   have h9:∃(p:Nat) (f:Nat->Int),s8=.pointer (some ⟨p,0,none⟩)/\x.rowIs p 24 4 (zu f)/\w.heap.size+1+1+1<p:=hdep ⟨9,.data⟩ (by simp) rfl;have h7:s16=wv r:=hdep ⟨7,.data⟩ (by simp) rfl;subst h7;obtain⟨p8,f8,rfl,hr8,hl8⟩:=h9;obtain⟨y0,y1,y2,y3⟩:=ze hr8;have fz:=hr8.frozen;go_simp;refine hK _ _ ⟨⟨_,_,_,_,_,_,_,_,_,_,_,rfl,((((hs.set hl8 _).set hl8 _).set hl8 _).set hl8 _)⟩,⟨p8,rfl,zy hr8 (za r) rfl rfl rfl rfl,hl8⟩,fun j hj hd hF=> ?_⟩;rcases Nat.lt_or_ge j 12 with hjn|hjn
   ·rcases i12 hjn with rfl|rfl|rfl|rfl|rfl|rfl|rfl|rfl|rfl|rfl|rfl|rfl
    ·have h:s10=wv a:=hF;exact h
    ·have h:s11=wv b:=hF;exact h
    ·have h:s12=wv8 pr:=hF;exact h
    ·have h:s13=wv c:=hF;exact h
    ·have h:s14=.tuple #[wv8 q,wv r]:=hF;exact h
    ·have h:s9=.tuple #[wv8 q,wv r]:=hF;exact h
    ·have h:s15=wv8 q:=hF;exact h
    ·exact(rfl:(wv r:Value)=wv r)
    ·obtain⟨p,f,h1,h2,h3⟩:=hF;exact⟨p,f,h1,zR h2 (YK h2 hr8 (by decide)) _ _ _ _,h3⟩
    ·exact⟨p8,za r,rfl,zy hr8 (za r) rfl rfl rfl rfl,hl8⟩
    ·obtain⟨p,h1,h2,h3⟩:=hF;exact⟨p,h1,zR h2 (YK h2 hr8 (by decide)) _ _ _ _,h3⟩
    ·exact absurd rfl hj
   ·exact zgY _ _ _ _ _ _ _ _ hjn _ _
  all_goals
   rcases Nat.lt_or_ge j 12 with hjn|hjn
   ·rcases i12 hjn with rfl|rfl|rfl|rfl|rfl|rfl|rfl|rfl|rfl|rfl|rfl|rfl
    all_goals first
     |exact absurd rfl hj
     |exact hF
     |exact rfl
     |(obtain⟨p,f,h1,h2,h3⟩:=hF;exact⟨p,f,h1,h2,h3⟩)
     |(obtain⟨p,h1,h2,h3⟩:=hF;exact⟨p,h1,h2,h3⟩)
     |(obtain⟨p,f,h1,h2,h3⟩:=hF;exact⟨p,f,h1,zg h2 hb,h3⟩)
     |(obtain⟨p,h1,h2,h3⟩:=hF;exact⟨p,h1,zg h2 hb,h3⟩)
     |(obtain⟨p,f,h1,h2,h3⟩:=hF;exact⟨p,f,h1,h2.alloc _,h3⟩)
     |(obtain⟨p,h1,h2,h3⟩:=hF;exact⟨p,h1,h2.alloc _,h3⟩)
     |(exfalso;revert hd;exact of_decide_eq_true (by kernel_rfl))
   ·exact zgY _ _ _ _ _ _ _ _ hjn _ _
 ·intro s x hG hF;clear hS;obtain⟨s7,s8,s9,s10,s11,s12,s13,s14,s15,s16,s17,rfl,hs⟩:=hG;obtain⟨p,rfl,hr,hl⟩:∃(p:Nat),s8=.pointer (some ⟨p,0,none⟩)/\x.rowIs p 24 4 (zu (za r))/\w.heap.size+1+1+1<p:=hF 11 (by decide);clear hF;obtain⟨y0,y1,y2,y3⟩:=ze hr;have hrz:=hs.rz;have hbel:=hs.be;have z':=hbel.size;obtain⟨x0,x1,x2,x3⟩:=ze hrz;have fz:=hrz.frozen;go_wp2;obtain⟨q0,q1,q2,q3⟩:=ze (zy hrz (za r) rfl rfl rfl rfl);refine bodyPost_ret (v:=wv r) (by simp[results,results105,go_sem,q0,q1,q2,q3]) rfl (Zo (by rw[HR.out,HP.out];rfl) ?_);exact zC hbel (by omega) _ _ _ _
theorem zm3 (x n:Nat) (hn:257<=n) (h:x<2*M):x<2^n:=by
 have e:2*2^(n - 1)=2^n:=by rw[Nat.mul_comm,<-Nat.pow_succ];congr 1;omega
 have:=zcK (n - 1) (by omega);omega
theorem sum_lt (a b:Nat):a%M+b%M<2^(64*8):=by
 have h1:=Nat.mod_lt a Yx;have h2:=Nat.mod_lt b Yx;have h:=zm3 (a%M+b%M) (64*8) (by omega) (by omega);exact h
theorem zeS (n j:Nat) (h:n<2*M) (hj:5<=j):za n j=0:=by
 rw[Zw];unfold zZ;rw[Nat.div_eq_of_lt (zm3 n (64*j) (by omega) h)];rfl
theorem zpp (a b s k:Nat) (hs:s=a+b) (hk:k=cy a b 4):za s 0=za (a%M+b%M) 0/\za s 1=za (a%M+b%M) 1/\za s 2=za (a%M+b%M) 2/\za s 3=za (a%M+b%M) 3/\(k:Int)=za (a%M+b%M) 4/\(0:Int)=za (a%M+b%M) 5/\(0:Int)=za (a%M+b%M) 6/\(0:Int)=za (a%M+b%M) 7:=by
 have h1:=Nat.mod_lt a Yx;have h2:=Nat.mod_lt b Yx;subst hs hk;refine⟨?_, ?_, ?_, ?_, ?_,(zeS _ 5 (by omega) (by omega)).symm,(zeS _ 6 (by omega) (by omega)).symm,(zeS _ 7 (by omega) (by omega)).symm⟩
 ·unfold za M;rw[pw0];omega
 ·unfold za M;rw[pw1];omega
 ·unfold za M;rw[pw2];omega
 ·unfold za M;rw[pw3];omega
 ·unfold za cy M at*;rw[pw4];omega
theorem zj4 (a b c:Nat) (w:World):Calls prog 104 #[wv a,wv b,wv c] w (Ret w (zlm (a%M) (b%M) (c%M))):=by
 have hs:=S4.start w a b c;go_enter func104,ntmps104;go_wp2_with fail
 refine(zbu a b _).mono ?_;rintro e w1 ⟨s,k,HS,HK,rfl,hb⟩;replace hs:=hs.call hb;clear hb;go_wp2_with fail
 refine(zgv (za s 0) (za s 1) (za s 2) (za s 3) _).mono ?_;rintro e w2 ⟨rfl,hb⟩;replace hs:=(hs.alloc _).call hb;clear hb;obtain⟨n,HN⟩:∃n,Hid (n=a%M+b%M):=⟨_,rfl⟩
 obtain⟨g0,g1,g2,g3,g4,g5,g6,g7⟩:za s 0=za n 0/\za s 1=za n 1/\za s 2=za n 2/\za s 3=za n 3/\(k:Int)=za n 4/\(0:Int)=za n 5/\(0:Int)=za n 6/\(0:Int)=za n 7:=by
  rw[HN.out];exact zpp a b s k HS.out HK.out
 have G0:Hid (za s 0=za n 0):=g0;have G1:Hid (za s 1=za n 1):=g1;have G2:Hid (za s 2=za n 2):=g2;have G3:Hid (za s 3=za n 3):=g3;have G4:Hid ((k:Int)=za n 4):=g4;have G5:Hid ((0:Int)=za n 5):=g5;have G6:Hid ((0:Int)=za n 6):=g6;have G7:Hid ((0:Int)=za n 7):=g7;clear g0 g1 g2 g3 g4 g5 g6 g7;obtain⟨c0,c1,c2,c3⟩:=ze hs.rc;have zc:=hs.rc.lt;go_wp2_with fail
 have hw:Value.agg #[.int .u64 (za s 0),.int .u64 (za s 1),.int .u64 (za s 2),.int .u64 (za s 3),.int .u64 (k:Int),.int .u64 0,.int .u64 0,.int .u64 0]=wv8 n:=by
  unfold wv8;rw[G0.out,G1.out,G2.out,G3.out,G4.out,<-G5.out,<-G6.out,<-G7.out]
 rw[hw];refine(zbO n c (by rw[HN.out];exact sum_lt a b) _).mono ?_;rintro e w3 ⟨q,r,HQ,HR,rfl,hb⟩;replace hs:=(hs.alloc _).call hb;clear hb hw c0 c1 c2 c3 zc;have hrz:=hs.rz;have hbel:=hs.be;have z:=hrz.lt;have z2:w.heap.size+1+1+1<w3.heap.size+1:=Nat.lt_succ_of_lt z;have z':=hbel.size;obtain⟨x0,x1,x2,x3⟩:=ze hrz;have fz:=hrz.frozen;go_wp2;obtain⟨q0,q1,q2,q3⟩:=ze (zy hrz (za r) rfl rfl rfl rfl);refine bodyPost_ret (v:=wv r) (by simp[results,results104,go_sem,q0,q1,q2,q3,z,z2]) rfl (Zo (by rw[HR.out,HN.out];rfl) ?_);exact bal (bal (zC hbel (by omega) _ _ _ _) _) _
def zU (op a b c:Nat):Nat:=
 if op=1 then zfD a b else if op=2 then zdB a b else if op=3 then zfo a b else if op=4 then zfO a b else if op=5 then zgl a b else if op=6 then zbi a b else if op=7 then zfY a b
 else if op=8 then zlm a b c else if op=9 then zkJ a b c else if op=10 then zg0 a b else if op=11 then zgx a b
 else if op=16 then zcf (decide (a<b)) else if op=17 then zcf (decide (b<a)) else if op=18 then zcf (zeZ a b) else if op=19 then zcf (zeZ b a) else if op=20 then zcf (decide (a=b)) else if op=21 then zcf (decide (a=0))
 else if op=22 then a &&& b else if op=23 then a ||| b else if op=24 then a ^^^ b else if op=25 then zfF a else if op=26 then zf9 a b else if op=27 then zbX a b else if op=28 then zd0 a b else if op=29 then zjr a b else 0
def zd6 (op:Nat):Int:=if 1<=op/\op<=11\/16<=op/\op<=29 then 0 else 1
def zc7 (w:World) (n:Nat) (k:Int) (e:Ending) (w':World):Prop:=∃r:Nat,Hid (r=n)/\e=.returned (.tuple #[wv r,.int .i64 k])/\Below w.heap.size w w'
theorem zao {w w':World} {n r:Nat} {k:Int} (h:r%M=n%M) (hb:Below w.heap.size w w'):zc7 w n k (.returned (.tuple #[wv r,.int .i64 k])) w':=
 ⟨n,rfl,congrArg Ending.returned (by rw[yl h]),hb⟩
theorem and_mod (a b:Nat):(a &&& b)%M=(a%M &&& b%M)%M:=by
 rw[zlI];apply Nat.eq_of_testBit_eq;intro i;simp only[Nat.testBit_mod_two_pow,Nat.testBit_and];cases decide (i<256)<;>simp
theorem or_mod (a b:Nat):(a ||| b)%M=(a%M ||| b%M)%M:=by
 rw[zlI];apply Nat.eq_of_testBit_eq;intro i;simp only[Nat.testBit_mod_two_pow,Nat.testBit_or];cases decide (i<256)<;>simp
theorem xor_mod (a b:Nat):(a ^^^ b)%M=(a%M ^^^ b%M)%M:=by
 rw[zlI];apply Nat.eq_of_testBit_eq;intro i;simp only[Nat.testBit_mod_two_pow,Nat.testBit_xor];cases decide (i<256)<;>simp
theorem add_red (a b:Nat):zfD a b=zfD (a%M) (b%M):=by unfold zfD;rw[Nat.add_mod]
theorem mul_red (a b:Nat):zdB a b=zdB (a%M) (b%M):=by unfold zdB;rw[Nat.mul_mod]
theorem sub_red (a b:Nat):zfo a b=zfo (a%M) b:=by unfold zfo;rw[Nat.add_mod a (M - b) M,Nat.add_mod (a%M) (M - b) M,Nat.mod_mod]
theorem shl_red (a b:Nat):zbX a b=zbX a (b%M):=by
 unfold zbX;split
 ·rw[Nat.mul_mod b (2^a) M,Nat.mul_mod (b%M) (2^a) M,Nat.mod_mod]
 ·rfl
theorem ah {p q:Prop} (h:q) (e:p):p/\Hid q:=⟨e,h⟩
theorem add_w (a b:Nat) (w:World):Calls prog 97 #[wv a,wv b] w (Ret w (zfD (a%M) (b%M))):=by rw[<-add_red];exact add_any a b w
theorem mul_w (a b:Nat) (w:World):Calls prog 98 #[wv a,wv b] w (Ret w (zdB (a%M) (b%M))):=by rw[<-mul_red];exact zhd a b w
theorem sub_w (a b:Nat) (w:World):Calls prog 99 #[wv a,wv b] w (Ret w (zfo (a%M) (b%M))):=by rw[<-sub_red];exact zk6 a b w
theorem shl_v (a b:Nat) (w:World):Calls prog 116 #[wv a,wv b] w (Ret w (zbX (a%M) (b%M))):=by rw[<-shl_red];exact shl_w a b w
theorem and_w (a b:Nat) (w:World):Calls prog 111 #[wv a,wv b] w (Ret w (a%M &&& b%M)):=by
 refine(and_any a b w).mono ?_;rintro e w' ⟨rfl,hb⟩;exact Zo (and_mod a b) hb
theorem or_w (a b:Nat) (w:World):Calls prog 112 #[wv a,wv b] w (Ret w (a%M ||| b%M)):=by
 refine(or_any a b w).mono ?_;rintro e w' ⟨rfl,hb⟩;exact Zo (or_mod a b) hb
theorem xor_w (a b:Nat) (w:World):Calls prog 113 #[wv a,wv b] w (Ret w (a%M ^^^ b%M)):=by
 refine(xor_any a b w).mono ?_;rintro e w' ⟨rfl,hb⟩;exact Zo (xor_mod a b) hb
theorem ar_all (op:Nat) (h:op=1\/op=2\/op=3\/op=4\/op=5\/op=6\/op=7\/op=8\/op=9\/op=10\/op=11) (a b c:Nat) (w:World):Calls prog 62 #[.int .u8 (op:Int),wv a,wv b,wv c] w (zc7 w (zU op (a%M) (b%M) (c%M)) 0):=by
 rcases h.imp (ah fun w=>add_w a b w) (Or.imp (ah fun w=>mul_w a b w) (Or.imp (ah fun w=>sub_w a b w) (Or.imp (ah fun w=>zli a b w) (Or.imp (ah fun w=>zn6 a b w) (Or.imp (ah fun w=>zkH a b w) (Or.imp (ah fun w=>zoh a b w) (Or.imp (ah fun w=>zj4 a b c w) (Or.imp (ah fun w=>zkp a b c w) (Or.imp (ah fun w=>exp_any a b w) (ah fun w=>zft a b w)))))))))) with⟨rfl,HC⟩|⟨rfl,HC⟩|⟨rfl,HC⟩|⟨rfl,HC⟩|⟨rfl,HC⟩|⟨rfl,HC⟩|⟨rfl,HC⟩|⟨rfl,HC⟩|⟨rfl,HC⟩|⟨rfl,HC⟩|⟨rfl,HC⟩
 all_goals
  have hs:=S4.start w a b c;go_enter func62,ntmps62;go_wp2_with fail
  refine(HC.out _).mono ?_;rintro e w1 ⟨s,HS,rfl,hb⟩;replace hs:=hs.call hb;clear hb;have hrz:=hs.rz;have hbel:=hs.be;obtain⟨x0,x1,x2,x3⟩:=ze hrz;have fz:=hrz.frozen;go_wp2;obtain⟨q0,q1,q2,q3⟩:=ze (zy hrz (za s) rfl rfl rfl rfl);refine bodyPost_ret (v:=.tuple #[wv s,.int .i64 0]) (by simp[results,results62,go_sem,q0,q1,q2,q3]) rfl (zao (by rw[HS.out];simp[zU]) (zC hbel (by omega) _ _ _ _))
theorem bi_all (op:Nat) (h:op=22\/op=23\/op=24\/op=25\/op=26\/op=27\/op=28\/op=29) (a b c:Nat) (w:World):Calls prog 64 #[.int .u8 (op:Int),wv a,wv b] w (zc7 w (zU op (a%M) (b%M) (c%M)) 0):=by
 rcases h.imp (ah fun w=>and_w a b w) (Or.imp (ah fun w=>or_w a b w) (Or.imp (ah fun w=>xor_w a b w) (Or.imp (ah fun w=>not_w a w) (Or.imp (ah fun w=>zjI a b w) (Or.imp (ah fun w=>shl_v a b w) (Or.imp (ah fun w=>zln a b w) (ah fun w=>zlu a b w))))))) with⟨rfl,HC⟩|⟨rfl,HC⟩|⟨rfl,HC⟩|⟨rfl,HC⟩|⟨rfl,HC⟩|⟨rfl,HC⟩|⟨rfl,HC⟩|⟨rfl,HC⟩
 all_goals
  have hs:=SS.start w a b;go_enter func64,ntmps64;go_wp2_with fail
  refine(HC.out _).mono ?_;rintro e w1 ⟨s,HS,rfl,hb⟩;replace hs:=hs.call hb;clear hb;have hrz:=hs.rz;have hbel:=hs.be;obtain⟨x0,x1,x2,x3⟩:=ze hrz;have fz:=hrz.frozen;go_wp2;obtain⟨q0,q1,q2,q3⟩:=ze (zy hrz (za s) rfl rfl rfl rfl);refine bodyPost_ret (v:=.tuple #[wv s,.int .i64 0]) (by simp[results,results64,go_sem,q0,q1,q2,q3]) rfl (zao (by rw[HS.out];simp[zU]) (zC hbel (by omega) _ _ _ _))
theorem co_all (op:Nat) (h:op=16\/op=17\/op=18\/op=19) (a b c:Nat) (w:World):Calls prog 63 #[.int .u8 (op:Int),wv a,wv b] w (zc7 w (zU op (a%M) (b%M) (c%M)) 0):=by
 rcases h.imp (ah fun w=>zgL a b w) (Or.imp (ah fun w=>zgL b a w) (Or.imp (ah fun w=>zbl a b w) (ah fun w=>zbl b a w))) with⟨rfl,HC⟩|⟨rfl,HC⟩|⟨rfl,HC⟩|⟨rfl,HC⟩
 all_goals
  have hs:=SS.start w a b;go_enter func63,ntmps63;go_wp2_with fail
  refine(HC.out _).mono ?_;rintro e w1 ⟨t,HT,rfl,hb⟩;replace hs:=hs.call hb;clear hb;go_wp2_with fail
  refine(zf4 t _).mono ?_;rintro e w2 ⟨s,HS,rfl,hb⟩;replace hs:=hs.call hb;clear hb;have hrz:=hs.rz;have hbel:=hs.be;obtain⟨x0,x1,x2,x3⟩:=ze hrz;have fz:=hrz.frozen;go_wp2;obtain⟨q0,q1,q2,q3⟩:=ze (zy hrz (za s) rfl rfl rfl rfl);refine bodyPost_ret (v:=.tuple #[wv s,.int .i64 0]) (by simp[results,results63,go_sem,q0,q1,q2,q3]) rfl (zao (by rw[HS.out,HT.out];simp[zU]) (zC hbel (by omega) _ _ _ _))
theorem co_eq (op:Nat) (h:op=20\/op=21) (a b c:Nat) (w:World):Calls prog 63 #[.int .u8 (op:Int),wv a,wv b] w (zc7 w (zU op (a%M) (b%M) (c%M)) 0):=by
 rcases h.imp (fun e:op=20=>(⟨_,e,rfl,fun w=>by rw[zaL];rfl⟩:∃t:Bool,op=20/\Hid (t=decide (a%M=b%M))/\∀w,(Op.equalIn 10000 24 (wv a) (wv b)).run prog w=.ok t w)) (fun e:op=21=>(⟨_,e,rfl,fun w=>by rw[Z5];rfl⟩:∃t:Bool,op=21/\Hid (t=decide (a%M=0))/\∀w,(Op.equalIn 10000 24 (wv a) (.agg #[.int .u64 0,.int .u64 0,.int .u64 0,.int .u64 0])).run prog w=.ok t w)) with⟨t,rfl,HT,he⟩|⟨t,rfl,HT,he⟩
 all_goals
  have hs:=SS.start w a b;go_enter func63,ntmps63;go_wp2_with fail
  refine(zf4 t _).mono ?_;rintro e w2 ⟨s,HS,rfl,hb⟩;replace hs:=hs.call hb;clear hb;have hrz:=hs.rz;have hbel:=hs.be;obtain⟨x0,x1,x2,x3⟩:=ze hrz;have fz:=hrz.frozen;go_wp2;obtain⟨q0,q1,q2,q3⟩:=ze (zy hrz (za s) rfl rfl rfl rfl);refine bodyPost_ret (v:=.tuple #[wv s,.int .i64 0]) (by simp[results,results63,go_sem,q0,q1,q2,q3]) rfl (zao (by rw[HS.out,HT.out];simp[zU]) (zC hbel (by omega) _ _ _ _))
theorem ar_no (op:Nat) (h:op=0) (a b c:Nat) (w:World):Calls prog 62 #[.int .u8 (op:Int),wv a,wv b,wv c] w (zc7 w 0 1):=by
 subst h;have hs:=S4.start w a b c;go_enter func62,ntmps62;have hrz:=hs.rz;have hbel:=hs.be;go_wp2;exact bodyPost_ret (v:=.tuple #[wv 0,.int .i64 1]) (by rw[<-zcR];simp[results,results62,go_sem]) rfl (zao rfl hs.be)
theorem co_no (op:Nat) (h:op=12\/op=13\/op=14\/op=15) (a b c:Nat) (w:World):Calls prog 63 #[.int .u8 (op:Int),wv a,wv b] w (zc7 w 0 1):=by
 rcases h with rfl|rfl|rfl|rfl
 all_goals
  have hs:=SS.start w a b;go_enter func63,ntmps63;have hrz:=hs.rz;have hbel:=hs.be;go_wp2;exact bodyPost_ret (v:=.tuple #[wv 0,.int .i64 1]) (by rw[<-zcR];simp[results,results63,go_sem]) rfl (zao rfl hs.be)
theorem bi_no (op:Nat) (h:30<=op/\op<=255) (a b c:Nat) (w:World):Calls prog 64 #[.int .u8 (op:Int),wv a,wv b] w (zc7 w 0 1):=by
 obtain⟨ho,ho2⟩:=h;have hs:=SS.start w a b;go_enter func64,ntmps64;have hrz:=hs.rz;have hbel:=hs.be;go_wp2;exact bodyPost_ret (v:=.tuple #[wv 0,.int .i64 1]) (by rw[<-zcR];simp[results,results64,go_sem]) rfl (zao rfl hs.be)
theorem hidw {p:Prop} (h:p):Hid p:=h
theorem ar_any (op:Nat) (ho:op<=11) (a b c:Nat) (w:World):Calls prog 62 #[.int .u8 (op:Int),wv a,wv b,wv c] w (zc7 w (zU op (a%M) (b%M) (c%M)) (zd6 op)):=by
 by_cases h:op=0
 ·subst h;exact ar_no 0 rfl a b c w
 ·rw[show zd6 op=0 from if_pos (by omega)];exact ar_all op (by omega) a b c w
theorem co_any (op:Nat) (ho:12<=op) (h2:op<=21) (a b c:Nat) (w:World):Calls prog 63 #[.int .u8 (op:Int),wv a,wv b] w (zc7 w (zU op (a%M) (b%M) (c%M)) (zd6 op)):=by
 by_cases h:op<=15
 ·rw[show zU op (a%M) (b%M) (c%M)=0 by unfold zU;repeat rw[if_neg (by omega)],show zd6 op=1 from if_neg (by omega)];exact co_no op (by omega) a b c w
 ·rw[show zd6 op=0 from if_pos (by omega)];by_cases h:op<=19
  ·exact co_all op (by omega) a b c w
  ·exact co_eq op (by omega) a b c w
theorem bi_any (op:Nat) (ho:22<=op) (h2:op<=255) (a b c:Nat) (w:World):Calls prog 64 #[.int .u8 (op:Int),wv a,wv b] w (zc7 w (zU op (a%M) (b%M) (c%M)) (zd6 op)):=by
 by_cases h:op<=29
 ·rw[show zd6 op=0 from if_pos (by omega)];exact bi_all op (by omega) a b c w
 ·rw[show zU op (a%M) (b%M) (c%M)=0 by unfold zU;repeat rw[if_neg (by omega)],show zd6 op=1 from if_neg (by omega)];exact bi_no op (by omega) a b c w
theorem zbB (op:Nat) (ho:op<=255) (a b c:Nat) (w:World):Calls prog 36 #[.int .u8 (op:Int),wv a,wv b,wv c] w (zc7 w (zU op (a%M) (b%M) (c%M)) (zd6 op)):=by
 rcases(by omega:op<=11\/(12<=op/\op<=21)\/22<=op).imp (fun h=>And.intro h (hidw fun w=>ar_any op h a b c w)) (Or.imp (fun h=>And.intro h (hidw fun w=>co_any op h.1 h.2 a b c w)) (fun h=>And.intro h (hidw fun w=>bi_any op h ho a b c w))) with⟨h,HC⟩|⟨⟨h,h2⟩,HC⟩|⟨h,HC⟩
 all_goals
  have hs:=S4.start w a b c;go_enter func36,ntmps36;go_wp2_with fail
  refine(HC.out _).mono ?_;rintro e w1 ⟨s,HS,rfl,hb⟩;replace hs:=hs.call hb;clear hb;have hrz:=hs.rz;have hbel:=hs.be;obtain⟨x0,x1,x2,x3⟩:=ze hrz;have fz:=hrz.frozen;go_wp2;obtain⟨q0,q1,q2,q3⟩:=ze (zy hrz (za s) rfl rfl rfl rfl);refine bodyPost_ret (v:=.tuple #[wv s,.int .i64 (zd6 op)]) (by simp[results,results36,go_sem,q0,q1,q2,q3]) rfl (zao (by rw[HS.out]) (zC hbel (by omega) _ _ _ _))
theorem zfi (n:Nat) (hn:n<9223372036854775808) (w:World):Calls prog 12 #[.int .i64 (n:Int)] w (Ret w n):=by
 obtain⟨g0,g1,g2,g3⟩:=ZM n (by omega);have G0:Hid (za n 0=(n:Int)):=g0;have G1:Hid (za n 1=0):=g1;have G2:Hid (za n 2=0):=g2;have G3:Hid (za n 3=0):=g3;clear g0 g1 g2 g3;go_enter func12,ntmps12;go_wp2;refine bodyPost_ret (v:=wv n) (by unfold wv;rw[G0.out,G1.out,G2.out,G3.out];simp[results,results12,go_sem]) rfl (Zo rfl ?_);exact bal (bal (Below.refl _ _) _) _
theorem zmo (op:Nat) (ho:op<=255) (he:Hid (zd6 op=0)) (a b c:Nat) (w:World):Calls prog 14 #[.int .u8 (op:Int),wv a,wv b,wv c] w (Ret w (zU op (a%M) (b%M) (c%M))):=by
 have hs:=S4.start w a b c;have hc:∀w,Calls prog 36 #[.int .u8 (op:Int),wv a,wv b,wv c] w (zc7 w (zU op (a%M) (b%M) (c%M)) 0):=fun w=>by have h:=zbB op ho a b c w;rw[he.out] at h;exact h
 have HC:=hc;have HH:Hid (∀w,Calls prog 36 #[.int .u8 (op:Int),wv a,wv b,wv c] w (zc7 w (zU op (a%M) (b%M) (c%M)) 0)):=hc;clear hc HC;go_enter func14,ntmps14;go_wp2_with fail
 refine(HH.out _).mono ?_;rintro e w1 ⟨s,HS,rfl,hb⟩;replace hs:=hs.call hb;clear hb;have hrz:=hs.rz;have hbel:=hs.be;have z:=hrz.lt;obtain⟨x0,x1,x2,x3⟩:=ze hrz;have fz:=hrz.frozen;go_wp2;obtain⟨q0,q1,q2,q3⟩:=ze (zy hrz (za s) rfl rfl rfl rfl);refine bodyPost_ret (v:=wv s) (by simp[results,results14,go_sem,q0,q1,q2,q3,z]) rfl (Zo (by rw[HS.out]) ?_);exact bal (zC hbel (by omega) _ _ _ _) _
theorem znY (a b:Nat) (w:World):Calls prog 49 #[wv a,wv b] w (Ret w (zfD (a%M) (b%M))):=by
 have hs:=SS.start w a b;go_enter func49,ntmps49;go_wp2_with fail
 refine(zmo 1 (by omega) (by show _=_;decide) a b a _).mono ?_;rintro e w1 ⟨s,HS,rfl,hb⟩;replace hs:=hs.call hb;clear hb;have hrz:=hs.rz;have hbel:=hs.be;obtain⟨x0,x1,x2,x3⟩:=ze hrz;have fz:=hrz.frozen;go_wp2;obtain⟨q0,q1,q2,q3⟩:=ze (zy hrz (za s) rfl rfl rfl rfl);refine bodyPost_ret (v:=wv s) (by simp[results,results49,go_sem,q0,q1,q2,q3]) rfl (Zo (by rw[HS.out];simp[zU]) ?_);exact zC hbel (by omega) _ _ _ _
section
variable {P:Program} {ops:Array Oper} {Q:Exit->Act->World->Prop}
theorem zaj (s:Act) (d:Nat) (v:Value) (k:Nat) (hd:d<s.tmps.size):(s.put (some d) v).tmps.getD k undef=if k=d then v else s.tmps.getD k undef:=by
 simp only[Act.put,Array.getD_eq_getD_getElem?,Array.getElem?_setIfInBounds];by_cases e:d=k
 ·subst e;simp[hd]
 ·rw[if_neg e,if_neg (fun h=>e h.symm)]
theorem zaG (s:Act) (d:Nat) (v:Value):(s.put (some d) v).tmps.size=s.tmps.size:=by simp[Act.put]
theorem zce (s:Act) (d:Nat) (v:Value):(s.put (some d) v).defers=s.defers:=rfl
def zF (a:Act) (tab:List (Nat×Value)):Act:=tab.foldl (fun s p=>s.put (some p.1) p.2) a
theorem zds:∀(tab:List (Nat×Value)) (a:Act),(zF a tab).tmps.size=a.tmps.size
 |[],_=>rfl
 |p::tab,a=>by
  show(zF (a.put (some p.1) p.2) tab).tmps.size=_;rw[zds tab,zaG]
theorem zbx:∀(tab:List (Nat×Value)) (a:Act),(zF a tab).defers=a.defers
 |[],_=>rfl
 |p::tab,a=>by
  show(zF (a.put (some p.1) p.2) tab).defers=_;rw[zbx tab,zce]
theorem zc3:∀(tab:List (Nat×Value)) (a:Act) (k:Nat),(∀p∈tab,p.1<a.tmps.size)->(∀p∈tab,p.1≠k)->(zF a tab).tmps.getD k undef=a.tmps.getD k undef
 |[],_,_,_,_=>rfl
 |p::tab,a,k,hl,hk=>by
  show(zF (a.put (some p.1) p.2) tab).tmps.getD k undef=_;rw[zc3 tab _ k (fun q hq=>by rw[zaG];exact hl q (List.mem_cons_of_mem _ hq)) (fun q hq=>hk q (List.mem_cons_of_mem _ hq)),zaj _ _ _ _ (hl p List.mem_cons_self),if_neg (fun h=>hk p List.mem_cons_self h.symm)]
theorem zhr:∀(tab:List (Nat×Value)) (a:Act) (d:Nat) (v:Value),(∀p∈tab,p.1<a.tmps.size)->(tab.map Prod.fst).Nodup->(d,v)∈tab->(zF a tab).tmps.getD d undef=v
 |[],_,_,_,_,_,h=>by cases h
 |p::tab,a,d,v,hl,hn,h=>by
  rw[List.map_cons,List.nodup_cons] at hn;show(zF (a.put (some p.1) p.2) tab).tmps.getD d undef=_;rcases List.mem_cons.1 h with rfl|h
  ·rw[zc3 tab _ d (fun q hq=>by rw[zaG];exact hl q (List.mem_cons_of_mem _ hq)) (fun q hq e=>hn.1 (List.mem_map.2 ⟨q,hq,e⟩)),zaj _ _ _ _ (hl _ List.mem_cons_self),if_pos rfl]
  ·exact zhr tab _ d v (fun q hq=>by rw[zaG];exact hl q (List.mem_cons_of_mem _ hq)) hn.2 h
theorem zk3 {s t:Act} (h1:s.tmps.size=t.tmps.size) (h2:s.defers=t.defers) (h3:∀k,k<t.tmps.size->s.tmps.getD k undef=t.tmps.getD k undef):s=t:=by
 obtain⟨st,sd⟩:=s;obtain⟨tt,td⟩:=t;simp only at h1 h2 h3;subst h2;congr 1;apply Array.ext h1;intro k hk1 hk2;have:=h3 k hk2;simpa[Array.getD_eq_getD_getElem?,hk1,hk2] using this
end
section
theorem zt {ops:Array Oper} {o:Oper} {t:Array Value} (h:o.guard=none):Region.wanted o (yielded ops t)=true:=by unfold Region.wanted;rw[h]
theorem zmy {ops:Array Oper} {o og:Oper} {t:Array Value} {g d:Nat} (h:o.guard=some (g,true)) (hg:ops[g]? =some og) (hd:og.dst=some d) (hv:t.getD d undef=.bool true):Region.wanted o (yielded ops t)=true:=by
 unfold Region.wanted;rw[h];unfold yielded;simp only[hg,Option.bind_some,hd];rw[Array.getD_eq_getD_getElem?] at hv;cases hx:t[d]? with
 |none=>rw[hx] at hv;simp[undef] at hv
 |some v=>rw[hx] at hv;simp only[Option.getD_some] at hv;subst hv;rfl
variable {s:Act} {x:World} {pos:String} {af:Array Edge} {g:Option (Nat×Bool)} {K:Act->World->Prop} {Q:Exit->Act->World->Prop}
theorem YQ (t d b n:Nat) (he:s.tmps.getD t undef=.pointer (some ⟨b,0,none⟩)) (hr:x.rowIs b 24 4 (zu (za n))) (hK:K (s.put (some d) (wv n)) x):
  Oper.wp prog ⟨some d,.load 24 (.tmp t),24,pos,af,g⟩ s x K Q:=by
 obtain⟨y0,y1,y2,y3⟩:=ze hr;have he2:s.eval (.tmp t)=.pointer (some ⟨b,0,none⟩):=he;go_simp;exact hK
theorem YS (t d:Nat) (v:Value) (he:s.tmps.getD t undef=v) (hK:K (s.put (some d) v) x) {ty:TypeId}:
  Oper.wp prog ⟨some d,.move (.tmp t),ty,pos,af,g⟩ s x K Q:=by
 have he2:s.eval (.tmp t)=v:=he;go_simp;rw[he] at*;exact hK
theorem zdx (t d:Nat) (v:Value) (he:s.tmps.getD t undef=v) (hK:K (s.put (some d) v) x) {ty:TypeId}:
  Oper.wp prog ⟨some d,.assign (.tmp t),ty,pos,af,g⟩ s x K Q:=by
 have he2:s.eval (.tmp t)=v:=he;go_simp;rw[he] at*;exact hK
end

section
variable {s:Act} {x:World} {pos:String} {af:Array Edge} {g:Option (Nat×Bool)} {K:Act->World->Prop} {Q:Exit->Act->World->Prop}
end
section
theorem zjQ {ops:Array Oper} {o og:Oper} {t:Array Value} {g d:Nat} (h:o.guard=some (g,false)) (hg:ops[g]? =some og) (hd:og.dst=some d) (hv:t.getD d undef=.bool false):Region.wanted o (yielded ops t)=true:=by
 unfold Region.wanted;rw[h];unfold yielded;simp only[hg,Option.bind_some,hd];rw[Array.getD_eq_getD_getElem?] at hv;cases hx:t[d]? with
 |none=>rw[hx] at hv;simp[undef] at hv
 |some v=>rw[hx] at hv;simp only[Option.getD_some] at hv;subst hv;rfl
variable {s:Act} {x:World} {pos:String} {af:Array Edge} {g:Option (Nat×Bool)} {K:Act->World->Prop} {Q:Exit->Act->World->Prop}
end
section
variable {P:Program} {ops:Array Oper} {Q:Exit->Act->World->Prop}
def valo (s:Act):Option Nat->Value
 |some d=>s.tmps.getD d undef
 |none=>undef
def zipo:List (Option Nat×(Value->World->Prop))->List Value->List (Nat×Value)
 |(some d,_)::l,v::vs=>(d,v)::zipo l vs
 |(none,_)::l,_::vs=>zipo l vs
 |_,_=>[]
end
def lb (n i:Nat):Nat:=n/2^(64*i)%18446744073709551616
theorem limb_lb (n i:Nat):za n i=(lb n i:Int):=rfl
def cb (x y i:Nat):Bool:=decide (2^i<=x%2^i+y%2^i)
def zk2 (f:Nat->Bool):Nat->Value:=fun i=>.bool (f i)
def RowOf (w:World) (L n:Nat) (e:Ending) (w':World):Prop:=
 ∃b r:Nat,Hid (r=n)/\e=.returned (.slice (some ⟨b,0,none⟩) L L)/\w.heap.size<=b/\w'.rowIs b 4 L (zk2 r.testBit)/\Below w.heap.size w w'
section
variable {s:Act} {x:World} {pos:String} {af:Array Edge} {g:Option (Nat×Bool)} {K:Act->World->Prop} {Q:Exit->Act->World->Prop}
def Own (f:Nat):Prop:=∀args w,(callFunc f args).run prog w=.ok (.enter f args) w
theorem ZL {f d:Nat} {xs:Array Operand} {vs:Array Value} {A:Array TypeId} {ty:TypeId} {Post:Ending->World->Prop} (hf:Own f) (hv:#[]++xs.map s.eval++#[]=vs) (hc:Calls prog f vs x Post)
  (hK:∀e x',Post e x'->∃r,e=.returned r/\K (s.put (some d) r) x'):
  Oper.wp prog ⟨some d,.call ⟨.value (.func f),xs,A⟩,ty,pos,af,g⟩ s x K Q:=by
 unfold Oper.wp;rw[execOp_call_go,hv,hf];rw[Oper.upon_enter];refine hc.mono ?_;intro e y h;obtain⟨r,rfl,h2⟩:=hK e y h;exact h2
theorem ev1 {o1:Operand} {v1:Value} (h1:s.eval o1=v1):#[]++(#[o1]:Array Operand).map s.eval++#[]=#[v1]:=by simp[h1]
theorem ev2 {o1 o2:Operand} {v1 v2:Value} (h1:s.eval o1=v1) (h2:s.eval o2=v2):#[]++(#[o1,o2]:Array Operand).map s.eval++#[]=#[v1,v2]:=by simp[h1,h2]
theorem ev3 {o1 o2 o3:Operand} {v1 v2 v3:Value} (h1:s.eval o1=v1) (h2:s.eval o2=v2) (h3:s.eval o3=v3):#[]++(#[o1,o2,o3]:Array Operand).map s.eval++#[]=#[v1,v2,v3]:=by simp[h1,h2,h3]
def SliceOf (L n:Nat) (v:Value) (x:World):Prop:=∃b r c:Nat,Hid (r=n)/\v=.slice (some ⟨b,0,none⟩) L c/\x.rowIs b 4 L (zk2 r.testBit)
theorem yG {t u b n:Nat} {f:Nat->Value} {ty:TypeId} (he:s.tmps.getD t undef=.pointer (some ⟨b,0,none⟩)) (hu:s.tmps.getD u undef=wv n) (hr:x.rowIs b 24 4 f)
  (hK:∀x',x'.rowIs b 24 4 (zu (za n))->x'=(((x.setCell ⟨b,0,none⟩ (.int .u64 (za n 0))).setCell ⟨b,1,none⟩ (.int .u64 (za n 1))).setCell ⟨b,2,none⟩ (.int .u64 (za n 2))).setCell ⟨b,3,none⟩ (.int .u64 (za n 3))->K (s.put none undef) x'):
  Oper.wp prog ⟨none,.store 24 (.tmp t) (.tmp u),ty,pos,af,g⟩ s x K Q:=by
 have he2:s.eval (.tmp t)=.pointer (some ⟨b,0,none⟩):=he;have hu2:s.eval (.tmp u)=wv n:=hu;have x0:=hr.cell (i:=0) (by omega);have x1:=hr.cell (i:=1) (by omega);have x2:=hr.cell (i:=2) (by omega);have x3:=hr.cell (i:=3) (by omega);have fz:=hr.frozen;have hrow:=zy hr (za n) rfl rfl rfl rfl;have h:=hK _ hrow rfl;clear hK hrow hr;go_simp;exact h
end
section
section
variable {P:Program} {ops:Array Oper} {Q:Exit->Act->World->Prop}
theorem zmX (G:Array Bool->Act->World->Prop)
  (hstep:∀(l:Array Bool) (i:Nat) (o:Oper),l.size=ops.size->ops[i]? =some o->l.getD i false=false->(∀e∈o.after,Region.binds .any e=true->l.getD e.on false=true)->∀a w,G l a w->
   wpOp P ops Q i (fun a' w'=>G (l.setIfInBounds i true) a' w') a w)
  (hdone:∀(l:Array Bool) a w,l.size=ops.size->(∀i,i<ops.size->l.getD i false=true)->G l a w->Q .normal a w)
  (hall:∀l:Array Bool,l.size=ops.size->Region.ready .any ops l=[]->∀i,i<ops.size->l.getD i false=true):
  ∀(fuel:Nat) (listed:Array Bool) (a:Act) (w:World),(List.range ops.size).countP (fun i=> !listed.getD i true)<=fuel->listed.size=ops.size->
   G listed a w->wpAny P .any ops Q fuel listed a w:=by
 intro fuel
 induction fuel with
 |zero=>
  intro listed a w hc hs hG
  have h0:Region.ready .any ops listed=[]:=by
   apply List.eq_nil_iff_forall_not_mem.2;intro i hi;simp only[Region.ready,List.mem_filter,Bool.and_eq_true] at hi;have hz:(List.range ops.size).countP (fun i=> !listed.getD i true)=0:=by omega
   rw[List.countP_eq_zero] at hz;exact hz i hi.1 hi.2.1
  exact⟨h0,hdone listed a w hs (hall _ hs h0) hG⟩
 |succ fuel ih=>
  intro listed a w hc hs hG;refine⟨fun h0=>hdone listed a w hs (hall _ hs h0) hG,fun i hi=> ?_⟩;simp only[Region.ready,List.mem_filter,Bool.and_eq_true,List.mem_range] at hi;obtain⟨hlt,hl,haft⟩:=hi;have ho:ops[i]? =some ops[i]:=getElem?_pos ops i hlt;rw[ho] at haft;simp only[Option.map_some,Option.getD_some,Array.all_eq_true',Bool.or_eq_true,Bool.not_eq_true'] at haft;have hli:i<listed.size:=by omega
  have hnf:listed.getD i false=false:=by
   simp only[Array.getD_eq_getD_getElem?,getElem?_pos listed i hli,Option.getD_some] at hl⊢;simpa using hl
  refine wpOp_mono ?_ (hstep listed i _ hs ho hnf (fun e he hb=>(haft e he).resolve_left (by rw[hb];simp)) a w hG);intro a' w' hG';refine ih _ a' w' ?_ (by simp[hs]) hG';have:=zdq (p:=fun i=> !listed.getD i true) (p':=fun j=> !(listed.setIfInBounds i true).getD j true) ?_ (List.range ops.size) i (by simpa using hlt) (by simpa using hl) ?_
  ·omega
  ·intro j hj;simp only[Array.getD_eq_getD_getElem?,Array.getElem?_setIfInBounds] at hj⊢;by_cases e:i=j
   ·subst e;simp[hli] at hj
   ·simpa[e] using hj
  ·simp[Array.getD_eq_getD_getElem?,hli]
theorem zcr {id:Nat} {a:Act} {w:World} (hm:P.follows .mixedOrders=true) (hdown:zeX ops=true) (G:Array Bool->Act->World->Prop) (h0:G (Array.replicate ops.size false) a w.drew)
  (hstep:∀(l:Array Bool) (i:Nat) (o:Oper),l.size=ops.size->ops[i]? =some o->l.getD i false=false->(∀e∈o.after,Region.binds .any e=true->l.getD e.on false=true)->∀a w,G l a w->
   wpOp P ops Q i (fun a' w'=>G (l.setIfInBounds i true) a' w') a w)
  (hdone:∀(l:Array Bool) a w,l.size=ops.size->(∀i,i<ops.size->l.getD i false=true)->G l a w->Q .normal a w):(Code.region id ops true).wp P Q a w:=by
 refine wp_region_any hm (zmX G hstep hdone (YF hdown) _ _ a _ ?_ (by simp) h0);exact Nat.le_trans List.countP_le_length (by simp)
end
variable {s:Act} {x:World} {pos:String} {af:Array Edge} {g:Option (Nat×Bool)} {K:Act->World->Prop} {Q:Exit->Act->World->Prop}
theorem zeI {f d:Nat} {xs:Array Operand} {vs:Array Value} {A:Array TypeId} {ty:TypeId} {Post:Ending->World->Prop} (hf:Own f) (hv:#[]++xs.map s.eval++#[]=vs) (hc:Calls prog f vs x Post)
  (hK:∀e x',Post e x'->(∃r,e=.returned r/\K (s.put (some d) r) x')\/(∃ch,e=.panicked ch/\Q (.panic ch) s x')):
  Oper.wp prog ⟨some d,.call ⟨.value (.func f),xs,A⟩,ty,pos,af,g⟩ s x K Q:=by
 unfold Oper.wp;rw[execOp_call_go,hv,hf];rw[Oper.upon_enter];refine hc.mono ?_;intro e y h;rcases hK e y h with⟨r,rfl,h2⟩|⟨ch,rfl,h2⟩
 ·exact h2
 ·exact h2
theorem zck {t d:Nat} {ty:TypeId} {ad:Addr} (he:s.tmps.getD t undef=.pointer (some ad)) (hK:K (s.put (some d) (.pointer (some ad))) x):
  Oper.wp prog ⟨some d,.nilCheck (.tmp t),ty,pos,af,g⟩ s x K Q:=by
 have he2:s.eval (.tmp t)=.pointer (some ad):=he;go_simp;exact hK
end
def zi2 (x y:Int):Int:=if x<y then -1 else if y<x then 1 else 0
theorem zcF (x y:Int) (w:World):Calls prog 59 #[.int .u64 x,.int .u64 y] w fun e w'=>e=.returned (.int .i64 (zi2 x y))/\w'=w:=by
 have d0:(x !=x)=false:=by simp
 have d1:(y !=y)=false:=by simp
 unfold zi2;by_cases h1:x<y
 ·have d2:decide (x<y)=true:=decide_eq_true h1;rw[if_pos h1];go_enter func59,ntmps59;go_wp2;go_ret;exact⟨rfl,rfl⟩
 ·have d2:decide (x<y)=false:=decide_eq_false h1;rw[if_neg h1];by_cases h2:y<x
  ·have d3:decide (y<x)=true:=decide_eq_true h2;rw[if_pos h2];go_enter func59,ntmps59;go_wp2;go_ret;exact⟨rfl,rfl⟩
  ·have d3:decide (y<x)=false:=decide_eq_false h2;rw[if_neg h2];go_enter func59,ntmps59;go_wp2;go_ret;exact⟨rfl,rfl⟩
def ZZ (a b:Nat):Int:=if a%M<b%M then -1 else if b%M<a%M then 1 else 0
theorem zbS (a b i:Nat) (hi:i<4) (he:∀j,i<j->j<4->za a j=za b j) (hn:za a i≠za b i\/i=0):zi2 (za a i) (za b i)=ZZ a b:=by
 have e1:=he 1;have e2:=he 2;have e3:=he 3;clear he;unfold zi2 ZZ M;unfold za at*;simp only[pw0,pw1,pw2,pw3] at*;rcases k4 hi with rfl|rfl|rfl|rfl
 ·have e1:=e1 (by omega) (by omega);have e2:=e2 (by omega) (by omega);have e3:=e3 (by omega) (by omega);simp only[pw0,pw1,pw2,pw3] at*;split<;>split<;>(try split)<;>(try split)<;>omega
 ·have e2:=e2 (by omega) (by omega);have e3:=e3 (by omega) (by omega);simp only[pw0,pw1,pw2,pw3] at*;split<;>split<;>(try split)<;>(try split)<;>omega
 ·have e3:=e3 (by omega) (by omega);simp only[pw0,pw1,pw2,pw3] at*;split<;>split<;>(try split)<;>(try split)<;>omega
 ·simp only[pw0,pw1,pw2,pw3] at*;split<;>split<;>(try split)<;>(try split)<;>omega
theorem Yg (a b:Nat) (w:World):Calls prog 33 #[wv a,wv b] w fun e w'=>e=.returned (.int .i64 (ZZ a b))/\Below w.heap.size w w':=by
 go_enter func33,ntmps33;go_wp2
 go_loopw [5] (fun t5 wr=>∃k:Nat,k<=3/\t5=.int .i64 k/\Hid (∀j,k<j->j<4->za a j=za b j)/\
   wr.rowIs w.heap.size 24 4 (zu (za a))/\wr.rowIs (w.heap.size+1) 24 4 (zu (za b))/\Below w.heap.size w wr)
   (fun t5 _=>(intOf t5).toNat)
 case atStart=>
  refine⟨3,by omega,rfl,fun j h1 h2=>by omega, ?_, ?_,bal (bal (Below.refl _ _) _) _⟩
  ·exact(zj _ rfl rfl rfl rfl rfl).alloc _
  ·exact zj (za b) (by simp) rfl rfl rfl rfl
 case round=>
  obtain⟨k,hk,rfl,HE,hra,hrb,hbel⟩:=hrel;have c0:=hra.cell (i:=0) (by omega);have d0:=hrb.cell (i:=0) (by omega);have c1:=hra.cell (i:=k) (by omega);have c2:=hrb.cell (i:=k) (by omega);simp only[zu] at c0 d0 c1 c2;by_cases hlt:0<k
  ·have t1:decide ((0:Int)<(k:Int))=true:=decide_eq_true (by omega);by_cases hne:za a k=za b k
   ·have t2:(za a k !=za b k)=false:=by simp[hne]
    have HN:Hid (∀j,k - 1<j->j<4->za a j=za b j):=fun j h1 h2=>by
     by_cases e:j=k
     ·rw[e];exact hne
     ·exact HE.out j (by omega) h2
    clear hne;go_wp2
    go_region
    all_goals go_wp2
    all_goals go_roundw
    case rel=>exact⟨k - 1,by omega,by go_num,HN,hra.drew,hrb.drew,hbel.drew⟩
    case measure=>simp[intOf];omega
   ·have t2:(za a k !=za b k)=true:=by simp[hne]
    have HR:Hid (zi2 (za a k) (za b k)=ZZ a b):=zbS a b k (by omega) HE.out (Or.inl hne);clear hne;go_wp2
    go_region
    all_goals go_wp2
    all_goals go_region_with (go_at_call 59;refine(zcF _ _ _).mono ?_;rintro e w1 ⟨rfl,rfl⟩)
    all_goals go_wp2
    all_goals go_ret
    all_goals exact⟨congrArg (fun z=>Ending.returned (Value.int .i64 z)) HR.out,by repeat' (first|exact hbel|refine Below.drew ?_)⟩
  ·obtain rfl:k=0:=by omega
   have HR:Hid (zi2 (za a 0) (za b 0)=ZZ a b):=zbS a b 0 (by omega) HE.out (Or.inr rfl);go_wp2_with (go_at_call 59;refine(zcF _ _ _).mono ?_;rintro e w1 ⟨rfl,rfl⟩)
   go_ret;exact⟨congrArg (fun z=>Ending.returned (Value.int .i64 z)) HR.out,by repeat' (first|exact hbel|refine Below.drew ?_)⟩
end cin
end Go.Proofs.YtohoajjdoihekaaGreatDoor
