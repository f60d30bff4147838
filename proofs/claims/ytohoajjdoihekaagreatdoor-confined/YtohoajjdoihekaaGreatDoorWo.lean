import Derived.Test.YtohoajjdoihekaaGreatDoorReg
import Derived.Lib.OthersKept
set_option linter.unusedVariables false
set_option linter.unusedSimpArgs false
namespace Go.Proofs.YtohoajjdoihekaaGreatDoor
namespace cin
open Go.RowKit Go.Proofs.Tryz Tryz
set_option maxRecDepth 100000
set_option maxHeartbeats 8000000
theorem zgV (h:Bool) (w:World):Calls prog 108 #[.bool h] w (Ret w (zcC h)):=by
 cases h
 ·go_enter func108,ntmps108;go_wp2;refine bodyPost_ret (v:=wv 0) (by simp[results,results108,go_sem,zn]) rfl (Zt (by rfl) ?_);exact bal (Below.refl _ _) _
 ·go_enter func108,ntmps108;go_wp2;refine bodyPost_ret (v:=wv 1) (by rw[<-wv_one];simp[results,results108,go_sem]) rfl (Zt (by rfl) ?_);exact bal (Below.refl _ _) _
theorem not_w (a:Nat) (w:World):Calls prog 114 #[wv a] w (Ret w (zf8 (a%M))):=by
 refine(not_any a w).mono ?_;rintro e w' ⟨rfl,hb⟩;refine Zt ?_ hb;unfold zfz zf8;rfl
theorem shl_w (a b:Nat) (w:World):Calls prog 116 #[wv a,wv b] w (Ret w (zcd (a%M) b)):=by
 refine(shl_any a b w).mono ?_;rintro e w' ⟨rfl,hb⟩;refine Zt ?_ hb;rw[<-shlw_eq (a%M) b (Nat.mod_lt _ Yn),Nat.mod_mod];unfold zht;rw[Nat.mod_mod]
theorem zmC (a b:Nat) (w:World):Calls prog 117 #[wv a,wv b] w (Ret w (zey (a%M) (b%M))):=by
 rw[<-zct b];refine(shr_any a (b%M) (Nat.mod_lt _ Yn) w).mono ?_;rintro e w' ⟨rfl,hb⟩;refine Zt ?_ hb;rw[<-shrw_eq (a%M) _ (Nat.mod_lt _ Yn)];unfold zir;rw[Nat.mod_mod]
theorem zh4 (a b:Nat) (w:World):Calls prog 109 #[wv a,wv b] w fun e w'=>∃r:Bool,Hid (r=decide (a%M<b%M))/\e=.returned (.bool r)/\Below w.heap.size w w':=
 (zjI a b w).mono fun _ _ h=>⟨_,rfl,h.1,h.2⟩
theorem i6 {i:Nat} (h:i<6):i=0\/i=1\/i=2\/i=3\/i=4\/i=5:=by omega
theorem i5' {i:Nat} (h:i<5):i=0\/i=1\/i=2\/i=3\/i=4:=by omega
theorem zah (a:Nat) (na:Bool) (h:Hid (neg a=na)) (w:World):Calls prog 167 #[wv a] w fun e w'=>e=.returned (.bool na)/\Below w.heap.size w w':=by
 have:=zbg a w;rw[h.out] at this;exact this
structure S2 (w:World) (a b:Nat) (x:World):Prop where
 ra:x.rowIs w.heap.size 24 4 (zo (za a))
 rb:x.rowIs (w.heap.size+1) 24 4 (zo (za b))
 be:Below w.heap.size w x
theorem S2.drew {w:World} {a b:Nat} {x:World} (h:S2 w a b x):S2 w a b x.drew:=⟨h.ra,h.rb,h.be.drew⟩
theorem S2.call {w:World} {a b:Nat} {x y:World} (h:S2 w a b x) (hb:Below x.heap.size x y):S2 w a b y:=⟨zg h.ra hb,zg h.rb hb,zX h.be hb⟩
theorem S2.start (w:World) (a b:Nat):S2 w a b ((w.alloc (.cells #[.int .u64 (za a 0),.int .u64 (za a 1),.int .u64 (za a 2),.int .u64 (za a 3)] 24)).alloc (.cells #[.int .u64 (za b 0),.int .u64 (za b 1),.int .u64 (za b 2),.int .u64 (za b 3)] 24)):=
 ⟨zk (za a) rfl rfl rfl rfl rfl |>.alloc _,zk (za b) (by simp) rfl rfl rfl rfl,bal (bal (Below.refl _ _) _) _⟩
structure S3 (w:World) (a b:Nat) (x:World):Prop where
 ra:x.rowIs w.heap.size 24 4 (zo (za a))
 rb:x.rowIs (w.heap.size+1) 24 4 (zo (za b))
 rz:∃f:Nat->Int,x.rowIs (w.heap.size+1+1) 24 4 (zo f)
 be:Below w.heap.size w x
theorem S3.drew {w:World} {a b:Nat} {x:World} (h:S3 w a b x):S3 w a b x.drew:=⟨h.ra,h.rb,h.rz,h.be.drew⟩
theorem S3.alloc {w:World} {a b:Nat} {x:World} (h:S3 w a b x) (o:Obj):S3 w a b (x.alloc o):=⟨h.ra.alloc _,h.rb.alloc _,h.rz.imp fun _ h=>h.alloc _,bal h.be _⟩
theorem S3.call {w:World} {a b:Nat} {x y:World} (h:S3 w a b x) (hb:Below x.heap.size x y):S3 w a b y:=⟨zg h.ra hb,zg h.rb hb,h.rz.imp fun _ h=>zg h hb,zX h.be hb⟩
theorem S3.put {w:World} {a b:Nat} {x:World} (h:S3 w a b x) (r:Nat):S3 w a b ((((x.setCell ⟨w.heap.size+1+1,0,none⟩ (.int .u64 (za r 0))).setCell ⟨w.heap.size+1+1,1,none⟩ (.int .u64 (za r 1))).setCell ⟨w.heap.size+1+1,2,none⟩ (.int .u64 (za r 2))).setCell ⟨w.heap.size+1+1,3,none⟩ (.int .u64 (za r 3))):=by
 obtain⟨f,hf⟩:=h.rz;exact⟨zU h.ra (by omega) _ _ _ _,zU h.rb (by omega) _ _ _ _,⟨za r,zx hf (za r) rfl rfl rfl rfl⟩,zB h.be (by omega) _ _ _ _⟩
theorem S3.start (w:World) (a b:Nat):S3 w a b (((w.alloc (.cells #[.int .u64 (za a 0),.int .u64 (za a 1),.int .u64 (za a 2),.int .u64 (za a 3)] 24)).alloc (.cells #[.int .u64 (za b 0),.int .u64 (za b 1),.int .u64 (za b 2),.int .u64 (za b 3)] 24)).alloc (.cells #[.int .u64 0,.int .u64 0,.int .u64 0,.int .u64 0] 24)):=
 ⟨zk (za a) rfl rfl rfl rfl rfl |>.alloc _ |>.alloc _,zk (za b) (by simp) rfl rfl rfl rfl |>.alloc _,⟨fun _=>0,zk (fun _=>0) (by simp) rfl rfl rfl rfl⟩,bal (bal (bal (Below.refl _ _) _) _) _⟩
def FSar (w:World) (a b nb sh r:Nat):Nat->Act->World->Prop
 |0,s,_=>s.tmps.getD 7 undef=wv a
 |1,s,_=>s.tmps.getD 8 undef=wv b
 |2,s,_=>s.tmps.getD 9 undef=wv nb
 |3,s,_=>s.tmps.getD 10 undef=wv sh
 |4,s,_=>s.tmps.getD 11 undef=wv r
 |5,s,x=>x.rowIs (w.heap.size+1+1) 24 4 (zo (za r))
 |_,_,_=>True
theorem zaT (w:World) (a b nb sh r:Nat) (j:Nat) (h:6<=j) (s:Act) (x:World):FSar w a b nb sh r j s x:=by
 match j,h with
 |j+6,_=>trivial
def GSar (w:World) (a b:Nat) (s:Act) (x:World):Prop:=∃s5 s6 s7 s8 s9 s10 s11 s12 s13 s14:Value,
 s=⟨#[wv a,wv b,.pointer (some ⟨w.heap.size,0,none⟩),.pointer (some ⟨w.heap.size+1,0,none⟩),.pointer (some ⟨w.heap.size+1+1,0,none⟩),s5,s6,s7,s8,s9,s10,s11,s12,s13,s14],[]⟩/\S3 w a b x
theorem sar_neg {a b nb sh r:Nat} (h1:nb=zf8 (b%M)) (h2:sh=zey (a%M) (nb%M)) (h3:r=zf8 (sh%M)) (hn:neg b=true):r%M=zja (a%M) (b%M)%M:=by
 unfold zja;rw[Z0,hn,if_pos rfl,h3,h2,h1,Nat.mod_eq_of_lt (zlO (b%M)),Nat.mod_eq_of_lt (fshr_lt (a%M) _ (zlO (b%M)))]
theorem zl1 (a b:Nat) (w:World):Calls prog 118 #[wv a,wv b] w (Ret w (zja (a%M) (b%M))):=by
 obtain⟨nb,HNB⟩:∃nb,Hid (nb=zf8 (b%M)):=⟨_,rfl⟩;obtain⟨sh,HSH⟩:∃sh,Hid (sh=zey (a%M) (nb%M)):=⟨_,rfl⟩;obtain⟨r,HR⟩:∃r,Hid (r=zf8 (sh%M)):=⟨_,rfl⟩;obtain⟨ng,HN⟩:∃ng,Hid (neg b=ng):=⟨_,rfl⟩;have hs:=S3.start w a b;go_enter func118,ntmps118;go_wp2_with fail
 refine(zah b ng HN _).mono ?_;rintro e w1 ⟨rfl,hb⟩;replace hs:=hs.call hb;clear hb;cases ng
 ·obtain⟨a0,a1,a2,a3⟩:=ze hs.ra;obtain⟨b0,b1,b2,b3⟩:=ze hs.rb;go_wp2_with fail
  refine(zmC a b _).mono ?_;rintro e w2 ⟨s,HS,rfl,hb⟩;replace hs:=hs.call hb;clear hb a0 a1 a2 a3 b0 b1 b2 b3;obtain⟨f0,hf0⟩:=hs.rz;obtain⟨y0,y1,y2,y3⟩:=ze hf0;have fz:=hf0.frozen;go_wp2;obtain⟨q0,q1,q2,q3⟩:=ze (zx hf0 (za s) rfl rfl rfl rfl);refine bodyPost_ret (v:=wv s) (by simp[results,results118,go_sem,q0,q1,q2,q3]) rfl (Zt (by rw[HS.out];unfold zja;rw[Z0,HN.out,if_neg (by decide)]) ?_);exact(hs.put s).be
 ·go_wp2;refine ZJ (by kernel_rfl) (GSar w a b) (FSar w a b nb sh r) (YI (by kernel_rfl)) ?_ ?_ ?_
  ·exact⟨_,_,_,_,_,_,_,_,_,_,rfl,hs.drew⟩
  ·intro i o ho s x hG hdep;obtain⟨s5,s6,s7,s8,s9,s10,s11,s12,s13,s14,rfl,hs⟩:=hG;have hi:i<6:=(Array.getElem?_eq_some_iff.1 ho).1;rcases i6 hi with rfl|rfl|rfl|rfl|rfl|rfl
   ·obtain rfl:=sj ho;refine wpOp_step rfl fun K hK=> ?_
    obtain⟨y0,y1,y2,y3⟩:=ze hs.ra;go_simp;refine hK _ _ ⟨⟨_,_,_,_,_,_,_,_,_,_,rfl,hs⟩,rfl,fun j hj hd hF=> ?_⟩;rcases Nat.lt_or_ge j 6 with hjn|hjn
    ·rcases i6 hjn with rfl|rfl|rfl|rfl|rfl|rfl
     ·exact absurd rfl hj
     ·have h:s8=wv b:=hF;exact h
     ·have h:s9=wv nb:=hF;exact h
     ·exfalso;revert hd;exact of_decide_eq_true (by kernel_rfl)
     ·have h:s11=wv r:=hF;exact h
     ·have h:x.rowIs (w.heap.size+1+1) 24 4 (zo (za r)):=hF;exact h
    ·exact zaT _ _ _ _ _ _ _ hjn _ _
   ·obtain rfl:=sj ho;refine wpOp_step rfl fun K hK=> ?_
    obtain⟨y0,y1,y2,y3⟩:=ze hs.rb;go_simp;refine hK _ _ ⟨⟨_,_,_,_,_,_,_,_,_,_,rfl,hs⟩,rfl,fun j hj hd hF=> ?_⟩;rcases Nat.lt_or_ge j 6 with hjn|hjn
    ·rcases i6 hjn with rfl|rfl|rfl|rfl|rfl|rfl
     ·have h:s7=wv a:=hF;exact h
     ·exact absurd rfl hj
     ·exfalso;revert hd;exact of_decide_eq_true (by kernel_rfl)
     ·have h:s10=wv sh:=hF;exact h
     ·have h:s11=wv r:=hF;exact h
     ·have h:x.rowIs (w.heap.size+1+1) 24 4 (zo (za r)):=hF;exact h
    ·exact zaT _ _ _ _ _ _ _ hjn _ _
   ·obtain rfl:=sj ho;refine wpOp_step rfl fun K hK=> ?_
    have h1:s8=wv b:=hdep ⟨1,.data⟩ (by simp) rfl;subst h1;go_simp;refine(not_w b _).mono ?_;rintro e y ⟨rr,HRR,rfl,hb⟩;obtain rfl:rr=nb:=HRR.out.trans HNB.out.symm;dsimp only;refine hK _ _ ⟨⟨_,_,_,_,_,_,_,_,_,_,rfl,hs.call hb⟩,rfl,fun j hj hd hF=> ?_⟩;rcases Nat.lt_or_ge j 6 with hjn|hjn
    ·rcases i6 hjn with rfl|rfl|rfl|rfl|rfl|rfl
     ·have h:s7=wv a:=hF;exact h
     ·exact(rfl:(wv b:Value)=wv b)
     ·exact absurd rfl hj
     ·exfalso;revert hd;exact of_decide_eq_true (by kernel_rfl)
     ·have h:s11=wv r:=hF;exact h
     ·have h:x.rowIs (w.heap.size+1+1) 24 4 (zo (za r)):=hF;exact zg h hb
    ·exact zaT _ _ _ _ _ _ _ hjn _ _
   ·obtain rfl:=sj ho;refine wpOp_step rfl fun K hK=> ?_
    have h0:s7=wv a:=hdep ⟨0,.data⟩ (by simp) rfl;subst h0;have h2:s9=wv nb:=hdep ⟨2,.data⟩ (by simp) rfl;subst h2;go_simp;refine(zmC a nb _).mono ?_;rintro e y ⟨rr,HRR,rfl,hb⟩;obtain rfl:rr=sh:=HRR.out.trans HSH.out.symm;dsimp only;refine hK _ _ ⟨⟨_,_,_,_,_,_,_,_,_,_,rfl,hs.call hb⟩,rfl,fun j hj hd hF=> ?_⟩;rcases Nat.lt_or_ge j 6 with hjn|hjn
    ·rcases i6 hjn with rfl|rfl|rfl|rfl|rfl|rfl
     ·exact(rfl:(wv a:Value)=wv a)
     ·have h:s8=wv b:=hF;exact h
     ·exact(rfl:(wv nb:Value)=wv nb)
     ·exact absurd rfl hj
     ·exfalso;revert hd;exact of_decide_eq_true (by kernel_rfl)
     ·have h:x.rowIs (w.heap.size+1+1) 24 4 (zo (za r)):=hF;exact zg h hb
    ·exact zaT _ _ _ _ _ _ _ hjn _ _
   ·obtain rfl:=sj ho;refine wpOp_step rfl fun K hK=> ?_
    have h3:s10=wv sh:=hdep ⟨3,.data⟩ (by simp) rfl;subst h3;go_simp;refine(not_w sh _).mono ?_;rintro e y ⟨rr,HRR,rfl,hb⟩;obtain rfl:rr=r:=HRR.out.trans HR.out.symm;dsimp only;refine hK _ _ ⟨⟨_,_,_,_,_,_,_,_,_,_,rfl,hs.call hb⟩,rfl,fun j hj hd hF=> ?_⟩;rcases Nat.lt_or_ge j 6 with hjn|hjn
    ·rcases i6 hjn with rfl|rfl|rfl|rfl|rfl|rfl
     ·have h:s7=wv a:=hF;exact h
     ·have h:s8=wv b:=hF;exact h
     ·have h:s9=wv nb:=hF;exact h
     ·exact(rfl:(wv sh:Value)=wv sh)
     ·exact absurd rfl hj
     ·exfalso;revert hd;exact of_decide_eq_true (by kernel_rfl)
    ·exact zaT _ _ _ _ _ _ _ hjn _ _
   ·obtain rfl:=sj ho;refine wpOp_step rfl fun K hK=> ?_
    have h4:s11=wv r:=hdep ⟨4,.data⟩ (by simp) rfl;subst h4;obtain⟨f0,hf0⟩:=hs.rz;obtain⟨y0,y1,y2,y3⟩:=ze hf0;have fz:=hf0.frozen;go_simp;refine hK _ _ ⟨⟨_,_,_,_,_,_,_,_,_,_,rfl,hs.put r⟩,zx hf0 (za r) rfl rfl rfl rfl,fun j hj hd hF=> ?_⟩;rcases Nat.lt_or_ge j 6 with hjn|hjn
    ·rcases i6 hjn with rfl|rfl|rfl|rfl|rfl|rfl
     ·have h:s7=wv a:=hF;exact h
     ·have h:s8=wv b:=hF;exact h
     ·have h:s9=wv nb:=hF;exact h
     ·have h:s10=wv sh:=hF;exact h
     ·exact(rfl:(wv r:Value)=wv r)
     ·exact absurd rfl hj
    ·exact zaT _ _ _ _ _ _ _ hjn _ _
  ·intro s x hG hF;obtain⟨s5,s6,s7,s8,s9,s10,s11,s12,s13,s14,rfl,hs⟩:=hG;have hr:x.rowIs (w.heap.size+1+1) 24 4 (zo (za r)):=hF 5 (by decide);clear hF;go_wp2;obtain⟨q0,q1,q2,q3⟩:=ze hr;refine bodyPost_ret (v:=wv r) (by simp[results,results118,go_sem,q0,q1,q2,q3]) rfl (Zt (sar_neg HNB.out HSH.out HR.out HN.out) ?_);exact hs.be
def FSl (a b:Nat) (na nb:Bool):Nat->Act->World->Prop
 |0,s,_=>s.tmps.getD 5 undef=wv a
 |1,s,_=>s.tmps.getD 6 undef=.bool na
 |2,s,_=>s.tmps.getD 7 undef=wv b
 |3,s,_=>s.tmps.getD 8 undef=.bool nb
 |4,s,_=>s.tmps.getD 9 undef=.bool (na !=nb)
 |_,_,_=>True
theorem FSl_big (a b:Nat) (na nb:Bool) (j:Nat) (h:5<=j) (s:Act) (x:World):FSl a b na nb j s x:=by
 match j,h with
 |j+5,_=>trivial
def GSl (w:World) (a b:Nat) (s:Act) (x:World):Prop:=∃s5 s6 s7 s8 s9 s10 s11 s12 s13 s14:Value,
 s=⟨#[wv a,wv b,.pointer (some ⟨w.heap.size,0,none⟩),.pointer (some ⟨w.heap.size+1,0,none⟩),.bool false,s5,s6,s7,s8,s9,s10,s11,s12,s13,s14],[]⟩/\S2 w a b x
theorem zbw (a b:Nat) (w:World):Calls prog 110 #[wv a,wv b] w fun e w'=>∃r:Bool,Hid (r=zga (a%M) (b%M))/\e=.returned (.bool r)/\Below w.heap.size w w':=by
 obtain⟨na,HNA⟩:∃na,Hid (neg a=na):=⟨_,rfl⟩;obtain⟨nb,HNB⟩:∃nb,Hid (neg b=nb):=⟨_,rfl⟩;have hS:=S2.start w a b;go_enter func110,ntmps110;go_wp2;refine ZJ (by kernel_rfl) (GSl w a b) (FSl a b na nb) (YI (by kernel_rfl)) ?_ ?_ ?_
 ·exact⟨_,_,_,_,_,_,_,_,_,_,rfl,hS.drew⟩
 ·intro i o ho s x hG hdep;obtain⟨s5,s6,s7,s8,s9,s10,s11,s12,s13,s14,rfl,hs⟩:=hG;have hi:i<5:=(Array.getElem?_eq_some_iff.1 ho).1;rcases i5' hi with rfl|rfl|rfl|rfl|rfl;obtain rfl:=sj ho;refine wpOp_step rfl fun K hK=> ?_
  obtain⟨y0,y1,y2,y3⟩:=ze hs.ra;go_simp;refine hK _ _ ⟨⟨_,_,_,_,_,_,_,_,_,_,rfl,hs⟩,rfl,fun j hj hd hF=> ?_⟩;rotate_left;obtain rfl:=sj ho;refine wpOp_step rfl fun K hK=> ?_
  have h0:s5=wv a:=hdep ⟨0,.data⟩ (by simp) rfl;subst h0;go_simp;refine(zah a na HNA _).mono ?_;rintro e y ⟨rfl,hb⟩;dsimp only;refine hK _ _ ⟨⟨_,_,_,_,_,_,_,_,_,_,rfl,hs.call hb⟩,rfl,fun j hj hd hF=> ?_⟩;rotate_left;obtain rfl:=sj ho;refine wpOp_step rfl fun K hK=> ?_
  obtain⟨y0,y1,y2,y3⟩:=ze hs.rb;go_simp;refine hK _ _ ⟨⟨_,_,_,_,_,_,_,_,_,_,rfl,hs⟩,rfl,fun j hj hd hF=> ?_⟩;rotate_left;obtain rfl:=sj ho;refine wpOp_step rfl fun K hK=> ?_
  have h2:s7=wv b:=hdep ⟨2,.data⟩ (by simp) rfl;subst h2;go_simp;refine(zah b nb HNB _).mono ?_;rintro e y ⟨rfl,hb⟩;dsimp only;refine hK _ _ ⟨⟨_,_,_,_,_,_,_,_,_,_,rfl,hs.call hb⟩,rfl,fun j hj hd hF=> ?_⟩;rotate_left;obtain rfl:=sj ho;refine wpOp_step rfl fun K hK=> ?_
  have h1:s6=.bool na:=hdep ⟨1,.data⟩ (by simp) rfl;subst h1;have h3:s8=.bool nb:=hdep ⟨3,.data⟩ (by simp) rfl;subst h3;go_simp;refine hK _ _ ⟨⟨_,_,_,_,_,_,_,_,_,_,rfl,hs⟩,rfl,fun j hj hd hF=> ?_⟩;rotate_left
  all_goals
   rcases Nat.lt_or_ge j 5 with hjn|hjn
   ·rcases i5' hjn with rfl|rfl|rfl|rfl|rfl
    all_goals first
     |exact absurd rfl hj
     |exact hF
     |exact rfl
     |(exfalso;revert hd;exact of_decide_eq_true (by kernel_rfl))
   ·exact FSl_big _ _ _ _ _ hjn _ _
 ·intro s x hG hF;obtain⟨s5,s6,s7,s8,s9,s10,s11,s12,s13,s14,rfl,hs⟩:=hG;have h4:s9=.bool (na !=nb):=hF 4 (by decide);clear hF;subst h4;cases na<;>cases nb
  ·skip;obtain⟨a0,a1,a2,a3⟩:=ze hs.ra;obtain⟨b0,b1,b2,b3⟩:=ze hs.rb;go_wp2_with fail
   refine(zh4 a b _).mono ?_;rintro e w2 ⟨t,HT,rfl,hb⟩;go_wp2;go_ret;exact⟨_,by show _=zga _ _;unfold zga;rw[Z0,Z0,HNA.out,HNB.out,HT.out];rfl,rfl,zX hs.be hb⟩
  ·skip;obtain⟨a0,a1,a2,a3⟩:=ze hs.ra;go_wp2_with fail
   refine(zah a _ HNA _).mono ?_;rintro e w2 ⟨rfl,hb⟩;go_wp2;go_ret;exact⟨_,by show _=zga _ _;unfold zga;rw[Z0,Z0,HNA.out,HNB.out];rfl,rfl,zX hs.be hb⟩
  ·skip;obtain⟨a0,a1,a2,a3⟩:=ze hs.ra;go_wp2_with fail
   refine(zah a _ HNA _).mono ?_;rintro e w2 ⟨rfl,hb⟩;go_wp2;go_ret;exact⟨_,by show _=zga _ _;unfold zga;rw[Z0,Z0,HNA.out,HNB.out];rfl,rfl,zX hs.be hb⟩
  ·skip;obtain⟨a0,a1,a2,a3⟩:=ze hs.ra;obtain⟨b0,b1,b2,b3⟩:=ze hs.rb;go_wp2_with fail
   refine(zh4 a b _).mono ?_;rintro e w2 ⟨t,HT,rfl,hb⟩;go_wp2;go_ret;exact⟨_,by show _=zga _ _;unfold zga;rw[Z0,Z0,HNA.out,HNB.out,HT.out];rfl,rfl,zX hs.be hb⟩
def FSe (w:World) (b lf sl r:Nat):Nat->Act->World->Prop
 |0,s,_=>s.tmps.getD 15 undef=wv lf
 |1,s,_=>s.tmps.getD 16 undef=wv lf
 |2,s,_=>s.tmps.getD 17 undef=wv b
 |3,s,_=>s.tmps.getD 18 undef=wv sl
 |4,s,_=>s.tmps.getD 19 undef=wv r
 |5,s,x=>x.rowIs (w.heap.size+1+1) 24 4 (zo (za r))
 |_,_,_=>True
theorem zb7 (w:World) (b lf sl r:Nat) (j:Nat) (h:6<=j) (s:Act) (x:World):FSe w b lf sl r j s x:=by
 match j,h with
 |j+6,_=>trivial
def GSe (w:World) (a b p lf:Nat) (s:Act) (x:World):Prop:=∃s6 s7 s8 s9 s10 s11 s12 s13 s14 s15 s16 s17 s18 s19:Value,
 s=⟨#[wv a,wv b,.pointer (some ⟨w.heap.size,0,none⟩),.pointer (some ⟨w.heap.size+1,0,none⟩),.pointer (some ⟨w.heap.size+1+1,0,none⟩),.pointer (some ⟨p,0,none⟩),s6,s7,s8,s9,s10,s11,s12,s13,s14,s15,s16,s17,s18,s19],[]⟩/\(S3 w a b x/\x.rowIs p 24 4 (zo (za lf)))
theorem zqf {a b:Nat} (h:decide (a%M<31)=false):b%M=zgN (a%M) (b%M)%M:=by
 unfold zgN;rw[if_neg (of_decide_eq_false h),Nat.mod_mod]
theorem sext_in {a b lf sl r:Nat} (h:decide (a%M<31)=true) (h0:lf=248 - 8*(a%M)) (h1:sl=zcd (lf%M) b) (h2:r=zja (lf%M) (sl%M)):r%M=zgN (a%M) (b%M)%M:=by
 have e:lf%M=lf:=Nat.mod_eq_of_lt (by rw[h0];unfold M;omega)
 have e2:zcd lf b=zcd lf (b%M):=by
  unfold zcd;split
  ·rw[Nat.mul_mod b (2^lf) M,Nat.mul_mod (b%M) (2^lf) M,Nat.mod_mod]
  ·rfl
 unfold zgN;rw[if_pos (of_decide_eq_true h),<-h0,h2,h1,e,Nat.mod_eq_of_lt (fshl_lt _ _),e2]
theorem zeg {a:Nat} {k:Nat} (hk:k<=256) (h:decide (a%M<k)=true):∃s:Nat,s<k/\s=a%M/\za a 0=(s:Int):=by
 have h2:=of_decide_eq_true h;refine⟨a%M,h2,rfl, ?_⟩;unfold za M at*;rw[pw0];omega
theorem zlC (a k:Nat) (hk:k<18446744073709551616) (t:Bool) (ht:Hid (decide (a%M<k)=t)) (w:World):
  Calls prog 171 #[wv a,.int .u64 (k:Int)] w fun e w'=>e=.returned (.bool t)/\Below w.heap.size w w':=by
 have:=zaQ a k hk w;unfold ltw at this;rw[Nat.mod_eq_of_lt (show k<M by unfold M;omega),ht.out] at this;exact this
theorem ZM (n:Nat) (h:n<18446744073709551616):za n 0=(n:Int)/\za n 1=0/\za n 2=0/\za n 3=0:=by
 unfold za;rw[pw0,pw1,pw2,pw3];refine⟨?_, ?_, ?_, ?_⟩<;>omega
theorem zfY (a b:Nat) (w:World):Calls prog 107 #[wv a,wv b] w (Ret w (zgN (a%M) (b%M))):=by
 obtain⟨t,HT⟩:∃t,Hid (decide (a%M<31)=t):=⟨_,rfl⟩;have hs:=S3.start w a b;go_enter func107,ntmps107;go_wp2_with fail
 refine(zlC a 31 (by omega) t HT _).mono ?_;rintro e w1 ⟨rfl,hb⟩;replace hs:=hs.call hb;clear hb;cases t
 ·obtain⟨b0,b1,b2,b3⟩:=ze hs.rb;obtain⟨f0,hf0⟩:=hs.rz;obtain⟨y0,y1,y2,y3⟩:=ze hf0;have fz:=hf0.frozen;go_wp2;obtain⟨q0,q1,q2,q3⟩:=ze (zx hf0 (za b) rfl rfl rfl rfl);refine bodyPost_ret (v:=wv b) (by simp[results,results107,go_sem,q0,q1,q2,q3]) rfl (Zt (zqf HT.out) ?_);exact(hs.put b).be
 ·obtain⟨s,hs1,hs2,hs3⟩:=zeg (k:=31) (by omega) HT.out;have HS2:Hid (s=a%M):=hs2;obtain⟨a0,a1,a2,a3⟩:=ze hs.ra;rw[hs3] at a0;clear hs2 hs3 a1 a2 a3;obtain⟨lf,HLF⟩:∃lf,Hid (lf=248 - 8*s):=⟨_,rfl⟩;obtain⟨sl,HSL⟩:∃sl,Hid (sl=zcd (lf%M) b):=⟨_,rfl⟩;obtain⟨r,HR⟩:∃r,Hid (r=zja (lf%M) (sl%M)):=⟨_,rfl⟩;have hpl:w.heap.size+1+1<w1.heap.size:=by obtain⟨f0,hf0⟩:=hs.rz;exact hf0.lt
  have L0:Hid ((248 - 8*(s:Int))=za lf 0):=by show _=_;rw[(ZM lf (by rw[HLF.out];omega)).1,HLF.out];omega
  have L1:Hid ((0:Int)=za lf 1):=(ZM lf (by rw[HLF.out];omega)).2.1.symm;have L2:Hid ((0:Int)=za lf 2):=(ZM lf (by rw[HLF.out];omega)).2.2.1.symm;have L3:Hid ((0:Int)=za lf 3):=(ZM lf (by rw[HLF.out];omega)).2.2.2.symm;go_wp2;refine ZJ (by kernel_rfl) (GSe w a b w1.heap.size lf) (FSe w b lf sl r) (YI (by kernel_rfl)) ?_ ?_ ?_
  ·exact⟨_,_,_,_,_,_,_,_,_,_,_,_,_,_,rfl,⟨(hs.alloc _).drew,(zk (za lf) rfl L0.out L1.out L2.out L3.out).drew⟩⟩
  ·intro i o ho s x hG hdep;obtain⟨s6,s7,s8,s9,s10,s11,s12,s13,s14,s15,s16,s17,s18,s19,rfl,hs⟩:=hG;have hi:i<6:=(Array.getElem?_eq_some_iff.1 ho).1;rcases i6 hi with rfl|rfl|rfl|rfl|rfl|rfl
   ·obtain rfl:=sj ho;refine wpOp_step rfl fun K hK=> ?_
    obtain⟨y0,y1,y2,y3⟩:=ze hs.2;go_simp;refine hK _ _ ⟨⟨_,_,_,_,_,_,_,_,_,_,_,_,_,_,rfl,hs⟩,rfl,fun j hj hd hF=> ?_⟩;rcases Nat.lt_or_ge j 6 with hjn|hjn
    ·rcases i6 hjn with rfl|rfl|rfl|rfl|rfl|rfl
     ·exact absurd rfl hj
     ·have h:s16=wv lf:=hF;exact h
     ·have h:s17=wv b:=hF;exact h
     ·have h:s18=wv sl:=hF;exact h
     ·exfalso;revert hd;exact of_decide_eq_true (by kernel_rfl)
     ·have h:x.rowIs (w.heap.size+1+1) 24 4 (zo (za r)):=hF;exact h
    ·exact zb7 _ _ _ _ _ _ hjn _ _
   ·obtain rfl:=sj ho;refine wpOp_step rfl fun K hK=> ?_
    obtain⟨y0,y1,y2,y3⟩:=ze hs.2;go_simp;refine hK _ _ ⟨⟨_,_,_,_,_,_,_,_,_,_,_,_,_,_,rfl,hs⟩,rfl,fun j hj hd hF=> ?_⟩;rcases Nat.lt_or_ge j 6 with hjn|hjn
    ·rcases i6 hjn with rfl|rfl|rfl|rfl|rfl|rfl
     ·have h:s15=wv lf:=hF;exact h
     ·exact absurd rfl hj
     ·have h:s17=wv b:=hF;exact h
     ·exfalso;revert hd;exact of_decide_eq_true (by kernel_rfl)
     ·have h:s19=wv r:=hF;exact h
     ·have h:x.rowIs (w.heap.size+1+1) 24 4 (zo (za r)):=hF;exact h
    ·exact zb7 _ _ _ _ _ _ hjn _ _
   ·obtain rfl:=sj ho;refine wpOp_step rfl fun K hK=> ?_
    obtain⟨y0,y1,y2,y3⟩:=ze hs.1.rb;go_simp;refine hK _ _ ⟨⟨_,_,_,_,_,_,_,_,_,_,_,_,_,_,rfl,hs⟩,rfl,fun j hj hd hF=> ?_⟩;rcases Nat.lt_or_ge j 6 with hjn|hjn
    ·rcases i6 hjn with rfl|rfl|rfl|rfl|rfl|rfl
     ·have h:s15=wv lf:=hF;exact h
     ·have h:s16=wv lf:=hF;exact h
     ·exact absurd rfl hj
     ·exfalso;revert hd;exact of_decide_eq_true (by kernel_rfl)
     ·have h:s19=wv r:=hF;exact h
     ·have h:x.rowIs (w.heap.size+1+1) 24 4 (zo (za r)):=hF;exact h
    ·exact zb7 _ _ _ _ _ _ hjn _ _
   ·obtain rfl:=sj ho;refine wpOp_step rfl fun K hK=> ?_
    have h1:s16=wv lf:=hdep ⟨1,.data⟩ (by simp) rfl;subst h1;have h2:s17=wv b:=hdep ⟨2,.data⟩ (by simp) rfl;subst h2;go_simp;refine(shl_w lf b _).mono ?_;rintro e y ⟨rr,HRR,rfl,hb⟩;obtain rfl:rr=sl:=HRR.out.trans HSL.out.symm;dsimp only;refine hK _ _ ⟨⟨_,_,_,_,_,_,_,_,_,_,_,_,_,_,rfl,⟨hs.1.call hb,zg hs.2 hb⟩⟩,rfl,fun j hj hd hF=> ?_⟩;rcases Nat.lt_or_ge j 6 with hjn|hjn
    ·rcases i6 hjn with rfl|rfl|rfl|rfl|rfl|rfl
     ·have h:s15=wv lf:=hF;exact h
     ·exact(rfl:(wv lf:Value)=wv lf)
     ·exact(rfl:(wv b:Value)=wv b)
     ·exact absurd rfl hj
     ·exfalso;revert hd;exact of_decide_eq_true (by kernel_rfl)
     ·have h:x.rowIs (w.heap.size+1+1) 24 4 (zo (za r)):=hF;exact zg h hb
    ·exact zb7 _ _ _ _ _ _ hjn _ _
   ·obtain rfl:=sj ho;refine wpOp_step rfl fun K hK=> ?_
    have h0:s15=wv lf:=hdep ⟨0,.data⟩ (by simp) rfl;subst h0;have h3:s18=wv sl:=hdep ⟨3,.data⟩ (by simp) rfl;subst h3;go_simp;refine(zl1 lf sl _).mono ?_;rintro e y ⟨rr,HRR,rfl,hb⟩;obtain rfl:rr=r:=HRR.out.trans HR.out.symm;dsimp only;refine hK _ _ ⟨⟨_,_,_,_,_,_,_,_,_,_,_,_,_,_,rfl,⟨hs.1.call hb,zg hs.2 hb⟩⟩,rfl,fun j hj hd hF=> ?_⟩;rcases Nat.lt_or_ge j 6 with hjn|hjn
    ·rcases i6 hjn with rfl|rfl|rfl|rfl|rfl|rfl
     ·exact(rfl:(wv lf:Value)=wv lf)
     ·have h:s16=wv lf:=hF;exact h
     ·have h:s17=wv b:=hF;exact h
     ·exact(rfl:(wv sl:Value)=wv sl)
     ·exact absurd rfl hj
     ·exfalso;revert hd;exact of_decide_eq_true (by kernel_rfl)
    ·exact zb7 _ _ _ _ _ _ hjn _ _
   ·obtain rfl:=sj ho;refine wpOp_step rfl fun K hK=> ?_
    have h4:s19=wv r:=hdep ⟨4,.data⟩ (by simp) rfl;subst h4;obtain⟨f0,hf0⟩:=hs.1.rz;obtain⟨y0,y1,y2,y3⟩:=ze hf0;have fz:=hf0.frozen;go_simp;refine hK _ _ ⟨⟨_,_,_,_,_,_,_,_,_,_,_,_,_,_,rfl,⟨hs.1.put r,zU hs.2 (Nat.ne_of_gt hpl) _ _ _ _⟩⟩,zx hf0 (za r) rfl rfl rfl rfl,fun j hj hd hF=> ?_⟩;rcases Nat.lt_or_ge j 6 with hjn|hjn
    ·rcases i6 hjn with rfl|rfl|rfl|rfl|rfl|rfl
     ·have h:s15=wv lf:=hF;exact h
     ·have h:s16=wv lf:=hF;exact h
     ·have h:s17=wv b:=hF;exact h
     ·have h:s18=wv sl:=hF;exact h
     ·exact(rfl:(wv r:Value)=wv r)
     ·exact absurd rfl hj
    ·exact zb7 _ _ _ _ _ _ hjn _ _
  ·intro s x hG hF;obtain⟨s6,s7,s8,s9,s10,s11,s12,s13,s14,s15,s16,s17,s18,s19,rfl,hs⟩:=hG;have hr:x.rowIs (w.heap.size+1+1) 24 4 (zo (za r)):=hF 5 (by decide);clear hF;obtain⟨hs, -⟩:=hs;go_wp2;obtain⟨q0,q1,q2,q3⟩:=ze hr;refine bodyPost_ret (v:=wv r) (by simp[results,results107,go_sem,q0,q1,q2,q3]) rfl (Zt (sext_in HT.out (by rw[HLF.out,HS2.out]) HSL.out HR.out) ?_);exact hs.be
theorem zp7 {a b:Nat} (h:decide (a%M<32)=false):0%M=zha (a%M) (b%M)%M:=by
 unfold zha;rw[if_neg (of_decide_eq_false h)]
theorem byte_in {a b k m:Nat} (h:decide (a%M<32)=true) (h0:k=8*(31 - a%M)) (h1:m=zey (k%M) (b%M)):m%256%M=zha (a%M) (b%M)%M:=by
 have e:k%M=k:=Nat.mod_eq_of_lt (by rw[h0];unfold M;omega);unfold zha;rw[if_pos (of_decide_eq_true h),<-h0,h1,e]
theorem and_255 (m:Nat):bits .and .u64 (za m 0) 255=((m%256:Nat):Int):=by
 have h:=bits_and_u64_nat (zO m 0) 255 (yy _ _) (by omega);rw[show zO m 0 &&& 255=zO m 0%256 from Nat.and_two_pow_sub_one_eq_mod _ 8] at h;rw[Zo];refine h.trans ?_;unfold zO;rw[pw0];omega
theorem zkX (a b:Nat) (w:World):Calls prog 115 #[wv a,wv b] w (Ret w (zha (a%M) (b%M))):=by
 obtain⟨t,HT⟩:∃t,Hid (decide (a%M<32)=t):=⟨_,rfl⟩;have hs:=S3.start w a b;go_enter func115,ntmps115;go_wp2_with fail
 refine(zlC a 32 (by omega) t HT _).mono ?_;rintro e w1 ⟨rfl,hb⟩;replace hs:=hs.call hb;clear hb;cases t
 ·obtain⟨f0,hf0⟩:=hs.rz;obtain⟨y0,y1,y2,y3⟩:=ze hf0;have fz:=hf0.frozen;go_wp2;obtain⟨q0,q1,q2,q3⟩:=ze (zx hf0 (fun _=>0) rfl rfl rfl rfl);refine bodyPost_ret (v:=wv 0) (by rw[<-zdn];simp[results,results115,go_sem,q0,q1,q2,q3]) rfl (Zt (zp7 HT.out) ?_);exact zB hs.be (by omega) _ _ _ _
 ·obtain⟨s,hs1,hs2,hs3⟩:=zeg (k:=32) (by omega) HT.out;have HS2:Hid (s=a%M):=hs2;obtain⟨a0,a1,a2,a3⟩:=ze hs.ra;obtain⟨b0,b1,b2,b3⟩:=ze hs.rb;rw[hs3] at a0;clear hs2 hs3 a1 a2 a3;obtain⟨k,HK⟩:∃k,Hid (k=8*(31 - s)):=⟨_,rfl⟩;go_wp2_with fail
  rw[show(8*(31 - (s:Int)))=(k:Int) from by rw[HK.out];omega,zeY k (by rw[HK.out];omega)];refine(zmC k b _).mono ?_;rintro e w2 ⟨m,HM,rfl,hb⟩;replace hs:=hs.call hb;clear hb a0 b0 b1 b2 b3;obtain⟨r,HR⟩:∃r,Hid (r=m%256):=⟨_,rfl⟩;have h255:bits .and .u64 (za m 0) 255=(r:Int):=by rw[HR.out];exact and_255 m
  have hrl:r<18446744073709551616:=by rw[HR.out];omega
  have HRL:Hid (r<18446744073709551616):=hrl;clear hrl;obtain⟨f0,hf0⟩:=hs.rz;obtain⟨y0,y1,y2,y3⟩:=ze hf0;have fz:=hf0.frozen;have z:=hf0.lt;go_wp2;obtain⟨q0,q1,q2,q3⟩:=ze (zx hf0 (za r) (x0:=(r:Int)) (x1:=0) (x2:=0) (x3:=0) (ZM r HRL.out).1.symm (ZM r HRL.out).2.1.symm (ZM r HRL.out).2.2.1.symm (ZM r HRL.out).2.2.2.symm);refine bodyPost_ret (v:=wv r) (by simp[results,results115,go_sem,q0,q1,q2,q3,z]) rfl (Zt (by rw[HR.out];exact byte_in HT.out (by rw[HK.out,HS2.out]) HM.out) ?_);exact bal (zB hs.be (by omega) _ _ _ _) _
theorem Zm {p:Prop} (h:p):Hid p:=h
theorem ZI (n:Nat) (hn:n<9223372036854775808) (w:World):Calls prog 262 #[.int .i64 (n:Int)] w fun e w'=>e=.returned (wv n)/\Below w.heap.size w w':=by
 obtain⟨g0,g1,g2,g3⟩:=ZM n (by omega);have G0:Hid (za n 0=(n:Int)):=g0;have G1:Hid (za n 1=0):=g1;have G2:Hid (za n 2=0):=g2;have G3:Hid (za n 3=0):=g3;clear g0 g1 g2 g3;go_enter func262,ntmps262;go_wp2;refine bodyPost_ret (v:=wv n) (by unfold wv;rw[G0.out,G1.out,G2.out,G3.out];simp[results,results262,go_sem]) rfl ⟨rfl, ?_⟩;exact bal (Below.refl _ _) _
abbrev wc (n:Nat):Obj:=.cells #[.int .u64 (za n 0),.int .u64 (za n 1),.int .u64 (za n 2),.int .u64 (za n 3)] 24
abbrev Za (x:World) (b n:Nat):Prop:=x.rowIs b 24 4 (zo (za n))
theorem yu (w:World) (n:Nat):Za (w.alloc (wc n)) w.heap.size n:=zk _ rfl rfl rfl rfl rfl
structure W1 (w:World) (a:Nat) (x:World):Prop where
 ra:Za x w.heap.size a
 be:Below w.heap.size w x
theorem W1.start (w:World) (a:Nat):W1 w a (w.alloc (wc a)):=⟨yu w a,bal (Below.refl _ _) _⟩
theorem W1.alloc {w:World} {a:Nat} {x:World} (h:W1 w a x) (o:Obj):W1 w a (x.alloc o):=⟨h.ra.alloc _,bal h.be _⟩
theorem W1.call {w:World} {a:Nat} {x y:World} (h:W1 w a x) (hb:Below x.heap.size x y):W1 w a y:=⟨zg h.ra hb,zX h.be hb⟩
structure W2 (w:World) (a b:Nat) (x:World):Prop where
 ra:Za x w.heap.size a
 rb:Za x (w.heap.size+1) b
 be:Below w.heap.size w x
theorem W2.start (w:World) (a b:Nat):W2 w a b ((w.alloc (wc a)).alloc (wc b)):=⟨(yu w a).alloc _,zk _ (by simp) rfl rfl rfl rfl,bal (bal (Below.refl _ _) _) _⟩
theorem W2.alloc {w:World} {a b:Nat} {x:World} (h:W2 w a b x) (o:Obj):W2 w a b (x.alloc o):=⟨h.ra.alloc _,h.rb.alloc _,bal h.be _⟩
theorem W2.call {w:World} {a b:Nat} {x y:World} (h:W2 w a b x) (hb:Below x.heap.size x y):W2 w a b y:=⟨zg h.ra hb,zg h.rb hb,zX h.be hb⟩
structure W3 (w:World) (a b c:Nat) (x:World):Prop where
 ra:Za x w.heap.size a
 rb:Za x (w.heap.size+1) b
 rc:Za x (w.heap.size+1+1) c
 be:Below w.heap.size w x
theorem W3.start (w:World) (a b c:Nat):W3 w a b c (((w.alloc (wc a)).alloc (wc b)).alloc (wc c)):=⟨((yu w a).alloc _).alloc _,(zk (za b) (by simp) rfl rfl rfl rfl).alloc _,zk _ (by simp) rfl rfl rfl rfl,bal (bal (bal (Below.refl _ _) _) _) _⟩
theorem zmA (a b:Nat):decide (0<Z7 a b)=decide (b%M<a%M):=by
 unfold Z7;by_cases h1:a%M<b%M
 ·rw[if_pos h1];simp;omega
 ·rw[if_neg h1];by_cases h2:b%M<a%M
  ·rw[if_pos h2];simp[h2]
  ·rw[if_neg h2];simp[h2]
theorem zjm {n:Nat} (h:n<9223372036854775808):n%M=n:=Nat.mod_eq_of_lt (by unfold M;omega)
theorem zpD {a:Nat} (h:a%M<9223372036854775808):za a 0=((a%M:Nat):Int):=by
 have h:=(ZM (a%M) (by omega)).1;rw[<-h];unfold za M;rw[pw0];omega
theorem zaD (a n:Nat) (hn:n<9223372036854775808) (ha:a%M<=n) (w:World):Calls prog 284 #[wv a,.int .i64 (n:Int)] w fun e w'=>∃m:Nat,Hid (m=a%M)/\e=.returned (.tuple #[.int .i64 (m:Int),.bool true])/\Below w.heap.size w w':=by
 have d:decide (0<Z7 a n)=false:=by rw[zmA,zjm hn];exact decide_eq_false (by omega)
 have hl:za a 0=((a%M:Nat):Int):=zpD (by omega);obtain⟨m,hm⟩:∃m:Nat,m=a%M:=⟨_,rfl⟩;rw[<-hm] at hl ha;have HL:=Zm hl;have HMM:=Zm hm;clear hm hl;have hr:(w.alloc (.cells #[.int .u64 (za a 0),.int .u64 (za a 1),.int .u64 (za a 2),.int .u64 (za a 3)] 24)).rowIs w.heap.size 24 4 (zo (za a)):=zk _ rfl rfl rfl rfl rfl;have HS:=Zm (ZI n hn);have HC:=Zm (Yc a n);go_enter func284,ntmps284;go_wp2_with fail
 go_region_with (first
  |(go_at_call 262;refine(HS.out _).mono ?_;rintro e w1 ⟨rfl,hb1⟩;have hr1:=zg hr.drew hb1;obtain⟨y0,y1,y2,y3⟩:=ze hr1)
  |(go_at_call 33;refine(HC.out _).mono ?_;rintro e w2 ⟨rfl,hb2⟩))
 all_goals (
  have hr2:=zg hr1 hb2;obtain⟨z0,z1,z2,z3⟩:=ze hr2;have HB:Hid (Below w.heap.size w w2):=zX (zX (bal (Below.refl _ w) _).drew hb1) hb2;rw[HL.out] at z0;clear hr2 hr1 y0 y1 y2 y3 hb1 hb2 hr HC HS;go_wp2;go_ret2;exact⟨m,HMM,rfl,HB.out⟩)
theorem zaV (a n:Nat) (hn:n<9223372036854775808) (ha:n<a%M) (w:World):Calls prog 284 #[wv a,.int .i64 (n:Int)] w fun e w'=>e=.returned (.tuple #[.int .i64 0,.bool false])/\Below w.heap.size w w':=by
 have d:decide (0<Z7 a n)=true:=by rw[zmA,zjm hn];exact decide_eq_true (by omega)
 have hr:(w.alloc (.cells #[.int .u64 (za a 0),.int .u64 (za a 1),.int .u64 (za a 2),.int .u64 (za a 3)] 24)).rowIs w.heap.size 24 4 (zo (za a)):=zk _ rfl rfl rfl rfl rfl;have HS:=Zm (ZI n hn);have HC:=Zm (Yc a n);clear ha;go_enter func284,ntmps284;go_wp2_with fail
 go_region_with (first
  |(go_at_call 262;refine(HS.out _).mono ?_;rintro e w1 ⟨rfl,hb1⟩;have hr1:=zg hr.drew hb1;obtain⟨y0,y1,y2,y3⟩:=ze hr1)
  |(go_at_call 33;refine(HC.out _).mono ?_;rintro e w2 ⟨rfl,hb2⟩))
 all_goals (
  have HB:Hid (Below w.heap.size w w2):=zX (zX (bal (Below.refl _ w) _).drew hb1) hb2;clear hr1 y0 y1 y2 y3 hb1 hb2 hr HC HS;go_wp2;go_ret2;exact⟨rfl,HB.out⟩)
theorem zab (n:Nat) (hn:n<=200000) (w:World):Calls prog 287 #[.int .i64 (n:Int)] w fun e w'=>e=.returned (.int .i64 (((n+31)/32:Nat):Int))/\w'=w:=by
 go_enter func287,ntmps287;go_wp2;go_ret;refine⟨congrArg (fun z=>Ending.returned (Value.int .i64 z)) ?_,rfl⟩;omega
abbrev yz (p n b:Nat):Prop:=p%M<=b/\n%M<=b/\p%M+n%M<=b
theorem zhy (p n b:Nat) (hb:b<1000000) (h:yz p n b) (w:World):Calls prog 286 #[wv p,wv n,.int .i64 (b:Int)] w fun e w'=>∃q m:Nat,Hid (q=p%M)/\Hid (m=n%M)/\e=.returned (.tuple #[.int .i64 (q:Int),.int .i64 (m:Int),.bool true])/\Below w.heap.size w w':=by
 obtain⟨h1,h2,h3⟩:=h;have HP:=Zm (zaD p b (by omega) h1);have HN:=Zm (zaD n b (by omega) h2);have hs:=W2.start w p n;go_enter func286,ntmps286;go_wp2_with fail
 refine(HP.out _).mono ?_;rintro e w1 ⟨q,HQ,rfl,hb1⟩;replace hs:=hs.call hb1;obtain⟨x0,x1,x2,x3⟩:=ze hs.rb;go_wp2_with fail
 refine(HN.out _).mono ?_;rintro e w2 ⟨m,HM,rfl,hb2⟩;have hle:q+m<=b:=by rw[HQ.out,HM.out];exact h3
 have d:decide ((b:Int)<(q:Int)+(m:Int))=false:=decide_eq_false (by omega);have HB:=Zm (zX hs.be hb2);clear hs x0 x1 x2 x3;clear hb1 hb2 h1 h2 h3 HP HN;go_wp2
 go_ret3
 exact⟨q,m,HQ,HM,rfl,HB.out⟩
theorem zfc (p n b:Nat) (hb:b<1000000) (h:¬yz p n b) (w:World):Calls prog 286 #[wv p,wv n,.int .i64 (b:Int)] w fun e w'=>e=.returned (.tuple #[.int .i64 0,.int .i64 0,.bool false])/\Below w.heap.size w w':=by
 by_cases h1:p%M<=b
 ·have HP:=Zm (zaD p b (by omega) h1);by_cases h2:n%M<=b
  ·have HN:=Zm (zaD n b (by omega) h2);have hs:=W2.start w p n;go_enter func286,ntmps286;go_wp2_with fail
   refine(HP.out _).mono ?_;rintro e w1 ⟨q,HQ,rfl,hb1⟩;replace hs:=hs.call hb1;obtain⟨x0,x1,x2,x3⟩:=ze hs.rb;go_wp2_with fail
   refine(HN.out _).mono ?_;rintro e w2 ⟨m,HM,rfl,hb2⟩;have hle:b<q+m:=by rw[HQ.out,HM.out];unfold yz at h;omega
   have hq:q<=b:=by rw[HQ.out];exact h1
   have hm:m<=b:=by rw[HM.out];exact h2
   have d:decide ((b:Int)<(q:Int)+(m:Int))=true:=decide_eq_true (by omega);have HB:=Zm (zX hs.be hb2);clear hs x0 x1 x2 x3;clear hb1 hb2 h1 h2 h HP HN;go_wp2
   go_ret3
   exact⟨rfl,HB.out⟩
  ·have HN:=Zm (zaV n b (by omega) (by omega));have hs:=W2.start w p n;go_enter func286,ntmps286;go_wp2_with fail
   refine(HP.out _).mono ?_;rintro e w1 ⟨q,HQ,rfl,hb1⟩;replace hs:=hs.call hb1;obtain⟨x0,x1,x2,x3⟩:=ze hs.rb;go_wp2_with fail
   refine(HN.out _).mono ?_;rintro e w2 ⟨rfl,hb2⟩;have HB:=Zm (zX hs.be hb2);clear hs x0 x1 x2 x3;clear hb1 hb2 h1 h2 h HP HN;go_wp2
   go_ret3
   exact⟨rfl,HB.out⟩
 ·have HP:=Zm (zaV p b (by omega) (by omega))
  have HN:Hid (∀w,Calls prog 284 #[wv n,.int .i64 (b:Int)] w fun e w'=>∃(m:Nat) (t:Bool),e=.returned (.tuple #[.int .i64 (m:Int),.bool t])/\Below w.heap.size w w'):=fun w=>by
   by_cases h2:n%M<=b
   ·exact(zaD n b (by omega) h2 w).mono fun e w' ⟨m,_,h3,h4⟩=>⟨m,true,h3,h4⟩
   ·exact(zaV n b (by omega) (by omega) w).mono fun e w' ⟨h3,h4⟩=>⟨0,false,h3,h4⟩
  have hs:=W2.start w p n;go_enter func286,ntmps286;go_wp2_with fail
  refine(HP.out _).mono ?_;rintro e w1 ⟨rfl,hb1⟩;replace hs:=hs.call hb1;obtain⟨x0,x1,x2,x3⟩:=ze hs.rb;go_wp2_with fail
  refine(HN.out _).mono ?_;rintro e w2 ⟨m,t,rfl,hb2⟩;have HB:=Zm (zX hs.be hb2);clear hs x0 x1 x2 x3;clear hb1 hb2 h1 h HP HN;go_wp2
  go_ret3
  exact⟨rfl,HB.out⟩
def byt (s:ByteArray) (i:Nat):Nat:=(s.get! i).toNat
theorem ZQ (s:ByteArray) (i:Nat):byt s i<256:=(s.get! i).toNat_lt
theorem zhF (s:ByteArray) (i:Nat) (h:i<s.size):(s[i]'h).toNat=byt s i:=by
 unfold byt
 have e:s.get! i=s[i]'h:=by
  simp[ByteArray.get!,getElem!_pos,h];rfl
 rw[e]
def good (s:ByteArray) (i lo hi j:Nat):Prop:=if j=1 then lo<=byt s (i+j)/\byt s (i+j)<=hi else 128<=byt s (i+j)/\byt s (i+j)<=191
def Rd (s:ByteArray) (i n lo hi:Nat) (r:Nat):Prop:=(r=n/\i+n<=s.size/\∀j,1<=j->j<n->good s i lo hi j)\/(r=0/\¬(i+n<=s.size/\∀j,1<=j->j<n->good s i lo hi j))
def nx (s:ByteArray) (i:Nat):Nat:=if Utf8.decode s i=(65533,1) then 0 else(Utf8.decode s i).2
def dec (z i b0 b1 b2 b3:Nat):Nat×Nat:=
 if b0<128 then(b0,1)
 else if b0/32=6/\(i+1<z/\b1/64=2) then(if 128<=b0%32*64+b1%64 then(b0%32*64+b1%64,2) else(65533,1))
 else if (b0/16=14/\(i+1<z/\b1/64=2))/\(i+2<z/\b2/64=2) then
  (if 2048<=b0%16*4096+b1%64*64+b2%64/\(b0%16*4096+b1%64*64+b2%64<55296\/(57344<=b0%16*4096+b1%64*64+b2%64/\b0%16*4096+b1%64*64+b2%64<=1114111)) then(b0%16*4096+b1%64*64+b2%64,3) else(65533,1))
 else if ((b0/8=30/\(i+1<z/\b1/64=2))/\(i+2<z/\b2/64=2))/\(i+3<z/\b3/64=2) then
  (if 65536<=b0%8*262144+b1%64*4096+b2%64*64+b3%64/\(b0%8*262144+b1%64*4096+b2%64*64+b3%64<55296\/(57344<=b0%8*262144+b1%64*4096+b2%64*64+b3%64/\b0%8*262144+b1%64*4096+b2%64*64+b3%64<=1114111)) then(b0%8*262144+b1%64*4096+b2%64*64+b3%64,4) else(65533,1))
 else(65533,1)
theorem yT (s:ByteArray) (i:Nat):Utf8.decode s i=dec s.size i (byt s i) (byt s (i+1)) (byt s (i+2)) (byt s (i+3)):=by
 have hv:∀c:Nat,Utf8.valid (c:Int)=true↔(c<55296\/(57344<=c/\c<=1114111)):=fun c=>by
  unfold Utf8.valid;simp only[Bool.or_eq_true,Bool.and_eq_true,decide_eq_true_eq];omega
 unfold Utf8.decode dec byt;simp only[Bool.and_eq_true,decide_eq_true_eq,beq_iff_eq,ge_iff_le,hv,Nat.add_zero,Utf8.runeError]
def wid (z i b0 b1 b2 b3:Nat):Nat:=if dec z i b0 b1 b2 b3=(65533,1) then 0 else(dec z i b0 b1 b2 b3).2
theorem zcx (s:ByteArray) (i:Nat):nx s i=wid s.size i (byt s i) (byt s (i+1)) (byt s (i+2)) (byt s (i+3)):=by
 unfold nx wid;rw[yT]
theorem zkF {z i b0 b1 b2 b3 c n:Nat} (h:dec z i b0 b1 b2 b3=(c,n)) (hn:2<=n):wid z i b0 b1 b2 b3=n:=by
 unfold wid;rw[h,if_neg];intro e;injection e with e1 e2
 omega
theorem zh2 {z i b0 b1 b2 b3:Nat} (h:dec z i b0 b1 b2 b3=(65533,1)):wid z i b0 b1 b2 b3=0:=by
 unfold wid;rw[h,if_pos rfl]
theorem wid_a (z i b0 b1 b2 b3:Nat) (h:b0<128):wid z i b0 b1 b2 b3=1:=by
 unfold wid dec;rw[if_pos h,if_neg];intro e;injection e with e1 e2
 omega
theorem wid_z (z i b0 b1 b2 b3:Nat) (h0:128<=b0) (hl:b0<256) (h:b0<194\/245<=b0) (hb1:b1<256) (hb2:b2<256) (hb3:b3<256):wid z i b0 b1 b2 b3=0:=by
 refine zh2 ?_;unfold dec
 repeat' split
 all_goals first|rfl|(exfalso;omega)
theorem wid_2 (z i b0 b1 b2 b3:Nat) (h1:194<=b0) (h2:b0<224) (hb1:b1<256):wid z i b0 b1 b2 b3=if i+2<=z/\128<=b1/\b1<=191 then 2 else 0:=by
 by_cases h:i+2<=z/\128<=b1/\b1<=191
 ·rw[if_pos h];refine zkF (c:=b0%32*64+b1%64) ?_ (by omega);unfold dec;rw[if_neg (by omega),if_pos (by omega),if_pos (by omega)]
 ·rw[if_neg h];refine zh2 ?_;unfold dec
  repeat' split
  all_goals first|rfl|(exfalso;omega)
theorem wid_3 (z i b0 b1 b2 b3 lo hi:Nat) (hb1:b1<256) (hb2:b2<256) (hc:(b0=224/\lo=160/\hi=191)\/(225<=b0/\b0<237/\lo=128/\hi=191)\/(b0=237/\lo=128/\hi=159)\/(238<=b0/\b0<240/\lo=128/\hi=191)):
  wid z i b0 b1 b2 b3=if i+3<=z/\(lo<=b1/\b1<=hi)/\(128<=b2/\b2<=191) then 3 else 0:=by
 by_cases h:i+3<=z/\(lo<=b1/\b1<=hi)/\(128<=b2/\b2<=191)
 ·rw[if_pos h];refine zkF (c:=b0%16*4096+b1%64*64+b2%64) ?_ (by omega);unfold dec;rw[if_neg (by omega),if_neg (by omega),if_pos (by omega),if_pos (by omega)]
 ·rw[if_neg h];refine zh2 ?_;unfold dec
  repeat' split
  all_goals first|rfl|(exfalso;omega)
theorem wid_4 (z i b0 b1 b2 b3 lo hi:Nat) (hb1:b1<256) (hb2:b2<256) (hb3:b3<256) (hc:(b0=240/\lo=144/\hi=191)\/(241<=b0/\b0<244/\lo=128/\hi=191)\/(b0=244/\lo=128/\hi=143)):
  wid z i b0 b1 b2 b3=if i+4<=z/\(lo<=b1/\b1<=hi)/\(128<=b2/\b2<=191)/\(128<=b3/\b3<=191) then 4 else 0:=by
 by_cases h:i+4<=z/\(lo<=b1/\b1<=hi)/\(128<=b2/\b2<=191)/\(128<=b3/\b3<=191)
 ·rw[if_pos h];refine zkF (c:=b0%8*262144+b1%64*4096+b2%64*64+b3%64) ?_ (by omega);unfold dec;rw[if_neg (by omega),if_neg (by omega),if_neg (by omega),if_pos (by omega),if_pos (by omega)]
 ·rw[if_neg h];refine zh2 ?_;unfold dec
  repeat' split
  all_goals first|rfl|(exfalso;omega)
def bl (s:ByteArray):List UInt8:=s.data.toList
theorem zaH (s:ByteArray):(bl s).length=s.size:=rfl
theorem zgg (s:ByteArray) (a b:Nat):bl (s.extract a b)=((bl s).drop a).take (b - a):=by
 unfold bl;rw[ByteArray.data_extract,Array.toList_extract]
theorem zdV (s:ByteArray) (i:Nat):byt s i=((bl s).getD i 0).toNat:=by
 unfold byt bl;by_cases h:i<s.size
 ·have e:s.get! i=s[i]'h:=by
   simp[ByteArray.get!,getElem!_pos,h];rfl
  have e2:(s.data.toList).getD i 0=s[i]'h:=by
   rw[List.getD_eq_getElem?_getD,List.getElem?_eq_getElem (by simpa using h)];rfl
  rw[e,e2]
 ·have e:s.get! i=0:=by
   have h2:¬i<s.data.size:=h;exact getElem!_neg s.data i h2
  have e2:(s.data.toList).getD i 0=0:=by
   rw[List.getD_eq_getElem?_getD,List.getElem?_eq_none (by simpa using Nat.le_of_not_lt h)];rfl
  rw[e,e2]
def pf (t pre:ByteArray):Bool:=decide (pre.size<=t.size)&&((t.extract 0 pre.size).toList==pre.toList)
theorem zcg (t pre:ByteArray) (ht:t.size<=2000) (hp:pre.size<=2000) (w:World):Calls prog 77 #[.string t,.string pre] w fun e w'=>e=.returned (.bool (pf t pre))/\w'=w:=by
 by_cases h:pre.size<=t.size
 ·have HP:Hid (pf t pre=((t.extract 0 pre.size).toList==pre.toList)):=by show _=_;unfold pf;rw[decide_eq_true h,Bool.true_and]
  go_enter func77,ntmps77;go_wp2;go_ret;exact⟨by rw[HP.out];rfl,rfl⟩
 ·have HP:Hid (pf t pre=false):=by show _=_;unfold pf;rw[decide_eq_false h,Bool.false_and]
  go_enter func77,ntmps77;go_wp2;go_ret;exact⟨by rw[HP.out];rfl,rfl⟩
theorem zhm (t pre:ByteArray):pf t pre=(bl pre).isPrefixOf (bl t):=by
 unfold pf;rw[Go.ByteArray.toList_eq,Go.ByteArray.toList_eq];show(decide ((bl pre).length<=(bl t).length)&&(bl (t.extract 0 pre.size)==bl pre))=_;rw[zgg,List.drop_zero,Nat.sub_zero,<-zaH pre,Bool.eq_iff_iff];simp only[Bool.and_eq_true,decide_eq_true_eq,beq_iff_eq,List.isPrefixOf_iff_prefix];constructor
 ·rintro⟨h1,h2⟩;rw[<-h2];exact List.take_prefix _ _
 ·intro h;exact⟨h.length_le,(List.prefix_iff_eq_take.1 h).symm⟩
theorem pf_mark (s:ByteArray) (p:Nat):pf (s.extract p s.size) ⟨#[239,191,189]⟩=decide (p+3<=s.size/\byt s p=239/\byt s (p+1)=191/\byt s (p+2)=189):=by
 have hb:∀k,byt s (p+k)=(((bl s).drop p).getD k 0).toNat:=fun k=>by
  rw[zdV,List.getD_eq_getElem?_getD,List.getD_eq_getElem?_getD,List.getElem?_drop]
 have h0:=hb 0;have h1:=hb 1;have h2:=hb 2;have hl:(bl s).length=s.size:=rfl;have hd:((bl s).drop p).length=s.size - p:=by rw[List.length_drop,hl]
 have ht:((bl s).drop p).take (s.size - p)=(bl s).drop p:=List.take_of_length_le (by omega);rw[zhm,zgg,ht,Bool.eq_iff_iff];rw[Nat.add_zero] at h0;rw[h0,h1,h2];show(([239,191,189]:List UInt8).isPrefixOf ((bl s).drop p)=true)↔_
 match hm:(bl s).drop p with
 |[]=>rw[hm] at hd;simp at hd⊢<;>omega
 |[a]=>rw[hm] at hd;simp at hd⊢<;>omega
 |[a,b]=>rw[hm] at hd;simp at hd⊢<;>omega
 |a::b::c::r=>
  rw[hm] at hd;simp only[List.length_cons] at hd;simp only[List.isPrefixOf,Bool.and_eq_true,beq_iff_eq,decide_eq_true_eq,List.getD_cons_zero,List.getD_cons_succ];constructor
  ·rintro⟨h1,h2,h3,_⟩;subst h1 h2 h3;exact⟨by omega,rfl,rfl,rfl⟩
  ·rintro⟨_,h1,h2,h3⟩;refine⟨?_, ?_, ?_,trivial⟩
   ·exact(UInt8.toNat_inj.1 h1).symm
   ·exact(UInt8.toNat_inj.1 h2).symm
   ·exact(UInt8.toNat_inj.1 h3).symm
theorem zoY (z i b0 b1 b2 b3:Nat) (h0:b0<256) (h1:b1<256) (h2:b2<256) (h3:b3<256):dec z i b0 b1 b2 b3=(65533,1)↔((dec z i b0 b1 b2 b3).1=65533/\¬(i+3<=z/\b0=239/\b1=191/\b2=189)):=by
 unfold dec
 repeat' split
 all_goals first
  |exact⟨fun _=>⟨rfl,by omega⟩,fun _=>rfl⟩
  |exact⟨fun h=>by injection h with h1 h2;omega,fun h=>by have h1:=h.1;have h2:=h.2;dsimp only at h1;exfalso;omega⟩
theorem nx_mark (s:ByteArray) (p:Nat):nx s p=0↔((Utf8.decode s p).1=65533/\pf (s.extract p s.size) ⟨#[239,191,189]⟩=false):=by
 have hd:=zoY s.size p (byt s p) (byt s (p+1)) (byt s (p+2)) (byt s (p+3)) (ZQ _ _) (ZQ _ _) (ZQ _ _) (ZQ _ _);rw[<-yT] at hd
 have hn:nx s p=0↔Utf8.decode s p=(65533,1):=by
  unfold nx;constructor
  ·intro h;by_cases e:Utf8.decode s p=(65533,1)
   ·exact e
   ·rw[if_neg e] at h;exfalso
    have hp:(dec s.size p (byt s p) (byt s (p+1)) (byt s (p+2)) (byt s (p+3))).2≠0:=by
     unfold dec
     repeat' split
     all_goals simp
    rw[<-yT] at hp;exact hp h
  ·intro h;rw[if_pos h]
 rw[hn,hd,pf_mark];simp only[decide_eq_false_iff_not]
theorem zbL (s:ByteArray) (p:Nat) (h:nx s p≠0):(Utf8.decode s p).2=nx s p:=by
 unfold nx at*;split at h
 ·exact absurd rfl h
 ·rename_i e;rw[if_neg e]
theorem wid_le (z i b0 b1 b2 b3:Nat) (hi:i<z):i+wid z i b0 b1 b2 b3<=z:=by
 unfold wid;split
 ·omega
 ·unfold dec
  repeat' split
  all_goals dsimp only
  all_goals omega
theorem zfo (s:ByteArray) (p:Nat) (hp:p<s.size) (h:nx s p≠0):p+nx s p<=s.size:=by
 rw[zcx];exact wid_le _ _ _ _ _ _ hp
def YW (s:ByteArray):Nat->Nat->Nat->Nat×Bool
 |0,_,k=>(k,true)
 |f+1,p,k=>if p<s.size then(if nx s p=0 then(k,false) else YW s f (p+nx s p) (k+1)) else(k,true)
def cnt (s:ByteArray):Nat×Bool:=YW s s.size 0 0
theorem ziM (s:ByteArray) (f p k:Nat) (h:¬p<s.size):YW s f p k=(k,true):=by
 cases f with
 |zero=>rfl
 |succ f=>simp[YW,h]
theorem zeZ {s:ByteArray} {f p k:Nat} {c:Nat×Bool} (hp:p<s.size) (h0:nx s p≠0) (hf:0<f) (h:YW s f p k=c):YW s (f - 1) (p+nx s p) (k+1)=c:=by
 obtain⟨g,rfl⟩:∃g,f=g+1:=⟨f - 1,by omega⟩;rw[<-h];simp[YW,hp,h0]
theorem zfQ (s:ByteArray) (hs:s.size<=2000) (w:World):Calls prog 50 #[.string s] w fun e w'=>e=.returned (.tuple #[.int .i64 ((cnt s).1:Int),.bool (cnt s).2])/\Below w.heap.size w w':=by
 go_enter func50,ntmps50;go_wp2
 go_loopw [4] (fun t4 wr=>∃p f k:Nat,wr=w.iter s p/\t4=.int .i64 k/\k<=p/\p<=s.size/\s.size<=p+f/\Hid (YW s f p k=cnt s)) (fun _ wr=>s.size - wr.iterPos w.heap.size)
 case atStart=>exact⟨0,s.size,0,rfl,rfl,by omega,by omega,by omega,rfl⟩
 case round=>
  obtain⟨p,f,k,rfl,rfl,hk,hps,hf,HC⟩:=hrel;by_cases hp:p<s.size
  ·have hnx:∀ty,(Instr.next (.pointer (some ⟨w.heap.size,0,none⟩)) true ty).run prog (w.iter s p)=_:=fun ty=>run_next_any w s p ty hp
   have hsl:(s.extract p s.size).size<=2000:=by rw[ByteArray.size_extract];omega
   have hr:0<=(Utf8.decode s p).1:=Nat.zero_le _;have hle:=decode_le s p;have hm:=nx_mark s p;by_cases h1:(Utf8.decode s p).1=65533
   ·cases h2:pf (s.extract p s.size) ⟨#[239,191,189]⟩
    ·have h0:nx s p=0:=hm.2 ⟨h1,h2⟩
     have HR:Hid (cnt s=(k,false)):=by
      show _=_;rw[<-HC.out];obtain⟨g,rfl⟩:∃g,f=g+1:=⟨f - 1,by omega⟩;simp[YW,hp,h0]
     have hpre:∀w,Calls prog 77 #[.string (s.extract p s.size),.string ⟨#[239,191,189]⟩] w fun e w'=>e=.returned (.bool false)/\w'=w:=fun w=>by have h:=zcg (s.extract p s.size) ⟨#[239,191,189]⟩ hsl (by decide) w;rw[h2] at h;exact h
     have HP:Hid (∀w,Calls prog 77 #[.string (s.extract p s.size),.string ⟨#[239,191,189]⟩] w fun e w'=>e=.returned (.bool false)/\w'=w):=hpre;clear hpre hm h0 h2 hle hr;rw[h1] at hnx;clear h1;go_wp2_with fail
     refine(HP.out _).mono ?_;rintro e w' ⟨rfl,rfl⟩;go_wp2;go_ret2;exact⟨by rw[HR.out];rfl,bal (Below.refl _ _) _⟩
    ·have h0:nx s p≠0:=fun h=>by have:=(hm.1 h).2;rw[h2] at this;cases this
     have hpre:∀w,Calls prog 77 #[.string (s.extract p s.size),.string ⟨#[239,191,189]⟩] w fun e w'=>e=.returned (.bool true)/\w'=w:=fun w=>by have h:=zcg (s.extract p s.size) ⟨#[239,191,189]⟩ hsl (by decide) w;rw[h2] at h;exact h
     have HP:Hid (∀w,Calls prog 77 #[.string (s.extract p s.size),.string ⟨#[239,191,189]⟩] w fun e w'=>e=.returned (.bool true)/\w'=w):=hpre;have HS:Hid (YW s (f - 1) (p+nx s p) (k+1)=cnt s):=zeZ hp h0 (by omega) HC.out;rw[h1,zbL s p h0] at hnx;have hle2:p+nx s p<=s.size:=zfo s p hp h0;have hpos:0<nx s p:=Nat.pos_of_ne_zero h0;clear hpre hm h0 h2 hle hr h1;generalize nx s p=n at*;go_wp2_with fail
     refine(HP.out _).mono ?_;rintro e w' ⟨rfl,rfl⟩;go_wp2
     go_roundw
     case rel=>exact⟨p+n,f - 1,k+1,rfl,by go_num,by omega,hle2,by omega,HS⟩
     case measure=>simp;omega
   ·have h0:nx s p≠0:=fun h=>h1 (hm.1 h).1
    have HS:Hid (YW s (f - 1) (p+nx s p) (k+1)=cnt s):=zeZ hp h0 (by omega) HC.out;rw[zbL s p h0] at hnx;have hle2:p+nx s p<=s.size:=zfo s p hp h0;have hpos:0<nx s p:=Nat.pos_of_ne_zero h0;have hd:(((Utf8.decode s p).1:Int)==65533)=false:=by simp;omega
    clear hm h0 hle hr h1;generalize nx s p=n at*;generalize(Utf8.decode s p).1=r at*;go_wp2
    go_roundw
    case rel=>exact⟨p+n,f - 1,k+1,rfl,by go_num,by omega,hle2,by omega,HS⟩
    case measure=>simp;omega
  ·have HR:Hid (cnt s=(k,true)):=by show _=_;rw[<-HC.out,ziM s f p k hp]
   have hnx:∀ty,(Instr.next (.pointer (some ⟨w.heap.size,0,none⟩)) true ty).run prog (w.iter s p)=_:=fun ty=>run_next_end w s p ty hp
   go_wp2;go_ret2;exact⟨by rw[HR.out];rfl,bal (Below.refl _ _) _⟩
def ziG (s:ByteArray) (p:Nat):Bool:=decide (nx s p=0\/(nx s p=1/\(byt s p<97\/122<byt s p)))
def nmF (s:ByteArray):Nat->Nat->Nat->Bool
 |0,_,k=>decide (0<k/\k<11)
 |f+1,p,k=>if p<s.size then(if ziG s p then false else nmF s f (p+nx s p) (k+1)) else decide (0<k/\k<11)
def nm (s:ByteArray):Bool:=nmF s s.size 0 0
theorem nmF_end (s:ByteArray) (f p k:Nat) (h:¬p<s.size):nmF s f p k=decide (0<k/\k<11):=by
 cases f with
 |zero=>rfl
 |succ f=>simp[nmF,h]
theorem nm_step {s:ByteArray} {f p k:Nat} {c:Bool} (hp:p<s.size) (h0:ziG s p=false) (hf:0<f) (h:nmF s f p k=c):nmF s (f - 1) (p+nx s p) (k+1)=c:=by
 obtain⟨g,rfl⟩:∃g,f=g+1:=⟨f - 1,by omega⟩;rw[<-h];simp[nmF,hp,h0]
theorem nm_no {s:ByteArray} {f p k:Nat} {c:Bool} (hp:p<s.size) (h0:ziG s p=true) (hf:0<f) (h:nmF s f p k=c):c=false:=by
 obtain⟨g,rfl⟩:∃g,f=g+1:=⟨f - 1,by omega⟩;rw[<-h];simp[nmF,hp,h0]
theorem zeC {s:ByteArray} {f p k:Nat} (hp:p<s.size) (hf:0<f) (h:(YW s f p k).2=true):nx s p≠0/\(YW s (f - 1) (p+nx s p) (k+1)).2=true:=by
 obtain⟨g,rfl⟩:∃g,f=g+1:=⟨f - 1,by omega⟩;by_cases h0:nx s p=0
 ·simp[YW,hp,h0] at h
 ·refine⟨h0, ?_⟩;simp only[YW,if_pos hp,if_neg h0] at h;exact h
theorem zgB (z i b0 b1 b2 b3:Nat):(dec z i b0 b1 b2 b3).1<=127↔b0<128:=by
 unfold dec
 repeat' split
 all_goals dsimp only
 all_goals omega
theorem zlG (z i b0 b1 b2 b3:Nat) (h:b0<128):dec z i b0 b1 b2 b3=(b0,1):=by unfold dec;rw[if_pos h]
theorem zfZ (s:ByteArray) (p:Nat) (h0:nx s p≠0):((Utf8.decode s p).1<=127↔nx s p=1)/\(nx s p=1->(Utf8.decode s p).1=byt s p):=by
 have hd:=zgB s.size p (byt s p) (byt s (p+1)) (byt s (p+2)) (byt s (p+3));rw[<-yT] at hd;have hone:byt s p<128->Utf8.decode s p=(byt s p,1):=fun h=>by rw[yT,zlG _ _ _ _ _ _ h]
 have hw:=zcx s p
 have hbig:¬byt s p<128->nx s p≠1:=fun h e=>by
  rw[hw] at e;unfold wid dec at e;rw[if_neg h] at e;revert e
  repeat' split
  all_goals first|(simp;done)|(exfalso;rename_i h9;exact h9 rfl)
 constructor
 ·rw[hd];constructor
  ·intro h;rw[<-zbL s p h0,hone h]
  ·intro e;by_cases h:byt s p<128
   ·exact h
   ·exact absurd e (hbig h)
 ·intro e;by_cases h:byt s p<128
  ·rw[hone h]
  ·exact absurd e (hbig h)
theorem zem (s:ByteArray) (hs:s.size<=2000) (hv:Hid ((cnt s).2=true)) (w:World):Calls prog 141 #[.string s] w fun e w'=>e=.returned (.bool (nm s))/\Below w.heap.size w w':=by
 go_enter func141,ntmps141;go_wp2
 go_loopw [3] (fun t3 wr=>∃p f k:Nat,wr=w.iter s p/\t3=.int .i64 k/\k<=p/\p<=s.size/\s.size<=p+f/\Hid (nmF s f p k=nm s)/\Hid ((YW s f p k).2=true)) (fun _ wr=>s.size - wr.iterPos w.heap.size)
 case atStart=>exact⟨0,s.size,0,rfl,rfl,by omega,by omega,by omega,rfl,hv⟩
 case round=>
  obtain⟨p,f,k,rfl,rfl,hk,hps,hf,HC,HV⟩:=hrel;by_cases hp:p<s.size
  ·have hnx:∀ty,(Instr.next (.pointer (some ⟨w.heap.size,0,none⟩)) true ty).run prog (w.iter s p)=_:=fun ty=>run_next_any w s p ty hp
   obtain⟨h0,hv2⟩:=zeC hp (by omega) HV.out;obtain⟨hr1,hr2⟩:=zfZ s p h0;have hle:=zfo s p hp h0;have hpos:0<nx s p:=Nat.pos_of_ne_zero h0;rw[zbL s p h0] at hnx;have HV2:Hid ((YW s (f - 1) (p+nx s p) (k+1)).2=true):=hv2;have hu:ziG s p=decide (nx s p=0\/(nx s p=1/\(byt s p<97\/122<byt s p))):=rfl;cases hc:ziG s p
   ·have HS:Hid (nmF s (f - 1) (p+nx s p) (k+1)=nm s):=nm_step hp hc (by omega) HC.out;have hno:¬(nx s p=1/\(byt s p<97\/122<byt s p)):=fun h=>by rw[hc] at hu;exact(of_decide_eq_false hu.symm) (Or.inr h)
    have hcase:((Utf8.decode s p).1<=127/\¬(Utf8.decode s p).1<97/\¬122<(Utf8.decode s p).1)\/¬(Utf8.decode s p).1<=127:=by
     by_cases h:(Utf8.decode s p).1<=127
     ·have h1:=hr1.1 h;have h2:=hr2 h1;refine Or.inl ⟨h, ?_, ?_⟩
      ·rw[h2];exact fun h=>hno ⟨h1,Or.inl h⟩
      ·rw[h2];exact fun h=>hno ⟨h1,Or.inr h⟩
     ·exact Or.inr h
    clear hu hc hr1 hr2 hno h0 hv2;generalize nx s p=n at*;generalize(Utf8.decode s p).1=r at*;rcases hcase with⟨h1,h2,h3⟩|h1
    ·go_wp2
     go_roundw
     case rel=>exact⟨p+n,f - 1,k+1,rfl,by go_num,by omega,hle,by omega,HS,HV2⟩
     case measure=>simp;omega
    ·go_wp2
     go_roundw
     case rel=>exact⟨p+n,f - 1,k+1,rfl,by go_num,by omega,hle,by omega,HS,HV2⟩
     case measure=>simp;omega
   ·have HR:Hid (nm s=false):=nm_no hp hc (by omega) HC.out;have hyes:nx s p=0\/(nx s p=1/\(byt s p<97\/122<byt s p)):=by rw[hc] at hu;exact of_decide_eq_true hu.symm
    have hcase:(Utf8.decode s p).1<=127/\((Utf8.decode s p).1<97\/(¬(Utf8.decode s p).1<97/\122<(Utf8.decode s p).1)):=by
     rcases hyes with h|⟨h1,h2⟩
     ·exact absurd h h0
     ·rw[hr2 h1];have h3:=hr1.2 h1;rw[hr2 h1] at h3;exact⟨h3,by omega⟩
    clear hu hc hr1 hr2 hyes h0 hv2;generalize nx s p=n at*;generalize(Utf8.decode s p).1=r at*;obtain⟨h1,h2|⟨h2,h3⟩⟩:=hcase
    ·go_wp2;go_ret;exact⟨by rw[HR.out];rfl,bal (Below.refl _ _) _⟩
    ·go_wp2;go_ret;exact⟨by rw[HR.out];rfl,bal (Below.refl _ _) _⟩
  ·have HR:Hid (nm s=decide (0<k/\k<11)):=by show _=_;rw[<-HC.out,nmF_end s f p k hp]
   have hnx:∀ty,(Instr.next (.pointer (some ⟨w.heap.size,0,none⟩)) true ty).run prog (w.iter s p)=_:=fun ty=>run_next_end w s p ty hp
   by_cases h1:0<k
   ·by_cases h2:k<11
    ·have HR2:Hid (nm s=true):=HR.out.trans (decide_eq_true ⟨h1,h2⟩);have hd1:decide ((k:Int)<11)=true:=by simp;omega
     have hd2:decide ((k:Int)<=10)=true:=by simp;omega
     go_wp2;go_ret;exact⟨by rw[HR2.out];rfl,bal (Below.refl _ _) _⟩
    ·have HR2:Hid (nm s=false):=HR.out.trans (decide_eq_false (fun h=>h2 h.2));have hd1:decide ((k:Int)<11)=false:=by simp;omega
     have hd2:decide ((k:Int)<=10)=false:=by simp;omega
     go_wp2;go_ret;exact⟨by rw[HR2.out];rfl,bal (Below.refl _ _) _⟩
   ·have HR2:Hid (nm s=false):=HR.out.trans (decide_eq_false (fun h=>h1 h.1));go_wp2;go_ret;exact⟨by rw[HR2.out];rfl,bal (Below.refl _ _) _⟩
structure SS (w:World) (a b:Nat) (x:World):Prop where
 ra:x.rowIs w.heap.size 24 4 (zo (za a))
 rb:x.rowIs (w.heap.size+1) 24 4 (zo (za b))
 rz:x.rowIs (w.heap.size+1+1) 24 4 (zo fun _=>0)
 be:Below w.heap.size w x
theorem SS.drew {w:World} {a b:Nat} {x:World} (h:SS w a b x):SS w a b x.drew:=⟨h.ra,h.rb,h.rz,h.be.drew⟩
theorem SS.alloc {w:World} {a b:Nat} {x:World} (h:SS w a b x) (o:Obj):SS w a b (x.alloc o):=⟨h.ra.alloc _,h.rb.alloc _,h.rz.alloc _,bal h.be _⟩
theorem SS.call {w:World} {a b:Nat} {x y:World} (h:SS w a b x) (hb:Below x.heap.size x y):SS w a b y:=⟨zg h.ra hb,zg h.rb hb,zg h.rz hb,zX h.be hb⟩
theorem SS.set {w:World} {a b:Nat} {x:World} (h:SS w a b x) {p:Addr} (hp:w.heap.size+1+1<p.block) (v:Value):SS w a b (x.setCell p v):=
 ⟨h.ra.setOther (by omega) _,h.rb.setOther (by omega) _,h.rz.setOther (by omega) _,h.be.setCell (by omega) _⟩
theorem SS.start (w:World) (a b:Nat):SS w a b (((w.alloc (.cells #[.int .u64 (za a 0),.int .u64 (za a 1),.int .u64 (za a 2),.int .u64 (za a 3)] 24)).alloc (.cells #[.int .u64 (za b 0),.int .u64 (za b 1),.int .u64 (za b 2),.int .u64 (za b 3)] 24)).alloc (.cells #[.int .u64 0,.int .u64 0,.int .u64 0,.int .u64 0] 24)):=
 ⟨zk (za a) rfl rfl rfl rfl rfl |>.alloc _ |>.alloc _,zk (za b) (by simp) rfl rfl rfl rfl |>.alloc _,zk (fun _=>0) (by simp) rfl rfl rfl rfl,bal (bal (bal (Below.refl _ _) _) _) _⟩
theorem i11 {i:Nat} (h:i<11):i=0\/i=1\/i=2\/i=3\/i=4\/i=5\/i=6\/i=7\/i=8\/i=9\/i=10:=by omega
def Fdiv (N a am b q r:Nat):Nat->Act->World->Prop
 |0,s,_=>s.tmps.getD 8 undef=wv a
 |1,s,_=>s.tmps.getD 9 undef=wv8 am
 |2,s,_=>s.tmps.getD 10 undef=wv b
 |3,s,_=>s.tmps.getD 11 undef=.tuple #[wv8 q,wv r]
 |4,s,_=>s.tmps.getD 7 undef=.tuple #[wv8 q,wv r]
 |5,s,_=>s.tmps.getD 12 undef=wv8 q
 |6,s,_=>s.tmps.getD 13 undef=wv r
 |7,s,x=>∃(p:Nat) (f:Nat->Int),s.tmps.getD 5 undef=.pointer (some ⟨p,0,none⟩)/\x.rowIs p 224 8 (zo f)/\N<p
 |8,s,x=>∃(p:Nat) (f:Nat->Int),s.tmps.getD 6 undef=.pointer (some ⟨p,0,none⟩)/\x.rowIs p 24 4 (zo f)/\N<p
 |9,s,x=>∃p:Nat,s.tmps.getD 5 undef=.pointer (some ⟨p,0,none⟩)/\x.rowIs p 224 8 (zo (za q))/\N<p
 |10,s,x=>∃p:Nat,s.tmps.getD 6 undef=.pointer (some ⟨p,0,none⟩)/\x.rowIs p 24 4 (zo (za r))/\N<p
 |_,_,_=>True
theorem zaX (N a am b q r j:Nat) (h:11<=j) (s:Act) (x:World):Fdiv N a am b q r j s x:=by
 match j,h with
 |j+11,_=>trivial
theorem YP {x:World} {p p':Nat} {t t':TypeId} {n n':Nat} {f f':Nat->Value} (h:x.rowIs p t n f) (h':x.rowIs p' t' n' f') (ht:t≠t'):p≠p':=by
 rintro rfl;obtain⟨c,hb,_,_⟩:=h;obtain⟨c',hb',_,_⟩:=h';rw[hb] at hb';injection hb' with e
 injection e with _ e2
 exact ht e2
def Gdiv (w:World) (a b:Nat) (s:Act) (x:World):Prop:=∃s5 s6 s7 s8 s9 s10 s11 s12 s13:Value,
 s=⟨#[wv a,wv b,.pointer (some ⟨w.heap.size,0,none⟩),.pointer (some ⟨w.heap.size+1,0,none⟩),.pointer (some ⟨w.heap.size+1+1,0,none⟩),s5,s6,s7,s8,s9,s10,s11,s12,s13,undef,undef],[]⟩/\SS w a b x
def Gmod (w:World) (a b:Nat) (s:Act) (x:World):Prop:=∃s5 s6 s7 s8 s9 s10 s11 s12 s13:Value,
 s=⟨#[wv a,wv b,.pointer (some ⟨w.heap.size,0,none⟩),.pointer (some ⟨w.heap.size+1,0,none⟩),.pointer (some ⟨w.heap.size+1+1,0,none⟩),s5,s6,s7,s8,s9,s10,s11,s12,s13,undef],[]⟩/\SS w a b x
theorem zmg (a b:Nat) (w:World):Calls prog 100 #[wv a,wv b] w (Ret w (zgn (a%M) (b%M))):=by
 obtain⟨am,HA⟩:∃am,Hid (am=a%M):=⟨_,rfl⟩;obtain⟨q,HQ⟩:∃q,Hid (q=am/(b%M)):=⟨_,rfl⟩;obtain⟨r,HR⟩:∃r,Hid (r=zbr am (b%M)):=⟨_,rfl⟩;have hS:=SS.start w a b;go_enter func100,ntmps100;go_wp2;refine ZJ (by kernel_rfl) (Gdiv w a b) (Fdiv (w.heap.size+1+1) a am b q r) (YI (by kernel_rfl)) ?_ ?_ ?_
 ·exact⟨_,_,_,_,_,_,_,_,_,rfl,hS.drew⟩
 ·intro i o ho s x hG hdep;clear hS;obtain⟨s5,s6,s7,s8,s9,s10,s11,s12,s13,rfl,hs⟩:=hG;have hi:i<11:=(Array.getElem?_eq_some_iff.1 ho).1;rcases i11 hi with rfl|rfl|rfl|rfl|rfl|rfl|rfl|rfl|rfl|rfl|rfl;obtain rfl:=sj ho;refine wpOp_step rfl fun K hK=> ?_
  obtain⟨y0,y1,y2,y3⟩:=ze hs.ra;go_simp;refine hK _ _ ⟨⟨_,_,_,_,_,_,_,_,_,rfl,hs⟩,rfl,fun j hj hd hF=> ?_⟩;rotate_left;obtain rfl:=sj ho;refine wpOp_step rfl fun K hK=> ?_
  have h0:s8=wv a:=hdep ⟨0,.data⟩ (by simp) rfl;subst h0;go_simp;refine(zl6 a _).mono ?_;rintro e y ⟨rr,HRR,rfl,hb⟩;obtain rfl:rr=am:=HRR.out.trans HA.out.symm;dsimp only;refine hK _ _ ⟨⟨_,_,_,_,_,_,_,_,_,rfl,hs.call hb⟩,rfl,fun j hj hd hF=> ?_⟩;rotate_left;obtain rfl:=sj ho;refine wpOp_step rfl fun K hK=> ?_
  obtain⟨y0,y1,y2,y3⟩:=ze hs.rb;go_simp;refine hK _ _ ⟨⟨_,_,_,_,_,_,_,_,_,rfl,hs⟩,rfl,fun j hj hd hF=> ?_⟩;rotate_left;obtain rfl:=sj ho;refine wpOp_step rfl fun K hK=> ?_
  have h0:s9=wv8 am:=hdep ⟨1,.data⟩ (by simp) rfl;have h2:s10=wv b:=hdep ⟨2,.data⟩ (by simp) rfl;subst h0 h2;go_simp;refine(zbY am b (by rw[HA.out];exact lt512 a) _).mono ?_;rintro e y ⟨qq,rr,HQQ,HRR,rfl,hb⟩;obtain rfl:qq=q:=HQQ.out.trans HQ.out.symm;obtain rfl:rr=r:=HRR.out.trans HR.out.symm;dsimp only;refine hK _ _ ⟨⟨_,_,_,_,_,_,_,_,_,rfl,hs.call hb⟩,rfl,fun j hj hd hF=> ?_⟩;rotate_left;obtain rfl:=sj ho;refine wpOp_step rfl fun K hK=> ?_
  have h0:s11=.tuple #[wv8 q,wv r]:=hdep ⟨3,.data⟩ (by simp) rfl;subst h0;go_simp;refine hK _ _ ⟨⟨_,_,_,_,_,_,_,_,_,rfl,hs⟩,rfl,fun j hj hd hF=> ?_⟩;rotate_left;obtain rfl:=sj ho;refine wpOp_step rfl fun K hK=> ?_
  have h0:s7=.tuple #[wv8 q,wv r]:=hdep ⟨4,.data⟩ (by simp) rfl;subst h0;go_simp;refine hK _ _ ⟨⟨_,_,_,_,_,_,_,_,_,rfl,hs⟩,rfl,fun j hj hd hF=> ?_⟩;rotate_left;obtain rfl:=sj ho;refine wpOp_step rfl fun K hK=> ?_
  have h0:s7=.tuple #[wv8 q,wv r]:=hdep ⟨4,.data⟩ (by simp) rfl;subst h0;go_simp;refine hK _ _ ⟨⟨_,_,_,_,_,_,_,_,_,rfl,hs⟩,rfl,fun j hj hd hF=> ?_⟩;rotate_left;obtain rfl:=sj ho;refine wpOp_step rfl fun K hK=> ?_
  have zz:=hs.rz.lt;go_simp;refine hK _ _ ⟨⟨_,_,_,_,_,_,_,_,_,rfl,hs.alloc _⟩,⟨_,fun _=>0,rfl,YO _ rfl rfl rfl rfl rfl rfl rfl rfl rfl,zz⟩,fun j hj hd hF=> ?_⟩;rotate_left;obtain rfl:=sj ho;refine wpOp_step rfl fun K hK=> ?_
  have zz:=hs.rz.lt;go_simp;refine hK _ _ ⟨⟨_,_,_,_,_,_,_,_,_,rfl,hs.alloc _⟩,⟨_,fun _=>0,rfl,zk _ rfl rfl rfl rfl rfl,zz⟩,fun j hj hd hF=> ?_⟩;rotate_left
  ·obtain rfl:=sj ho;refine wpOp_step rfl fun K hK=> ?_
   have h7:∃(p:Nat) (f:Nat->Int),s5=.pointer (some ⟨p,0,none⟩)/\x.rowIs p 224 8 (zo f)/\w.heap.size+1+1<p:=hdep ⟨7,.data⟩ (by simp) rfl;have h0:s12=wv8 q:=hdep ⟨5,.data⟩ (by simp) rfl;obtain⟨p5,f5,rfl,hr5,hl5⟩:=h7;subst h0;obtain⟨y0,y1,y2,y3,y4,y5,y6,y7⟩:=yh hr5;have fz:=hr5.frozen;go_simp;refine hK _ _ ⟨⟨_,_,_,_,_,_,_,_,_,rfl,((((((((hs.set hl5 _).set hl5 _).set hl5 _).set hl5 _).set hl5 _).set hl5 _).set hl5 _).set hl5 _)⟩,⟨p5,rfl,zar hr5 (za q),hl5⟩,fun j hj hd hF=> ?_⟩
   ·rcases Nat.lt_or_ge j 11 with hj11|hj11
    ·rcases i11 hj11 with rfl|rfl|rfl|rfl|rfl|rfl|rfl|rfl|rfl|rfl|rfl
     ·have h:s8=wv a:=hF;exact h
     ·have h:s9=wv8 am:=hF;exact h
     ·have h:s10=wv b:=hF;exact h
     ·have h:s11=.tuple #[wv8 q,wv r]:=hF;exact h
     ·have h:s7=.tuple #[wv8 q,wv r]:=hF;exact h
     ·exact(rfl:wv8 q=wv8 q)
     ·have h:s13=wv r:=hF;exact h
     ·exact⟨p5,za q,rfl,zar hr5 (za q),hl5⟩
     ·obtain⟨p,f,h1,h2,h3⟩:=hF;exact⟨p,f,h1,Yz h2 (YP h2 hr5 (by decide)) _ _ _ _ _ _ _ _,h3⟩
     ·exact absurd rfl hj
     ·obtain⟨p,h1,h2,h3⟩:=hF;exact⟨p,h1,Yz h2 (YP h2 hr5 (by decide)) _ _ _ _ _ _ _ _,h3⟩
    ·exact zaX _ _ _ _ _ _ _ hj11 _ _
  ·obtain rfl:=sj ho;refine wpOp_step rfl fun K hK=> ?_
   have h8:∃(p:Nat) (f:Nat->Int),s6=.pointer (some ⟨p,0,none⟩)/\x.rowIs p 24 4 (zo f)/\w.heap.size+1+1<p:=hdep ⟨8,.data⟩ (by simp) rfl;have h0:s13=wv r:=hdep ⟨6,.data⟩ (by simp) rfl;obtain⟨p6,f6,rfl,hr6,hl6⟩:=h8;subst h0;obtain⟨y0,y1,y2,y3⟩:=ze hr6;have fz:=hr6.frozen;go_simp;refine hK _ _ ⟨⟨_,_,_,_,_,_,_,_,_,rfl,((((hs.set hl6 _).set hl6 _).set hl6 _).set hl6 _)⟩,⟨p6,rfl,zx hr6 (za r) rfl rfl rfl rfl,hl6⟩,fun j hj hd hF=> ?_⟩
   ·rcases Nat.lt_or_ge j 11 with hj11|hj11
    ·rcases i11 hj11 with rfl|rfl|rfl|rfl|rfl|rfl|rfl|rfl|rfl|rfl|rfl
     ·have h:s8=wv a:=hF;exact h
     ·have h:s9=wv8 am:=hF;exact h
     ·have h:s10=wv b:=hF;exact h
     ·have h:s11=.tuple #[wv8 q,wv r]:=hF;exact h
     ·have h:s7=.tuple #[wv8 q,wv r]:=hF;exact h
     ·have h:s12=wv8 q:=hF;exact h
     ·exact(rfl:wv r=wv r)
     ·obtain⟨p,f,h1,h2,h3⟩:=hF;exact⟨p,f,h1,zU h2 (YP h2 hr6 (by decide)) _ _ _ _,h3⟩
     ·exact⟨p6,za r,rfl,zx hr6 (za r) rfl rfl rfl rfl,hl6⟩
     ·obtain⟨p,h1,h2,h3⟩:=hF;exact⟨p,h1,zU h2 (YP h2 hr6 (by decide)) _ _ _ _,h3⟩
     ·exact absurd rfl hj
    ·exact zaX _ _ _ _ _ _ _ hj11 _ _
  all_goals
   rcases Nat.lt_or_ge j 11 with hj11|hj11
   ·rcases i11 hj11 with rfl|rfl|rfl|rfl|rfl|rfl|rfl|rfl|rfl|rfl|rfl
    all_goals first
     |exact absurd rfl hj
     |exact hF
     |(obtain⟨p,f,h1,h2,h3⟩:=hF;exact⟨p,f,h1,h2,h3⟩)
     |(obtain⟨p,h1,h2,h3⟩:=hF;exact⟨p,h1,h2,h3⟩)
     |(obtain⟨p,f,h1,h2,h3⟩:=hF;exact⟨p,f,h1,zg h2 hb,h3⟩)
     |(obtain⟨p,h1,h2,h3⟩:=hF;exact⟨p,h1,zg h2 hb,h3⟩)
     |(obtain⟨p,f,h1,h2,h3⟩:=hF;exact⟨p,f,h1,h2.alloc _,h3⟩)
     |(obtain⟨p,h1,h2,h3⟩:=hF;exact⟨p,h1,h2.alloc _,h3⟩)
     |(exfalso;revert hd;exact of_decide_eq_true (by kernel_rfl))
   ·exact zaX _ _ _ _ _ _ _ hj11 _ _
 ·intro s x hG hF;clear hS;obtain⟨s5,s6,s7,s8,s9,s10,s11,s12,s13,rfl,hs⟩:=hG;obtain⟨p,rfl,hr,hl⟩:∃p:Nat,s5=.pointer (some ⟨p,0,none⟩)/\x.rowIs p 224 8 (zo (za q))/\w.heap.size+1+1<p:=hF 9 (by decide);clear hF;obtain⟨y0,y1,y2,y3,y4,y5,y6,y7⟩:=yh hr;go_wp2_with fail
  refine(low_w q _).mono ?_;rintro e w2 ⟨rfl,hb⟩;have hrz:=zg hs.rz hb;have hbel:=zX hs.be hb;have z:=hrz.lt;have z':=hbel.size;obtain⟨x0,x1,x2,x3⟩:=ze hrz;have fz:=hrz.frozen;clear hb;go_wp2;obtain⟨q0,q1,q2,q3⟩:=ze (zx hrz (za q) rfl rfl rfl rfl);refine bodyPost_ret (v:=wv q) (by simp[results,results100,go_sem,q0,q1,q2,q3,z]) rfl (Zt (by rw[HQ.out,HA.out];rfl) ?_);exact zB hbel (by omega) _ _ _ _
theorem zmt (a b:Nat) (w:World):Calls prog 102 #[wv a,wv b] w (Ret w (zbr (a%M) (b%M))):=by
 obtain⟨am,HA⟩:∃am,Hid (am=a%M):=⟨_,rfl⟩;obtain⟨q,HQ⟩:∃q,Hid (q=am/(b%M)):=⟨_,rfl⟩;obtain⟨r,HR⟩:∃r,Hid (r=zbr am (b%M)):=⟨_,rfl⟩;have hS:=SS.start w a b;go_enter func102,ntmps102;go_wp2;refine ZJ (by kernel_rfl) (Gmod w a b) (Fdiv (w.heap.size+1+1) a am b q r) (YI (by kernel_rfl)) ?_ ?_ ?_
 ·exact⟨_,_,_,_,_,_,_,_,_,rfl,hS.drew⟩
 ·intro i o ho s x hG hdep;clear hS;obtain⟨s5,s6,s7,s8,s9,s10,s11,s12,s13,rfl,hs⟩:=hG;have hi:i<11:=(Array.getElem?_eq_some_iff.1 ho).1;rcases i11 hi with rfl|rfl|rfl|rfl|rfl|rfl|rfl|rfl|rfl|rfl|rfl;obtain rfl:=sj ho;refine wpOp_step rfl fun K hK=> ?_
  obtain⟨y0,y1,y2,y3⟩:=ze hs.ra;go_simp;refine hK _ _ ⟨⟨_,_,_,_,_,_,_,_,_,rfl,hs⟩,rfl,fun j hj hd hF=> ?_⟩;rotate_left;obtain rfl:=sj ho;refine wpOp_step rfl fun K hK=> ?_
  have h0:s8=wv a:=hdep ⟨0,.data⟩ (by simp) rfl;subst h0;go_simp;refine(zl6 a _).mono ?_;rintro e y ⟨rr,HRR,rfl,hb⟩;obtain rfl:rr=am:=HRR.out.trans HA.out.symm;dsimp only;refine hK _ _ ⟨⟨_,_,_,_,_,_,_,_,_,rfl,hs.call hb⟩,rfl,fun j hj hd hF=> ?_⟩;rotate_left;obtain rfl:=sj ho;refine wpOp_step rfl fun K hK=> ?_
  obtain⟨y0,y1,y2,y3⟩:=ze hs.rb;go_simp;refine hK _ _ ⟨⟨_,_,_,_,_,_,_,_,_,rfl,hs⟩,rfl,fun j hj hd hF=> ?_⟩;rotate_left;obtain rfl:=sj ho;refine wpOp_step rfl fun K hK=> ?_
  have h0:s9=wv8 am:=hdep ⟨1,.data⟩ (by simp) rfl;have h2:s10=wv b:=hdep ⟨2,.data⟩ (by simp) rfl;subst h0 h2;go_simp;refine(zbY am b (by rw[HA.out];exact lt512 a) _).mono ?_;rintro e y ⟨qq,rr,HQQ,HRR,rfl,hb⟩;obtain rfl:qq=q:=HQQ.out.trans HQ.out.symm;obtain rfl:rr=r:=HRR.out.trans HR.out.symm;dsimp only;refine hK _ _ ⟨⟨_,_,_,_,_,_,_,_,_,rfl,hs.call hb⟩,rfl,fun j hj hd hF=> ?_⟩;rotate_left;obtain rfl:=sj ho;refine wpOp_step rfl fun K hK=> ?_
  have h0:s11=.tuple #[wv8 q,wv r]:=hdep ⟨3,.data⟩ (by simp) rfl;subst h0;go_simp;refine hK _ _ ⟨⟨_,_,_,_,_,_,_,_,_,rfl,hs⟩,rfl,fun j hj hd hF=> ?_⟩;rotate_left;obtain rfl:=sj ho;refine wpOp_step rfl fun K hK=> ?_
  have h0:s7=.tuple #[wv8 q,wv r]:=hdep ⟨4,.data⟩ (by simp) rfl;subst h0;go_simp;refine hK _ _ ⟨⟨_,_,_,_,_,_,_,_,_,rfl,hs⟩,rfl,fun j hj hd hF=> ?_⟩;rotate_left;obtain rfl:=sj ho;refine wpOp_step rfl fun K hK=> ?_
  have h0:s7=.tuple #[wv8 q,wv r]:=hdep ⟨4,.data⟩ (by simp) rfl;subst h0;go_simp;refine hK _ _ ⟨⟨_,_,_,_,_,_,_,_,_,rfl,hs⟩,rfl,fun j hj hd hF=> ?_⟩;rotate_left;obtain rfl:=sj ho;refine wpOp_step rfl fun K hK=> ?_
  have zz:=hs.rz.lt;go_simp;refine hK _ _ ⟨⟨_,_,_,_,_,_,_,_,_,rfl,hs.alloc _⟩,⟨_,fun _=>0,rfl,YO _ rfl rfl rfl rfl rfl rfl rfl rfl rfl,zz⟩,fun j hj hd hF=> ?_⟩;rotate_left;obtain rfl:=sj ho;refine wpOp_step rfl fun K hK=> ?_
  have zz:=hs.rz.lt;go_simp;refine hK _ _ ⟨⟨_,_,_,_,_,_,_,_,_,rfl,hs.alloc _⟩,⟨_,fun _=>0,rfl,zk _ rfl rfl rfl rfl rfl,zz⟩,fun j hj hd hF=> ?_⟩;rotate_left
  ·obtain rfl:=sj ho;refine wpOp_step rfl fun K hK=> ?_
   have h7:∃(p:Nat) (f:Nat->Int),s5=.pointer (some ⟨p,0,none⟩)/\x.rowIs p 224 8 (zo f)/\w.heap.size+1+1<p:=hdep ⟨7,.data⟩ (by simp) rfl;have h0:s12=wv8 q:=hdep ⟨5,.data⟩ (by simp) rfl;obtain⟨p5,f5,rfl,hr5,hl5⟩:=h7;subst h0;obtain⟨y0,y1,y2,y3,y4,y5,y6,y7⟩:=yh hr5;have fz:=hr5.frozen;go_simp;refine hK _ _ ⟨⟨_,_,_,_,_,_,_,_,_,rfl,((((((((hs.set hl5 _).set hl5 _).set hl5 _).set hl5 _).set hl5 _).set hl5 _).set hl5 _).set hl5 _)⟩,⟨p5,rfl,zar hr5 (za q),hl5⟩,fun j hj hd hF=> ?_⟩
   ·rcases Nat.lt_or_ge j 11 with hj11|hj11
    ·rcases i11 hj11 with rfl|rfl|rfl|rfl|rfl|rfl|rfl|rfl|rfl|rfl|rfl
     ·have h:s8=wv a:=hF;exact h
     ·have h:s9=wv8 am:=hF;exact h
     ·have h:s10=wv b:=hF;exact h
     ·have h:s11=.tuple #[wv8 q,wv r]:=hF;exact h
     ·have h:s7=.tuple #[wv8 q,wv r]:=hF;exact h
     ·exact(rfl:wv8 q=wv8 q)
     ·have h:s13=wv r:=hF;exact h
     ·exact⟨p5,za q,rfl,zar hr5 (za q),hl5⟩
     ·obtain⟨p,f,h1,h2,h3⟩:=hF;exact⟨p,f,h1,Yz h2 (YP h2 hr5 (by decide)) _ _ _ _ _ _ _ _,h3⟩
     ·exact absurd rfl hj
     ·obtain⟨p,h1,h2,h3⟩:=hF;exact⟨p,h1,Yz h2 (YP h2 hr5 (by decide)) _ _ _ _ _ _ _ _,h3⟩
    ·exact zaX _ _ _ _ _ _ _ hj11 _ _
  ·obtain rfl:=sj ho;refine wpOp_step rfl fun K hK=> ?_
   have h8:∃(p:Nat) (f:Nat->Int),s6=.pointer (some ⟨p,0,none⟩)/\x.rowIs p 24 4 (zo f)/\w.heap.size+1+1<p:=hdep ⟨8,.data⟩ (by simp) rfl;have h0:s13=wv r:=hdep ⟨6,.data⟩ (by simp) rfl;obtain⟨p6,f6,rfl,hr6,hl6⟩:=h8;subst h0;obtain⟨y0,y1,y2,y3⟩:=ze hr6;have fz:=hr6.frozen;go_simp;refine hK _ _ ⟨⟨_,_,_,_,_,_,_,_,_,rfl,((((hs.set hl6 _).set hl6 _).set hl6 _).set hl6 _)⟩,⟨p6,rfl,zx hr6 (za r) rfl rfl rfl rfl,hl6⟩,fun j hj hd hF=> ?_⟩
   ·rcases Nat.lt_or_ge j 11 with hj11|hj11
    ·rcases i11 hj11 with rfl|rfl|rfl|rfl|rfl|rfl|rfl|rfl|rfl|rfl|rfl
     ·have h:s8=wv a:=hF;exact h
     ·have h:s9=wv8 am:=hF;exact h
     ·have h:s10=wv b:=hF;exact h
     ·have h:s11=.tuple #[wv8 q,wv r]:=hF;exact h
     ·have h:s7=.tuple #[wv8 q,wv r]:=hF;exact h
     ·have h:s12=wv8 q:=hF;exact h
     ·exact(rfl:wv r=wv r)
     ·obtain⟨p,f,h1,h2,h3⟩:=hF;exact⟨p,f,h1,zU h2 (YP h2 hr6 (by decide)) _ _ _ _,h3⟩
     ·exact⟨p6,za r,rfl,zx hr6 (za r) rfl rfl rfl rfl,hl6⟩
     ·obtain⟨p,h1,h2,h3⟩:=hF;exact⟨p,h1,zU h2 (YP h2 hr6 (by decide)) _ _ _ _,h3⟩
     ·exact absurd rfl hj
    ·exact zaX _ _ _ _ _ _ _ hj11 _ _
  all_goals
   rcases Nat.lt_or_ge j 11 with hj11|hj11
   ·rcases i11 hj11 with rfl|rfl|rfl|rfl|rfl|rfl|rfl|rfl|rfl|rfl|rfl
    all_goals first
     |exact absurd rfl hj
     |exact hF
     |(obtain⟨p,f,h1,h2,h3⟩:=hF;exact⟨p,f,h1,h2,h3⟩)
     |(obtain⟨p,h1,h2,h3⟩:=hF;exact⟨p,h1,h2,h3⟩)
     |(obtain⟨p,f,h1,h2,h3⟩:=hF;exact⟨p,f,h1,zg h2 hb,h3⟩)
     |(obtain⟨p,h1,h2,h3⟩:=hF;exact⟨p,h1,zg h2 hb,h3⟩)
     |(obtain⟨p,f,h1,h2,h3⟩:=hF;exact⟨p,f,h1,h2.alloc _,h3⟩)
     |(obtain⟨p,h1,h2,h3⟩:=hF;exact⟨p,h1,h2.alloc _,h3⟩)
     |(exfalso;revert hd;exact of_decide_eq_true (by kernel_rfl))
   ·exact zaX _ _ _ _ _ _ _ hj11 _ _
 ·intro s x hG hF;clear hS;obtain⟨s5,s6,s7,s8,s9,s10,s11,s12,s13,rfl,hs⟩:=hG;obtain⟨p,rfl,hr,hl⟩:∃p:Nat,s6=.pointer (some ⟨p,0,none⟩)/\x.rowIs p 24 4 (zo (za r))/\w.heap.size+1+1<p:=hF 10 (by decide);clear hF;obtain⟨y0,y1,y2,y3⟩:=ze hr;have hrz:=hs.rz;have hbel:=hs.be;have z:=hrz.lt;have z':=hbel.size;obtain⟨x0,x1,x2,x3⟩:=ze hrz;have fz:=hrz.frozen;go_wp2;obtain⟨q0,q1,q2,q3⟩:=ze (zx hrz (za r) rfl rfl rfl rfl);refine bodyPost_ret (v:=wv r) (by simp[results,results102,go_sem,q0,q1,q2,q3,z]) rfl (Zt (by rw[HR.out,HA.out]) ?_);exact zB hbel (by omega) _ _ _ _
theorem i7 {i:Nat} (h:i<7):i=0\/i=1\/i=2\/i=3\/i=4\/i=5\/i=6:=by omega
theorem i5 {i:Nat} (h:i<5):i=0\/i=1\/i=2\/i=3\/i=4:=by omega
theorem zcy (a:Nat) (na:Bool) (h:Hid (neg a=na)) (w:World):Calls prog 167 #[wv a] w fun e w'=>e=.returned (.bool na)/\Below w.heap.size w w':=by
 have:=zbg a w;rw[h.out] at this;exact this
def FSd (w:World) (a b ma mb qd:Nat):Nat->Act->World->Prop
 |0,s,_=>s.tmps.getD 6 undef=wv a
 |1,s,_=>s.tmps.getD 7 undef=wv ma
 |2,s,_=>s.tmps.getD 8 undef=wv b
 |3,s,_=>s.tmps.getD 9 undef=wv mb
 |4,s,_=>s.tmps.getD 10 undef=wv qd
 |5,s,x=>∃(p:Nat) (f:Nat->Int),s.tmps.getD 5 undef=.pointer (some ⟨p,0,none⟩)/\x.rowIs p 24 4 (zo f)/\w.heap.size+1+1<p
 |6,s,x=>∃p:Nat,s.tmps.getD 5 undef=.pointer (some ⟨p,0,none⟩)/\x.rowIs p 24 4 (zo (za qd))/\w.heap.size+1+1<p
 |_,_,_=>True
theorem zlU (w:World) (a b ma mb qd:Nat) (j:Nat) (h:7<=j) (s:Act) (x:World):FSd w a b ma mb qd j s x:=by
 match j,h with
 |j+7,_=>trivial
def GSd (w:World) (a b:Nat) (s:Act) (x:World):Prop:=∃s5 s6 s7 s8 s9 s10:Value,
 s=⟨#[wv a,wv b,.pointer (some ⟨w.heap.size,0,none⟩),.pointer (some ⟨w.heap.size+1,0,none⟩),.pointer (some ⟨w.heap.size+1+1,0,none⟩),s5,s6,s7,s8,s9,s10,undef,undef,undef,undef,undef,undef,undef,undef],[]⟩/\SS w a b x
def FSm (w:World) (a b ma mb qd:Nat):Nat->Act->World->Prop
 |0,s,_=>s.tmps.getD 6 undef=wv a
 |1,s,_=>s.tmps.getD 7 undef=wv ma
 |2,s,_=>s.tmps.getD 8 undef=wv b
 |3,s,_=>s.tmps.getD 9 undef=wv mb
 |4,s,_=>s.tmps.getD 10 undef=wv qd
 |5,s,x=>∃(p:Nat) (f:Nat->Int),s.tmps.getD 5 undef=.pointer (some ⟨p,0,none⟩)/\x.rowIs p 24 4 (zo f)/\w.heap.size+1+1<p
 |6,s,x=>∃p:Nat,s.tmps.getD 5 undef=.pointer (some ⟨p,0,none⟩)/\x.rowIs p 24 4 (zo (za qd))/\w.heap.size+1+1<p
 |_,_,_=>True
theorem zlT (w:World) (a b ma mb qd:Nat) (j:Nat) (h:7<=j) (s:Act) (x:World):FSm w a b ma mb qd j s x:=by
 match j,h with
 |j+7,_=>trivial
def GSm (w:World) (a b:Nat) (s:Act) (x:World):Prop:=∃s5 s6 s7 s8 s9 s10:Value,
 s=⟨#[wv a,wv b,.pointer (some ⟨w.heap.size,0,none⟩),.pointer (some ⟨w.heap.size+1,0,none⟩),.pointer (some ⟨w.heap.size+1+1,0,none⟩),s5,s6,s7,s8,s9,s10,undef,undef,undef,undef,undef],[]⟩/\SS w a b x
def FSg (a b:Nat) (na nb:Bool):Nat->Act->World->Prop
 |0,s,_=>s.tmps.getD 11 undef=wv a
 |1,s,_=>s.tmps.getD 12 undef=.bool na
 |2,s,_=>s.tmps.getD 13 undef=wv b
 |3,s,_=>s.tmps.getD 14 undef=.bool nb
 |4,s,_=>s.tmps.getD 15 undef=.bool (na !=nb)
 |_,_,_=>True
theorem zc5 (a b:Nat) (na nb:Bool) (j:Nat) (h:5<=j) (s:Act) (x:World):FSg a b na nb j s x:=by
 match j,h with
 |j+5,_=>trivial
def GSg (w:World) (a b p qd:Nat) (v6 v7 v8 v9 v10:Value) (s:Act) (x:World):Prop:=∃s11 s12 s13 s14 s15:Value,
 s=⟨#[wv a,wv b,.pointer (some ⟨w.heap.size,0,none⟩),.pointer (some ⟨w.heap.size+1,0,none⟩),.pointer (some ⟨w.heap.size+1+1,0,none⟩),.pointer (some ⟨p,0,none⟩),v6,v7,v8,v9,v10,s11,s12,s13,s14,s15,undef,undef,undef],[]⟩/\(SS w a b x/\x.rowIs p 24 4 (zo (za qd)))
theorem zdp {a b ma mb qd:Nat} (h1:ma=yJ (a%M)) (h2:mb=yJ (b%M)) (h3:qd=zgn (ma%M) (mb%M)):zgn (yJ (a%M)) (yJ (b%M))=qd:=by
 rw[h3,h1,h2,Nat.mod_eq_of_lt (zeQ _ (Nat.mod_lt _ Yn)),Nat.mod_eq_of_lt (zeQ _ (Nat.mod_lt _ Yn))]
theorem zi8 {a b ma mb qd:Nat} (h1:ma=yJ (a%M)) (h2:mb=yJ (b%M)) (h3:qd=zbr (ma%M) (mb%M)):zbr (yJ (a%M)) (yJ (b%M))=qd:=by
 rw[h3,h1,h2,Nat.mod_eq_of_lt (zeQ _ (Nat.mod_lt _ Yn)),Nat.mod_eq_of_lt (zeQ _ (Nat.mod_lt _ Yn))]
theorem zje {a b qd s:Nat} (h:zgn (yJ (a%M)) (yJ (b%M))=qd) (hn:(neg a !=neg b)=true) (hs:s=zhf (qd%M)) (hq:qd<M):s%M=zgz (a%M) (b%M)%M:=by
 unfold zgz;rw[Z0,Z0,hn,if_pos rfl,h,hs,Nat.mod_eq_of_lt hq]
theorem zi6 {a b qd:Nat} (h:zgn (yJ (a%M)) (yJ (b%M))=qd) (hn:(neg a !=neg b)=false):qd%M=zgz (a%M) (b%M)%M:=by
 unfold zgz;rw[Z0,Z0,hn,if_neg (by decide),h]
theorem zo7 {a b qd s:Nat} (h:zbr (yJ (a%M)) (yJ (b%M))=qd) (hn:neg a=true) (hs:s=zhf (qd%M)) (hq:qd<M):s%M=zgA (a%M) (b%M)%M:=by
 unfold zgA;rw[Z0,hn,if_pos rfl,h,hs,Nat.mod_eq_of_lt hq]
theorem zqY {a b qd:Nat} (h:zbr (yJ (a%M)) (yJ (b%M))=qd) (hn:neg a=false):qd%M=zgA (a%M) (b%M)%M:=by
 unfold zgA;rw[Z0,hn,if_neg (by decide),h]
theorem zqA (a b:Nat) (w:World):Calls prog 101 #[wv a,wv b] w (Ret w (zgz (a%M) (b%M))):=by
 obtain⟨ma,HMA⟩:∃ma,Hid (ma=yJ (a%M)):=⟨_,rfl⟩;obtain⟨mb,HMB⟩:∃mb,Hid (mb=yJ (b%M)):=⟨_,rfl⟩;obtain⟨qd,HQD⟩:∃qd,Hid (qd=zgn (ma%M) (mb%M)):=⟨_,rfl⟩;obtain⟨na,HNA⟩:∃na,Hid (neg a=na):=⟨_,rfl⟩;obtain⟨nb,HNB⟩:∃nb,Hid (neg b=nb):=⟨_,rfl⟩;have hS:=SS.start w a b;go_enter func101,ntmps101;go_wp2;refine ZJ (by kernel_rfl) (GSd w a b) (FSd w a b ma mb qd) (YI (by kernel_rfl)) ?_ ?_ ?_
 ·exact⟨_,_,_,_,_,_,rfl,hS.drew⟩
 ·intro i o ho s x hG hdep;clear hS;obtain⟨s5,s6,s7,s8,s9,s10,rfl,hs⟩:=hG;have hi:i<7:=(Array.getElem?_eq_some_iff.1 ho).1;rcases i7 hi with rfl|rfl|rfl|rfl|rfl|rfl|rfl;obtain rfl:=sj ho;refine wpOp_step rfl fun K hK=> ?_
  obtain⟨y0,y1,y2,y3⟩:=ze hs.ra;go_simp;refine hK _ _ ⟨⟨_,_,_,_,_,_,rfl,hs⟩,rfl,fun j hj hd hF=> ?_⟩;rotate_left;obtain rfl:=sj ho;refine wpOp_step rfl fun K hK=> ?_
  have h0:s6=wv a:=hdep ⟨0,.data⟩ (by simp) rfl;subst h0;go_simp;refine(YH a _).mono ?_;rintro e y ⟨rr,HRR,rfl,hb⟩;obtain rfl:rr=ma:=HRR.out.trans HMA.out.symm;dsimp only;refine hK _ _ ⟨⟨_,_,_,_,_,_,rfl,hs.call hb⟩,rfl,fun j hj hd hF=> ?_⟩;rotate_left;obtain rfl:=sj ho;refine wpOp_step rfl fun K hK=> ?_
  obtain⟨y0,y1,y2,y3⟩:=ze hs.rb;go_simp;refine hK _ _ ⟨⟨_,_,_,_,_,_,rfl,hs⟩,rfl,fun j hj hd hF=> ?_⟩;rotate_left;obtain rfl:=sj ho;refine wpOp_step rfl fun K hK=> ?_
  have h2:s8=wv b:=hdep ⟨2,.data⟩ (by simp) rfl;subst h2;go_simp;refine(YH b _).mono ?_;rintro e y ⟨rr,HRR,rfl,hb⟩;obtain rfl:rr=mb:=HRR.out.trans HMB.out.symm;dsimp only;refine hK _ _ ⟨⟨_,_,_,_,_,_,rfl,hs.call hb⟩,rfl,fun j hj hd hF=> ?_⟩;rotate_left;obtain rfl:=sj ho;refine wpOp_step rfl fun K hK=> ?_
  have h1:s7=wv ma:=hdep ⟨1,.data⟩ (by simp) rfl;subst h1;have h3:s9=wv mb:=hdep ⟨3,.data⟩ (by simp) rfl;subst h3;go_simp;refine(zmg ma mb _).mono ?_;rintro e y ⟨rr,HRR,rfl,hb⟩;obtain rfl:rr=qd:=HRR.out.trans HQD.out.symm;dsimp only;refine hK _ _ ⟨⟨_,_,_,_,_,_,rfl,hs.call hb⟩,rfl,fun j hj hd hF=> ?_⟩;rotate_left;obtain rfl:=sj ho;refine wpOp_step rfl fun K hK=> ?_
  have zz:=hs.rz.lt;go_simp;refine hK _ _ ⟨⟨_,_,_,_,_,_,rfl,hs.alloc _⟩,⟨_,fun _=>0,rfl,zk _ rfl rfl rfl rfl rfl,zz⟩,fun j hj hd hF=> ?_⟩;rotate_left
  ·obtain rfl:=sj ho;refine wpOp_step rfl fun K hK=> ?_
   have h5:∃(p:Nat) (f:Nat->Int),s5=.pointer (some ⟨p,0,none⟩)/\x.rowIs p 24 4 (zo f)/\w.heap.size+1+1<p:=hdep ⟨5,.data⟩ (by simp) rfl;have h4:s10=wv qd:=hdep ⟨4,.data⟩ (by simp) rfl;subst h4;obtain⟨p5,f5,rfl,hr5,hl5⟩:=h5;obtain⟨y0,y1,y2,y3⟩:=ze hr5;have fz:=hr5.frozen;go_simp;refine hK _ _ ⟨⟨_,_,_,_,_,_,rfl,((((hs.set hl5 _).set hl5 _).set hl5 _).set hl5 _)⟩,⟨p5,rfl,zx hr5 (za qd) rfl rfl rfl rfl,hl5⟩,fun j hj hd hF=> ?_⟩;rcases Nat.lt_or_ge j 7 with hjn|hjn
   ·rcases i7 hjn with rfl|rfl|rfl|rfl|rfl|rfl|rfl
    ·have h:s6=wv a:=hF;exact h
    ·have h:s7=wv ma:=hF;exact h
    ·have h:s8=wv b:=hF;exact h
    ·have h:s9=wv mb:=hF;exact h
    ·exact(rfl:(wv qd:Value)=wv qd)
    ·exact⟨p5,za qd,rfl,zx hr5 (za qd) rfl rfl rfl rfl,hl5⟩
    ·exact absurd rfl hj
   ·exact zlU _ _ _ _ _ _ _ hjn _ _
  all_goals
   rcases Nat.lt_or_ge j 7 with hjn|hjn
   ·rcases i7 hjn with rfl|rfl|rfl|rfl|rfl|rfl|rfl
    all_goals first
     |exact absurd rfl hj
     |exact hF
     |exact rfl
     |(obtain⟨p,f,h1,h2,h3⟩:=hF;exact⟨p,f,h1,h2,h3⟩)
     |(obtain⟨p,h1,h2,h3⟩:=hF;exact⟨p,h1,h2,h3⟩)
     |(obtain⟨p,f,h1,h2,h3⟩:=hF;exact⟨p,f,h1,zg h2 hb,h3⟩)
     |(obtain⟨p,h1,h2,h3⟩:=hF;exact⟨p,h1,zg h2 hb,h3⟩)
     |(exfalso;revert hd;exact of_decide_eq_true (by kernel_rfl))
   ·exact zlU _ _ _ _ _ _ _ hjn _ _
 ·intro s x hG hF;clear hS;obtain⟨s5,s6,s7,s8,s9,s10,rfl,hs⟩:=hG;obtain⟨p,rfl,hr,hl⟩:∃p:Nat,s5=.pointer (some ⟨p,0,none⟩)/\x.rowIs p 24 4 (zo (za qd))/\w.heap.size+1+1<p:=hF 6 (by decide);clear hF;go_wp2;refine ZJ (by kernel_rfl) (GSg w a b p qd s6 s7 s8 s9 s10) (FSg a b na nb) (YI (by kernel_rfl)) ?_ ?_ ?_
  ·exact⟨_,_,_,_,_,rfl,⟨hs.drew,hr.drew⟩⟩
  ·intro i o ho s x hG hdep;obtain⟨s11,s12,s13,s14,s15,rfl,hs⟩:=hG;have hi:i<5:=(Array.getElem?_eq_some_iff.1 ho).1;rcases i5 hi with rfl|rfl|rfl|rfl|rfl
   ·obtain rfl:=sj ho;refine wpOp_step rfl fun K hK=> ?_
    obtain⟨y0,y1,y2,y3⟩:=ze hs.1.ra;go_simp;refine hK _ _ ⟨⟨_,_,_,_,_,rfl,hs⟩,rfl,fun j hj hd hF=> ?_⟩;rcases Nat.lt_or_ge j 5 with hjn|hjn
    ·rcases i5 hjn with rfl|rfl|rfl|rfl|rfl
     ·exact absurd rfl hj
     ·exfalso;revert hd;exact of_decide_eq_true (by kernel_rfl)
     ·have h:s13=wv b:=hF;exact h
     ·have h:s14=.bool nb:=hF;exact h
     ·have h:s15=.bool (na !=nb):=hF;exact h
    ·exact zc5 _ _ _ _ _ hjn _ _
   ·obtain rfl:=sj ho;refine wpOp_step rfl fun K hK=> ?_
    have h0:s11=wv a:=hdep ⟨0,.data⟩ (by simp) rfl;subst h0;go_simp;refine(zcy a na HNA _).mono ?_;rintro e y ⟨rfl,hb⟩;dsimp only;refine hK _ _ ⟨⟨_,_,_,_,_,rfl,⟨hs.1.call hb,zg hs.2 hb⟩⟩,rfl,fun j hj hd hF=> ?_⟩;rcases Nat.lt_or_ge j 5 with hjn|hjn
    ·rcases i5 hjn with rfl|rfl|rfl|rfl|rfl
     ·exact(rfl:(wv a:Value)=wv a)
     ·exact absurd rfl hj
     ·have h:s13=wv b:=hF;exact h
     ·have h:s14=.bool nb:=hF;exact h
     ·exfalso;revert hd;exact of_decide_eq_true (by kernel_rfl)
    ·exact zc5 _ _ _ _ _ hjn _ _
   ·obtain rfl:=sj ho;refine wpOp_step rfl fun K hK=> ?_
    obtain⟨y0,y1,y2,y3⟩:=ze hs.1.rb;go_simp;refine hK _ _ ⟨⟨_,_,_,_,_,rfl,hs⟩,rfl,fun j hj hd hF=> ?_⟩;rcases Nat.lt_or_ge j 5 with hjn|hjn
    ·rcases i5 hjn with rfl|rfl|rfl|rfl|rfl
     ·have h:s11=wv a:=hF;exact h
     ·have h:s12=.bool na:=hF;exact h
     ·exact absurd rfl hj
     ·exfalso;revert hd;exact of_decide_eq_true (by kernel_rfl)
     ·have h:s15=.bool (na !=nb):=hF;exact h
    ·exact zc5 _ _ _ _ _ hjn _ _
   ·obtain rfl:=sj ho;refine wpOp_step rfl fun K hK=> ?_
    have h2:s13=wv b:=hdep ⟨2,.data⟩ (by simp) rfl;subst h2;go_simp;refine(zcy b nb HNB _).mono ?_;rintro e y ⟨rfl,hb⟩;dsimp only;refine hK _ _ ⟨⟨_,_,_,_,_,rfl,⟨hs.1.call hb,zg hs.2 hb⟩⟩,rfl,fun j hj hd hF=> ?_⟩;rcases Nat.lt_or_ge j 5 with hjn|hjn
    ·rcases i5 hjn with rfl|rfl|rfl|rfl|rfl
     ·have h:s11=wv a:=hF;exact h
     ·have h:s12=.bool na:=hF;exact h
     ·exact(rfl:(wv b:Value)=wv b)
     ·exact absurd rfl hj
     ·exfalso;revert hd;exact of_decide_eq_true (by kernel_rfl)
    ·exact zc5 _ _ _ _ _ hjn _ _
   ·obtain rfl:=sj ho;refine wpOp_step rfl fun K hK=> ?_
    have h1:s12=.bool na:=hdep ⟨1,.data⟩ (by simp) rfl;subst h1;have h3:s14=.bool nb:=hdep ⟨3,.data⟩ (by simp) rfl;subst h3;go_simp;refine hK _ _ ⟨⟨_,_,_,_,_,rfl,hs⟩,rfl,fun j hj hd hF=> ?_⟩;rcases Nat.lt_or_ge j 5 with hjn|hjn
    ·rcases i5 hjn with rfl|rfl|rfl|rfl|rfl
     ·have h:s11=wv a:=hF;exact h
     ·exact(rfl:(.bool na:Value)=.bool na)
     ·have h:s13=wv b:=hF;exact h
     ·exact(rfl:(.bool nb:Value)=.bool nb)
     ·exact absurd rfl hj
    ·exact zc5 _ _ _ _ _ hjn _ _
  ·intro s x hG hF;obtain⟨s11,s12,s13,s14,s15,rfl,hs⟩:=hG;have h4:s15=.bool (na !=nb):=hF 4 (by decide);clear hF hr;obtain⟨hs,hr⟩:=hs;subst h4;cases na<;>cases nb
   ·skip;obtain⟨y0,y1,y2,y3⟩:=ze hr;have hrz:=hs.rz;have hbel:=hs.be;have z':=hbel.size;obtain⟨x0,x1,x2,x3⟩:=ze hrz;have fz:=hrz.frozen;go_wp2;obtain⟨q0,q1,q2,q3⟩:=ze (zx hrz (za qd) rfl rfl rfl rfl);refine bodyPost_ret (v:=wv qd) (by simp[results,results101,go_sem,q0,q1,q2,q3]) rfl (Zt (zi6 (zdp HMA.out HMB.out HQD.out) (by rw[HNA.out,HNB.out];rfl)) ?_);exact zB hbel (by omega) _ _ _ _
   ·skip;obtain⟨y0,y1,y2,y3⟩:=ze hr;go_wp2_with fail
    refine(za2 qd _).mono ?_;rintro e w2 ⟨s,HSN,rfl,hb⟩;have hrz:=zg hs.rz hb;have hbel:=zX hs.be hb;have z':=hbel.size;obtain⟨x0,x1,x2,x3⟩:=ze hrz;have fz:=hrz.frozen;clear hb;go_wp2;obtain⟨q0,q1,q2,q3⟩:=ze (zx hrz (za s) rfl rfl rfl rfl);refine bodyPost_ret (v:=wv s) (by simp[results,results101,go_sem,q0,q1,q2,q3]) rfl (Zt (zje (zdp HMA.out HMB.out HQD.out) (by rw[HNA.out,HNB.out];rfl) HSN.out (by rw[HQD.out];exact zmw _ _ (Nat.mod_lt _ Yn))) ?_);exact zB hbel (by omega) _ _ _ _
   ·skip;obtain⟨y0,y1,y2,y3⟩:=ze hr;go_wp2_with fail
    refine(za2 qd _).mono ?_;rintro e w2 ⟨s,HSN,rfl,hb⟩;have hrz:=zg hs.rz hb;have hbel:=zX hs.be hb;have z':=hbel.size;obtain⟨x0,x1,x2,x3⟩:=ze hrz;have fz:=hrz.frozen;clear hb;go_wp2;obtain⟨q0,q1,q2,q3⟩:=ze (zx hrz (za s) rfl rfl rfl rfl);refine bodyPost_ret (v:=wv s) (by simp[results,results101,go_sem,q0,q1,q2,q3]) rfl (Zt (zje (zdp HMA.out HMB.out HQD.out) (by rw[HNA.out,HNB.out];rfl) HSN.out (by rw[HQD.out];exact zmw _ _ (Nat.mod_lt _ Yn))) ?_);exact zB hbel (by omega) _ _ _ _
   ·skip;obtain⟨y0,y1,y2,y3⟩:=ze hr;have hrz:=hs.rz;have hbel:=hs.be;have z':=hbel.size;obtain⟨x0,x1,x2,x3⟩:=ze hrz;have fz:=hrz.frozen;go_wp2;obtain⟨q0,q1,q2,q3⟩:=ze (zx hrz (za qd) rfl rfl rfl rfl);refine bodyPost_ret (v:=wv qd) (by simp[results,results101,go_sem,q0,q1,q2,q3]) rfl (Zt (zi6 (zdp HMA.out HMB.out HQD.out) (by rw[HNA.out,HNB.out];rfl)) ?_);exact zB hbel (by omega) _ _ _ _
theorem zpP (a b:Nat) (w:World):Calls prog 103 #[wv a,wv b] w (Ret w (zgA (a%M) (b%M))):=by
 obtain⟨ma,HMA⟩:∃ma,Hid (ma=yJ (a%M)):=⟨_,rfl⟩;obtain⟨mb,HMB⟩:∃mb,Hid (mb=yJ (b%M)):=⟨_,rfl⟩;obtain⟨qd,HQD⟩:∃qd,Hid (qd=zbr (ma%M) (mb%M)):=⟨_,rfl⟩;obtain⟨na,HNA⟩:∃na,Hid (neg a=na):=⟨_,rfl⟩;have hS:=SS.start w a b;go_enter func103,ntmps103;go_wp2;refine ZJ (by kernel_rfl) (GSm w a b) (FSm w a b ma mb qd) (YI (by kernel_rfl)) ?_ ?_ ?_
 ·exact⟨_,_,_,_,_,_,rfl,hS.drew⟩
 ·intro i o ho s x hG hdep;clear hS;obtain⟨s5,s6,s7,s8,s9,s10,rfl,hs⟩:=hG;have hi:i<7:=(Array.getElem?_eq_some_iff.1 ho).1;rcases i7 hi with rfl|rfl|rfl|rfl|rfl|rfl|rfl;obtain rfl:=sj ho;refine wpOp_step rfl fun K hK=> ?_
  obtain⟨y0,y1,y2,y3⟩:=ze hs.ra;go_simp;refine hK _ _ ⟨⟨_,_,_,_,_,_,rfl,hs⟩,rfl,fun j hj hd hF=> ?_⟩;rotate_left;obtain rfl:=sj ho;refine wpOp_step rfl fun K hK=> ?_
  have h0:s6=wv a:=hdep ⟨0,.data⟩ (by simp) rfl;subst h0;go_simp;refine(YH a _).mono ?_;rintro e y ⟨rr,HRR,rfl,hb⟩;obtain rfl:rr=ma:=HRR.out.trans HMA.out.symm;dsimp only;refine hK _ _ ⟨⟨_,_,_,_,_,_,rfl,hs.call hb⟩,rfl,fun j hj hd hF=> ?_⟩;rotate_left;obtain rfl:=sj ho;refine wpOp_step rfl fun K hK=> ?_
  obtain⟨y0,y1,y2,y3⟩:=ze hs.rb;go_simp;refine hK _ _ ⟨⟨_,_,_,_,_,_,rfl,hs⟩,rfl,fun j hj hd hF=> ?_⟩;rotate_left;obtain rfl:=sj ho;refine wpOp_step rfl fun K hK=> ?_
  have h2:s8=wv b:=hdep ⟨2,.data⟩ (by simp) rfl;subst h2;go_simp;refine(YH b _).mono ?_;rintro e y ⟨rr,HRR,rfl,hb⟩;obtain rfl:rr=mb:=HRR.out.trans HMB.out.symm;dsimp only;refine hK _ _ ⟨⟨_,_,_,_,_,_,rfl,hs.call hb⟩,rfl,fun j hj hd hF=> ?_⟩;rotate_left;obtain rfl:=sj ho;refine wpOp_step rfl fun K hK=> ?_
  have h1:s7=wv ma:=hdep ⟨1,.data⟩ (by simp) rfl;subst h1;have h3:s9=wv mb:=hdep ⟨3,.data⟩ (by simp) rfl;subst h3;go_simp;refine(zmt ma mb _).mono ?_;rintro e y ⟨rr,HRR,rfl,hb⟩;obtain rfl:rr=qd:=HRR.out.trans HQD.out.symm;dsimp only;refine hK _ _ ⟨⟨_,_,_,_,_,_,rfl,hs.call hb⟩,rfl,fun j hj hd hF=> ?_⟩;rotate_left;obtain rfl:=sj ho;refine wpOp_step rfl fun K hK=> ?_
  have zz:=hs.rz.lt;go_simp;refine hK _ _ ⟨⟨_,_,_,_,_,_,rfl,hs.alloc _⟩,⟨_,fun _=>0,rfl,zk _ rfl rfl rfl rfl rfl,zz⟩,fun j hj hd hF=> ?_⟩;rotate_left
  ·obtain rfl:=sj ho;refine wpOp_step rfl fun K hK=> ?_
   have h5:∃(p:Nat) (f:Nat->Int),s5=.pointer (some ⟨p,0,none⟩)/\x.rowIs p 24 4 (zo f)/\w.heap.size+1+1<p:=hdep ⟨5,.data⟩ (by simp) rfl;have h4:s10=wv qd:=hdep ⟨4,.data⟩ (by simp) rfl;subst h4;obtain⟨p5,f5,rfl,hr5,hl5⟩:=h5;obtain⟨y0,y1,y2,y3⟩:=ze hr5;have fz:=hr5.frozen;go_simp;refine hK _ _ ⟨⟨_,_,_,_,_,_,rfl,((((hs.set hl5 _).set hl5 _).set hl5 _).set hl5 _)⟩,⟨p5,rfl,zx hr5 (za qd) rfl rfl rfl rfl,hl5⟩,fun j hj hd hF=> ?_⟩;rcases Nat.lt_or_ge j 7 with hjn|hjn
   ·rcases i7 hjn with rfl|rfl|rfl|rfl|rfl|rfl|rfl
    ·have h:s6=wv a:=hF;exact h
    ·have h:s7=wv ma:=hF;exact h
    ·have h:s8=wv b:=hF;exact h
    ·have h:s9=wv mb:=hF;exact h
    ·exact(rfl:(wv qd:Value)=wv qd)
    ·exact⟨p5,za qd,rfl,zx hr5 (za qd) rfl rfl rfl rfl,hl5⟩
    ·exact absurd rfl hj
   ·exact zlT _ _ _ _ _ _ _ hjn _ _
  all_goals
   rcases Nat.lt_or_ge j 7 with hjn|hjn
   ·rcases i7 hjn with rfl|rfl|rfl|rfl|rfl|rfl|rfl
    all_goals first
     |exact absurd rfl hj
     |exact hF
     |exact rfl
     |(obtain⟨p,f,h1,h2,h3⟩:=hF;exact⟨p,f,h1,h2,h3⟩)
     |(obtain⟨p,h1,h2,h3⟩:=hF;exact⟨p,h1,h2,h3⟩)
     |(obtain⟨p,f,h1,h2,h3⟩:=hF;exact⟨p,f,h1,zg h2 hb,h3⟩)
     |(obtain⟨p,h1,h2,h3⟩:=hF;exact⟨p,h1,zg h2 hb,h3⟩)
     |(exfalso;revert hd;exact of_decide_eq_true (by kernel_rfl))
   ·exact zlT _ _ _ _ _ _ _ hjn _ _
 ·intro s x hG hF;clear hS;obtain⟨s5,s6,s7,s8,s9,s10,rfl,hs⟩:=hG;obtain⟨p,rfl,hr,hl⟩:∃p:Nat,s5=.pointer (some ⟨p,0,none⟩)/\x.rowIs p 24 4 (zo (za qd))/\w.heap.size+1+1<p:=hF 6 (by decide);clear hF;obtain⟨u0,u1,u2,u3⟩:=ze hs.ra;go_wp2_with fail
  refine(zcy a na HNA _).mono ?_;rintro e w1 ⟨rfl,hb⟩;replace hs:=hs.call hb;replace hr:=zg hr hb;clear hb u0 u1 u2 u3;cases na
  ·skip;obtain⟨y0,y1,y2,y3⟩:=ze hr;have hrz:=hs.rz;have hbel:=hs.be;have z':=hbel.size;obtain⟨x0,x1,x2,x3⟩:=ze hrz;have fz:=hrz.frozen;go_wp2;obtain⟨q0,q1,q2,q3⟩:=ze (zx hrz (za qd) rfl rfl rfl rfl);refine bodyPost_ret (v:=wv qd) (by simp[results,results103,go_sem,q0,q1,q2,q3]) rfl (Zt (zqY (zi8 HMA.out HMB.out HQD.out) HNA.out) ?_);exact zB hbel (by omega) _ _ _ _
  ·skip;obtain⟨y0,y1,y2,y3⟩:=ze hr;go_wp2_with fail
   refine(za2 qd _).mono ?_;rintro e w2 ⟨s,HSN,rfl,hb⟩;have hrz:=zg hs.rz hb;have hbel:=zX hs.be hb;have z':=hbel.size;obtain⟨x0,x1,x2,x3⟩:=ze hrz;have fz:=hrz.frozen;clear hb;go_wp2;obtain⟨q0,q1,q2,q3⟩:=ze (zx hrz (za s) rfl rfl rfl rfl);refine bodyPost_ret (v:=wv s) (by simp[results,results103,go_sem,q0,q1,q2,q3]) rfl (Zt (zo7 (zi8 HMA.out HMB.out HQD.out) HNA.out HSN.out (by rw[HQD.out];exact fmod_lt _ _ (Nat.mod_lt _ Yn))) ?_);exact zB hbel (by omega) _ _ _ _
def Pk (a b k:Nat):Nat:=a^(b/2^k)%M
theorem Pk_top (a b L:Nat) (h:b<2^L):Pk a b L=1%M:=by unfold Pk;rw[Nat.div_eq_of_lt h,Nat.pow_zero]
theorem Pk_zero (a b:Nat):Pk a b 0=zhR a b:=by unfold Pk zhR;simp
theorem pow_mod (a n:Nat):a^n%M=(a%M)^n%M:=Nat.pow_mod a n M
theorem Pk_sq {a b i p r:Nat} (h:p%M=Pk a b (i+1)) (h0:zbb b i=0) (hr:r=zd0 p p):r%M=Pk a b i:=by
 unfold Pk at*;rw[zbV b i,h0,Nat.add_zero,Nat.two_mul,Nat.pow_add,hr];unfold zd0;rw[Nat.mod_mod,Nat.mul_mod,h,<-Nat.mul_mod]
theorem Pk_mul {a b i p r s:Nat} (h:p%M=Pk a b (i+1)) (h1:zbb b i=1) (hr:r=zd0 p p) (hs:s=zd0 r a):s%M=Pk a b i:=by
 unfold Pk at*;rw[zbV b i,h1,Nat.two_mul,Nat.pow_add,Nat.pow_add,Nat.pow_one,hs,hr];unfold zd0;have e:p*p%M=a^(b/2^(i+1))*a^(b/2^(i+1))%M:=by rw[Nat.mul_mod,h,<-Nat.mul_mod]
 rw[Nat.mod_mod,e,Nat.mod_mul_mod]
structure EX (w:World) (a b:Nat) (x:World):Prop where
 ra:x.rowIs w.heap.size 24 4 (zo (za a))
 rb:x.rowIs (w.heap.size+1) 24 4 (zo (za b))
 rz:x.rowIs (w.heap.size+1+1) 24 4 (zo fun _=>0)
 be:Below w.heap.size w x
theorem EX.call {w:World} {a b:Nat} {x y:World} (h:EX w a b x) (hb:Below x.heap.size x y):EX w a b y:=⟨zg h.ra hb,zg h.rb hb,zg h.rz hb,zX h.be hb⟩
theorem EX.put {w:World} {a b:Nat} {x:World} (h:EX w a b x) (v0 v1 v2 v3:Value):EX w a b ((((x.setCell ⟨w.heap.size+1+1+1,0,none⟩ v0).setCell ⟨w.heap.size+1+1+1,1,none⟩ v1).setCell ⟨w.heap.size+1+1+1,2,none⟩ v2).setCell ⟨w.heap.size+1+1+1,3,none⟩ v3):=
 ⟨zU h.ra (by omega) _ _ _ _,zU h.rb (by omega) _ _ _ _,zU h.rz (by omega) _ _ _ _,zB h.be (by omega) _ _ _ _⟩
theorem EX.start (w:World) (a b:Nat) {o:Obj}:EX w a b ((((w.alloc (.cells #[.int .u64 (za a 0),.int .u64 (za a 1),.int .u64 (za a 2),.int .u64 (za a 3)] 24)).alloc (.cells #[.int .u64 (za b 0),.int .u64 (za b 1),.int .u64 (za b 2),.int .u64 (za b 3)] 24)).alloc (.cells #[.int .u64 0,.int .u64 0,.int .u64 0,.int .u64 0] 24)).alloc o):=
 ⟨zk (za a) rfl rfl rfl rfl rfl |>.alloc _ |>.alloc _ |>.alloc _,zk (za b) (by simp) rfl rfl rfl rfl |>.alloc _ |>.alloc _,zk (fun _=>0) (by simp) rfl rfl rfl rfl |>.alloc _,bal (bal (bal (bal (Below.refl _ _) _) _) _) _⟩
theorem znu:(1:Int)=za 1 0/\(0:Int)=za 1 1/\(0:Int)=za 1 2/\(0:Int)=za 1 3:=by
 unfold za;rw[pw0,pw1,pw2,pw3];decide
theorem exp_lt (a b:Nat) (hb:b<2^(64*4)) (w:World):Calls prog 106 #[wv a,wv b] w (Ret w (zhR a b)):=by
 have HB:Hid (b<2^(64*4)):=hb;clear hb;go_enter func106,ntmps106;go_wp2_with fail
 refine(zcj b 4 (w.heap.size+1) 24 _ (by omega) HB.out ?_).mono ?_
 ·exact zk (za b) (by simp) rfl rfl rfl rfl |>.alloc _ |>.alloc _
 rintro e w' ⟨L,hL,hLb,rfl,rfl⟩;have HL:Hid (b<2^L):=hLb;clear hLb;go_wp2
 go_loopw [6] (fun t6 wr=>∃(k p:Nat),k<=256/\t6=.int .i64 ((k:Int) - 1)/\EX w a b wr/\wr.rowIs (w.heap.size+1+1+1) 24 4 (zo (za p))/\Hid (p%M=Pk a b k))
   (fun t6 _=>(intOf t6+1).toNat)
 case atStart=>
  obtain⟨o0,o1,o2,o3⟩:=znu;exact⟨L,1,by omega,by go_num,EX.start w a b,zk (za 1) (by simp) o0 o1 o2 o3,(Pk_top a b L HL.out).symm⟩
 case round=>
  clear HL hL;obtain⟨k,p,hk,rfl,hx,hp,HP⟩:=hrel;rcases Nat.eq_zero_or_pos k with rfl|hpos
  ·obtain⟨r0,r1,r2,r3⟩:=ze hp;obtain⟨x0,x1,x2,x3⟩:=ze hx.rz;have fz:=hx.rz.frozen;have hbel:=hx.be;go_wp2;obtain⟨q0,q1,q2,q3⟩:=ze (zx hx.rz (za p) rfl rfl rfl rfl);refine bodyPost_ret (v:=wv p) (by simp[results,results106,go_sem,q0,q1,q2,q3]) rfl (Zt (by rw[HP.out,Pk_zero,Nat.mod_eq_of_lt (fexp_lt a b)]) ?_);exact zB hbel (by omega) _ _ _ _
  ·obtain⟨i,rfl⟩:∃i,k=i+1:=⟨k - 1,by omega⟩;clear hpos;have ek:((i+1:Nat):Int) - 1=(i:Int):=by omega
   rw[ek];obtain⟨r0,r1,r2,r3⟩:=ze hp;go_wp2_with fail
   refine(zhI p p _).mono ?_;rintro e w1 ⟨r,HR,rfl,hb1⟩;replace hx:=hx.call hb1;replace hp:=zg hp hb1;clear hb1 r0 r1 r2 r3;obtain⟨r0,r1,r2,r3⟩:=ze hp;have fp:=hp.frozen;obtain⟨bt,HBT⟩:∃bt,Hid (bt=zbb b i):=⟨_,rfl⟩;go_wp2_with fail
   replace hx:=hx.put (.int .u64 (za r 0)) (.int .u64 (za r 1)) (.int .u64 (za r 2)) (.int .u64 (za r 3));replace hp:=zx hp (za r) rfl rfl rfl rfl;refine(zmr b 4 i (w.heap.size+1) 24 _ (by omega) (by omega) hx.rb).mono ?_;rintro e w2 ⟨rfl,rfl⟩;rw[<-HBT.out];clear r0 r1 r2 r3 fp;have hbt:bt<=1:=by rw[HBT.out];exact zin b i
   have hbt2:bt=0\/bt=1:=by omega
   clear hbt;rcases hbt2 with rfl|rfl
   ·go_wp2
    go_roundw
    case rel=>exact⟨i,r,by omega,rfl,hx,hp,Pk_sq HP.out HBT.out.symm HR.out⟩
    case measure=>simp[intOf]
   ·obtain⟨r0,r1,r2,r3⟩:=ze hp;obtain⟨a0,a1,a2,a3⟩:=ze hx.ra;go_wp2_with fail
    refine(zhI r a _).mono ?_;rintro e w3 ⟨s,HS,rfl,hb3⟩;replace hx:=hx.call hb3;replace hp:=zg hp hb3;clear hb3 r0 r1 r2 r3 a0 a1 a2 a3;obtain⟨r0,r1,r2,r3⟩:=ze hp;have fp:=hp.frozen;go_wp2
    go_roundw
    case rel=>exact⟨i,s,by omega,rfl,hx.put _ _ _ _,zx hp (za s) rfl rfl rfl rfl,Pk_mul HP.out HBT.out.symm HR.out HS.out⟩
    case measure=>simp[intOf]
theorem zqI (a b:Nat):zhR a b=zhR (a%M) b:=by unfold zhR;exact pow_mod a b
theorem exp_any (a b:Nat) (w:World):Calls prog 106 #[wv a,wv b] w (Ret w (zhR (a%M) (b%M))):=by
 rw[<-zct b,<-zqI];exact exp_lt a (b%M) (Nat.mod_lt _ Yn) w
theorem i12 {i:Nat} (h:i<12):i=0\/i=1\/i=2\/i=3\/i=4\/i=5\/i=6\/i=7\/i=8\/i=9\/i=10\/i=11:=by omega
structure S4 (w:World) (a b c:Nat) (x:World):Prop where
 ra:x.rowIs w.heap.size 24 4 (zo (za a))
 rb:x.rowIs (w.heap.size+1) 24 4 (zo (za b))
 rc:x.rowIs (w.heap.size+1+1) 24 4 (zo (za c))
 rz:x.rowIs (w.heap.size+1+1+1) 24 4 (zo fun _=>0)
 be:Below w.heap.size w x
theorem S4.drew {w:World} {a b c:Nat} {x:World} (h:S4 w a b c x):S4 w a b c x.drew:=⟨h.ra,h.rb,h.rc,h.rz,h.be.drew⟩
theorem S4.alloc {w:World} {a b c:Nat} {x:World} (h:S4 w a b c x) (o:Obj):S4 w a b c (x.alloc o):=⟨h.ra.alloc _,h.rb.alloc _,h.rc.alloc _,h.rz.alloc _,bal h.be _⟩
theorem S4.call {w:World} {a b c:Nat} {x y:World} (h:S4 w a b c x) (hb:Below x.heap.size x y):S4 w a b c y:=⟨zg h.ra hb,zg h.rb hb,zg h.rc hb,zg h.rz hb,zX h.be hb⟩
theorem S4.set {w:World} {a b c:Nat} {x:World} (h:S4 w a b c x) {p:Addr} (hp:w.heap.size+1+1+1<p.block) (v:Value):S4 w a b c (x.setCell p v):=
 ⟨h.ra.setOther (by omega) _,h.rb.setOther (by omega) _,h.rc.setOther (by omega) _,h.rz.setOther (by omega) _,h.be.setCell (by omega) _⟩
theorem S4.start (w:World) (a b c:Nat):S4 w a b c ((((w.alloc (.cells #[.int .u64 (za a 0),.int .u64 (za a 1),.int .u64 (za a 2),.int .u64 (za a 3)] 24)).alloc (.cells #[.int .u64 (za b 0),.int .u64 (za b 1),.int .u64 (za b 2),.int .u64 (za b 3)] 24)).alloc (.cells #[.int .u64 (za c 0),.int .u64 (za c 1),.int .u64 (za c 2),.int .u64 (za c 3)] 24)).alloc (.cells #[.int .u64 0,.int .u64 0,.int .u64 0,.int .u64 0] 24)):=
 ⟨zk (za a) rfl rfl rfl rfl rfl |>.alloc _ |>.alloc _ |>.alloc _,zk (za b) (by simp) rfl rfl rfl rfl |>.alloc _ |>.alloc _,zk (za c) (by simp) rfl rfl rfl rfl |>.alloc _,zk (fun _=>0) (by simp) rfl rfl rfl rfl,bal (bal (bal (bal (Below.refl _ _) _) _) _) _⟩
theorem prod_le (x n:Nat) (hn:512<=n) (h:x<M*M):x<2^n:=by
 have e:M*M<=2^(n - 256)*2^256:=Nat.mul_le_mul (zdy (n - 256) (by omega)) (zdy 256 (by omega));have e2:2^(n - 256)*2^256=2^n:=by rw[<-Nat.pow_add];congr 1;omega
 omega
theorem zo8 (a b:Nat):Yq a b<2^(64*8):=by
 have h1:a%M*(b%M)<M*M:=Nat.mul_lt_mul'' (Nat.mod_lt _ Yn) (Nat.mod_lt _ Yn);have h:=prod_le (Yq a b) (64*8) (by omega) h1;exact h
def FMm (w:World) (a b c pr q r:Nat):Nat->Act->World->Prop
 |0,s,_=>s.tmps.getD 10 undef=wv a
 |1,s,_=>s.tmps.getD 11 undef=wv b
 |2,s,_=>s.tmps.getD 12 undef=wv8 pr
 |3,s,_=>s.tmps.getD 13 undef=wv c
 |4,s,_=>s.tmps.getD 14 undef=.tuple #[wv8 q,wv r]
 |5,s,_=>s.tmps.getD 9 undef=.tuple #[wv8 q,wv r]
 |6,s,_=>s.tmps.getD 15 undef=wv8 q
 |7,s,_=>s.tmps.getD 16 undef=wv r
 |8,s,x=>∃(p:Nat) (f:Nat->Int),s.tmps.getD 7 undef=.pointer (some ⟨p,0,none⟩)/\x.rowIs p 224 8 (zo f)/\w.heap.size+1+1+1<p
 |9,s,x=>∃(p:Nat) (f:Nat->Int),s.tmps.getD 8 undef=.pointer (some ⟨p,0,none⟩)/\x.rowIs p 24 4 (zo f)/\w.heap.size+1+1+1<p
 |10,s,x=>∃(p:Nat),s.tmps.getD 7 undef=.pointer (some ⟨p,0,none⟩)/\x.rowIs p 224 8 (zo (za q))/\w.heap.size+1+1+1<p
 |11,s,x=>∃(p:Nat),s.tmps.getD 8 undef=.pointer (some ⟨p,0,none⟩)/\x.rowIs p 24 4 (zo (za r))/\w.heap.size+1+1+1<p
 |_,_,_=>True
theorem zhs (w:World) (a b c pr q r:Nat) (j:Nat) (h:12<=j) (s:Act) (x:World):FMm w a b c pr q r j s x:=by
 match j,h with
 |j+12,_=>trivial
def GMm (w:World) (a b c:Nat) (s:Act) (x:World):Prop:=∃s7 s8 s9 s10 s11 s12 s13 s14 s15 s16 s17:Value,
 s=⟨#[wv a,wv b,wv c,.pointer (some ⟨w.heap.size,0,none⟩),.pointer (some ⟨w.heap.size+1,0,none⟩),.pointer (some ⟨w.heap.size+1+1,0,none⟩),.pointer (some ⟨w.heap.size+1+1+1,0,none⟩),s7,s8,s9,s10,s11,s12,s13,s14,s15,s16,s17],[]⟩/\S4 w a b c x
theorem zkM (a b c:Nat) (w:World):Calls prog 105 #[wv a,wv b,wv c] w (Ret w (zlN (a%M) (b%M) (c%M))):=by
 obtain⟨pr,HP⟩:∃pr,Hid (pr=Yq a b):=⟨_,rfl⟩;obtain⟨q,HQ⟩:∃q,Hid (q=pr/(c%M)):=⟨_,rfl⟩;obtain⟨r,HR⟩:∃r,Hid (r=zbr pr (c%M)):=⟨_,rfl⟩;have hS:=S4.start w a b c;go_enter func105,ntmps105;go_wp2;refine ZJ (by kernel_rfl) (GMm w a b c) (FMm w a b c pr q r) (YI (by kernel_rfl)) ?_ ?_ ?_
 ·exact⟨_,_,_,_,_,_,_,_,_,_,_,rfl,hS.drew⟩
 ·intro i o ho s x hG hdep;clear hS;obtain⟨s7,s8,s9,s10,s11,s12,s13,s14,s15,s16,s17,rfl,hs⟩:=hG;have hi:i<12:=(Array.getElem?_eq_some_iff.1 ho).1;rcases i12 hi with rfl|rfl|rfl|rfl|rfl|rfl|rfl|rfl|rfl|rfl|rfl|rfl;obtain rfl:=sj ho;refine wpOp_step rfl fun K hK=> ?_
  obtain⟨y0,y1,y2,y3⟩:=ze hs.ra;go_simp;refine hK _ _ ⟨⟨_,_,_,_,_,_,_,_,_,_,_,rfl,hs⟩,rfl,fun j hj hd hF=> ?_⟩;rotate_left;obtain rfl:=sj ho;refine wpOp_step rfl fun K hK=> ?_
  obtain⟨y0,y1,y2,y3⟩:=ze hs.rb;go_simp;refine hK _ _ ⟨⟨_,_,_,_,_,_,_,_,_,_,_,rfl,hs⟩,rfl,fun j hj hd hF=> ?_⟩;rotate_left;obtain rfl:=sj ho;refine wpOp_step rfl fun K hK=> ?_
  have h0:s10=wv a:=hdep ⟨0,.data⟩ (by simp) rfl;subst h0;have h1:s11=wv b:=hdep ⟨1,.data⟩ (by simp) rfl;subst h1;go_simp;refine(zgb a b _).mono ?_;rintro e y ⟨rr,HRR,rfl,hb⟩;obtain rfl:rr=pr:=HRR.out.trans HP.out.symm;dsimp only;refine hK _ _ ⟨⟨_,_,_,_,_,_,_,_,_,_,_,rfl,hs.call hb⟩,rfl,fun j hj hd hF=> ?_⟩;rotate_left;obtain rfl:=sj ho;refine wpOp_step rfl fun K hK=> ?_
  obtain⟨y0,y1,y2,y3⟩:=ze hs.rc;go_simp;refine hK _ _ ⟨⟨_,_,_,_,_,_,_,_,_,_,_,rfl,hs⟩,rfl,fun j hj hd hF=> ?_⟩;rotate_left;obtain rfl:=sj ho;refine wpOp_step rfl fun K hK=> ?_
  have h2:s12=wv8 pr:=hdep ⟨2,.data⟩ (by simp) rfl;subst h2;have h3:s13=wv c:=hdep ⟨3,.data⟩ (by simp) rfl;subst h3;go_simp;refine(zbY pr c (by rw[HP.out];exact zo8 a b) _).mono ?_;rintro e y ⟨qq,rr,HQQ,HRR,rfl,hb⟩;obtain rfl:q=qq:=HQ.out.trans HQQ.out.symm;obtain rfl:r=rr:=HR.out.trans HRR.out.symm;dsimp only;refine hK _ _ ⟨⟨_,_,_,_,_,_,_,_,_,_,_,rfl,hs.call hb⟩,rfl,fun j hj hd hF=> ?_⟩;rotate_left;obtain rfl:=sj ho;refine wpOp_step rfl fun K hK=> ?_
  have h4:s14=.tuple #[wv8 q,wv r]:=hdep ⟨4,.data⟩ (by simp) rfl;subst h4;go_simp;refine hK _ _ ⟨⟨_,_,_,_,_,_,_,_,_,_,_,rfl,hs⟩,rfl,fun j hj hd hF=> ?_⟩;rotate_left;obtain rfl:=sj ho;refine wpOp_step rfl fun K hK=> ?_
  have h5:s9=.tuple #[wv8 q,wv r]:=hdep ⟨5,.data⟩ (by simp) rfl;subst h5;go_simp;refine hK _ _ ⟨⟨_,_,_,_,_,_,_,_,_,_,_,rfl,hs⟩,rfl,fun j hj hd hF=> ?_⟩;rotate_left;obtain rfl:=sj ho;refine wpOp_step rfl fun K hK=> ?_
  have h5:s9=.tuple #[wv8 q,wv r]:=hdep ⟨5,.data⟩ (by simp) rfl;subst h5;go_simp;refine hK _ _ ⟨⟨_,_,_,_,_,_,_,_,_,_,_,rfl,hs⟩,rfl,fun j hj hd hF=> ?_⟩;rotate_left;obtain rfl:=sj ho;refine wpOp_step rfl fun K hK=> ?_
  have zz:=hs.rz.lt;go_simp;refine hK _ _ ⟨⟨_,_,_,_,_,_,_,_,_,_,_,rfl,hs.alloc _⟩,⟨_,fun _=>0,rfl,YO _ rfl rfl rfl rfl rfl rfl rfl rfl rfl,zz⟩,fun j hj hd hF=> ?_⟩;rotate_left;obtain rfl:=sj ho;refine wpOp_step rfl fun K hK=> ?_
  have zz:=hs.rz.lt;go_simp;refine hK _ _ ⟨⟨_,_,_,_,_,_,_,_,_,_,_,rfl,hs.alloc _⟩,⟨_,fun _=>0,rfl,zk _ rfl rfl rfl rfl rfl,zz⟩,fun j hj hd hF=> ?_⟩;rotate_left
  ·obtain rfl:=sj ho;refine wpOp_step rfl fun K hK=> ?_
   have h8:∃(p:Nat) (f:Nat->Int),s7=.pointer (some ⟨p,0,none⟩)/\x.rowIs p 224 8 (zo f)/\w.heap.size+1+1+1<p:=hdep ⟨8,.data⟩ (by simp) rfl;have h6:s15=wv8 q:=hdep ⟨6,.data⟩ (by simp) rfl;subst h6;obtain⟨p7,f7,rfl,hr7,hl7⟩:=h8;obtain⟨y0,y1,y2,y3,y4,y5,y6,y7⟩:=yh hr7;have fz:=hr7.frozen;go_simp;refine hK _ _ ⟨⟨_,_,_,_,_,_,_,_,_,_,_,rfl,((((((((hs.set hl7 _).set hl7 _).set hl7 _).set hl7 _).set hl7 _).set hl7 _).set hl7 _).set hl7 _)⟩,⟨p7,rfl,zar hr7 (za q),hl7⟩,fun j hj hd hF=> ?_⟩;rcases Nat.lt_or_ge j 12 with hjn|hjn
   ·rcases i12 hjn with rfl|rfl|rfl|rfl|rfl|rfl|rfl|rfl|rfl|rfl|rfl|rfl
    ·have h:s10=wv a:=hF;exact h
    ·have h:s11=wv b:=hF;exact h
    ·have h:s12=wv8 pr:=hF;exact h
    ·have h:s13=wv c:=hF;exact h
    ·have h:s14=.tuple #[wv8 q,wv r]:=hF;exact h
    ·have h:s9=.tuple #[wv8 q,wv r]:=hF;exact h
    ·exact(rfl:(wv8 q:Value)=wv8 q)
    ·have h:s16=wv r:=hF;exact h
    ·exact⟨p7,za q,rfl,zar hr7 (za q),hl7⟩
    ·obtain⟨p,f,h1,h2,h3⟩:=hF;exact⟨p,f,h1,Yz h2 (YP h2 hr7 (by decide)) _ _ _ _ _ _ _ _,h3⟩
    ·exact absurd rfl hj
    ·obtain⟨p,h1,h2,h3⟩:=hF;exact⟨p,h1,Yz h2 (YP h2 hr7 (by decide)) _ _ _ _ _ _ _ _,h3⟩
   ·exact zhs _ _ _ _ _ _ _ _ hjn _ _
  ·obtain rfl:=sj ho;refine wpOp_step rfl fun K hK=> ?_
   have h9:∃(p:Nat) (f:Nat->Int),s8=.pointer (some ⟨p,0,none⟩)/\x.rowIs p 24 4 (zo f)/\w.heap.size+1+1+1<p:=hdep ⟨9,.data⟩ (by simp) rfl;have h7:s16=wv r:=hdep ⟨7,.data⟩ (by simp) rfl;subst h7;obtain⟨p8,f8,rfl,hr8,hl8⟩:=h9;obtain⟨y0,y1,y2,y3⟩:=ze hr8;have fz:=hr8.frozen;go_simp;refine hK _ _ ⟨⟨_,_,_,_,_,_,_,_,_,_,_,rfl,((((hs.set hl8 _).set hl8 _).set hl8 _).set hl8 _)⟩,⟨p8,rfl,zx hr8 (za r) rfl rfl rfl rfl,hl8⟩,fun j hj hd hF=> ?_⟩;rcases Nat.lt_or_ge j 12 with hjn|hjn
   ·rcases i12 hjn with rfl|rfl|rfl|rfl|rfl|rfl|rfl|rfl|rfl|rfl|rfl|rfl
    ·have h:s10=wv a:=hF;exact h
    ·have h:s11=wv b:=hF;exact h
    ·have h:s12=wv8 pr:=hF;exact h
    ·have h:s13=wv c:=hF;exact h
    ·have h:s14=.tuple #[wv8 q,wv r]:=hF;exact h
    ·have h:s9=.tuple #[wv8 q,wv r]:=hF;exact h
    ·have h:s15=wv8 q:=hF;exact h
    ·exact(rfl:(wv r:Value)=wv r)
    ·obtain⟨p,f,h1,h2,h3⟩:=hF;exact⟨p,f,h1,zU h2 (YP h2 hr8 (by decide)) _ _ _ _,h3⟩
    ·exact⟨p8,za r,rfl,zx hr8 (za r) rfl rfl rfl rfl,hl8⟩
    ·obtain⟨p,h1,h2,h3⟩:=hF;exact⟨p,h1,zU h2 (YP h2 hr8 (by decide)) _ _ _ _,h3⟩
    ·exact absurd rfl hj
   ·exact zhs _ _ _ _ _ _ _ _ hjn _ _
  all_goals
   rcases Nat.lt_or_ge j 12 with hjn|hjn
   ·rcases i12 hjn with rfl|rfl|rfl|rfl|rfl|rfl|rfl|rfl|rfl|rfl|rfl|rfl
    all_goals first
     |exact absurd rfl hj
     |exact hF
     |exact rfl
     |(obtain⟨p,f,h1,h2,h3⟩:=hF;exact⟨p,f,h1,h2,h3⟩)
     |(obtain⟨p,h1,h2,h3⟩:=hF;exact⟨p,h1,h2,h3⟩)
     |(obtain⟨p,f,h1,h2,h3⟩:=hF;exact⟨p,f,h1,zg h2 hb,h3⟩)
     |(obtain⟨p,h1,h2,h3⟩:=hF;exact⟨p,h1,zg h2 hb,h3⟩)
     |(obtain⟨p,f,h1,h2,h3⟩:=hF;exact⟨p,f,h1,h2.alloc _,h3⟩)
     |(obtain⟨p,h1,h2,h3⟩:=hF;exact⟨p,h1,h2.alloc _,h3⟩)
     |(exfalso;revert hd;exact of_decide_eq_true (by kernel_rfl))
   ·exact zhs _ _ _ _ _ _ _ _ hjn _ _
 ·intro s x hG hF;clear hS;obtain⟨s7,s8,s9,s10,s11,s12,s13,s14,s15,s16,s17,rfl,hs⟩:=hG;obtain⟨p,rfl,hr,hl⟩:∃(p:Nat),s8=.pointer (some ⟨p,0,none⟩)/\x.rowIs p 24 4 (zo (za r))/\w.heap.size+1+1+1<p:=hF 11 (by decide);clear hF;obtain⟨y0,y1,y2,y3⟩:=ze hr;have hrz:=hs.rz;have hbel:=hs.be;have z':=hbel.size;obtain⟨x0,x1,x2,x3⟩:=ze hrz;have fz:=hrz.frozen;go_wp2;obtain⟨q0,q1,q2,q3⟩:=ze (zx hrz (za r) rfl rfl rfl rfl);refine bodyPost_ret (v:=wv r) (by simp[results,results105,go_sem,q0,q1,q2,q3]) rfl (Zt (by rw[HR.out,HP.out];rfl) ?_);exact zB hbel (by omega) _ _ _ _
theorem zqC (x n:Nat) (hn:257<=n) (h:x<2*M):x<2^n:=by
 have e:2*2^(n - 1)=2^n:=by rw[Nat.mul_comm,<-Nat.pow_succ];congr 1;omega
 have:=zdy (n - 1) (by omega);omega
theorem sum_lt (a b:Nat):a%M+b%M<2^(64*8):=by
 have h1:=Nat.mod_lt a Yn;have h2:=Nat.mod_lt b Yn;have h:=zqC (a%M+b%M) (64*8) (by omega) (by omega);exact h
theorem zf4 (n j:Nat) (h:n<2*M) (hj:5<=j):za n j=0:=by
 rw[Zo];unfold zO;rw[Nat.div_eq_of_lt (zqC n (64*j) (by omega) h)];rfl
theorem zqe (a b s k:Nat) (hs:s=a+b) (hk:k=cy a b 4):za s 0=za (a%M+b%M) 0/\za s 1=za (a%M+b%M) 1/\za s 2=za (a%M+b%M) 2/\za s 3=za (a%M+b%M) 3/\(k:Int)=za (a%M+b%M) 4/\(0:Int)=za (a%M+b%M) 5/\(0:Int)=za (a%M+b%M) 6/\(0:Int)=za (a%M+b%M) 7:=by
 have h1:=Nat.mod_lt a Yn;have h2:=Nat.mod_lt b Yn;subst hs hk;refine⟨?_, ?_, ?_, ?_, ?_,(zf4 _ 5 (by omega) (by omega)).symm,(zf4 _ 6 (by omega) (by omega)).symm,(zf4 _ 7 (by omega) (by omega)).symm⟩
 ·unfold za M;rw[pw0];omega
 ·unfold za M;rw[pw1];omega
 ·unfold za M;rw[pw2];omega
 ·unfold za M;rw[pw3];omega
 ·unfold za cy M at*;rw[pw4];omega
theorem zlb (a b c:Nat) (w:World):Calls prog 104 #[wv a,wv b,wv c] w (Ret w (zmD (a%M) (b%M) (c%M))):=by
 have hs:=S4.start w a b c;go_enter func104,ntmps104;go_wp2_with fail
 refine(zbO a b _).mono ?_;rintro e w1 ⟨s,k,HS,HK,rfl,hb⟩;replace hs:=hs.call hb;clear hb;go_wp2_with fail
 refine(zg2 (za s 0) (za s 1) (za s 2) (za s 3) _).mono ?_;rintro e w2 ⟨rfl,hb⟩;replace hs:=(hs.alloc _).call hb;clear hb;obtain⟨n,HN⟩:∃n,Hid (n=a%M+b%M):=⟨_,rfl⟩
 obtain⟨g0,g1,g2,g3,g4,g5,g6,g7⟩:za s 0=za n 0/\za s 1=za n 1/\za s 2=za n 2/\za s 3=za n 3/\(k:Int)=za n 4/\(0:Int)=za n 5/\(0:Int)=za n 6/\(0:Int)=za n 7:=by
  rw[HN.out];exact zqe a b s k HS.out HK.out
 have G0:Hid (za s 0=za n 0):=g0;have G1:Hid (za s 1=za n 1):=g1;have G2:Hid (za s 2=za n 2):=g2;have G3:Hid (za s 3=za n 3):=g3;have G4:Hid ((k:Int)=za n 4):=g4;have G5:Hid ((0:Int)=za n 5):=g5;have G6:Hid ((0:Int)=za n 6):=g6;have G7:Hid ((0:Int)=za n 7):=g7;clear g0 g1 g2 g3 g4 g5 g6 g7;obtain⟨c0,c1,c2,c3⟩:=ze hs.rc;have zc:=hs.rc.lt;go_wp2_with fail
 have hw:Value.agg #[.int .u64 (za s 0),.int .u64 (za s 1),.int .u64 (za s 2),.int .u64 (za s 3),.int .u64 (k:Int),.int .u64 0,.int .u64 0,.int .u64 0]=wv8 n:=by
  unfold wv8;rw[G0.out,G1.out,G2.out,G3.out,G4.out,<-G5.out,<-G6.out,<-G7.out]
 rw[hw];refine(zbY n c (by rw[HN.out];exact sum_lt a b) _).mono ?_;rintro e w3 ⟨q,r,HQ,HR,rfl,hb⟩;replace hs:=(hs.alloc _).call hb;clear hb hw c0 c1 c2 c3 zc;have hrz:=hs.rz;have hbel:=hs.be;have z:=hrz.lt;have z2:w.heap.size+1+1+1<w3.heap.size+1:=Nat.lt_succ_of_lt z;have z':=hbel.size;obtain⟨x0,x1,x2,x3⟩:=ze hrz;have fz:=hrz.frozen;go_wp2;obtain⟨q0,q1,q2,q3⟩:=ze (zx hrz (za r) rfl rfl rfl rfl);refine bodyPost_ret (v:=wv r) (by simp[results,results104,go_sem,q0,q1,q2,q3,z,z2]) rfl (Zt (by rw[HR.out,HN.out];rfl) ?_);exact bal (bal (zB hbel (by omega) _ _ _ _) _) _
def Zx (op a b c:Nat):Nat:=
 if op=1 then ziD a b else if op=2 then zd0 a b else if op=3 then zfx a b else if op=4 then zgn a b else if op=5 then zgz a b else if op=6 then zbr a b else if op=7 then zgA a b
 else if op=8 then zmD a b c else if op=9 then zlN a b c else if op=10 then zhR a b else if op=11 then zgN a b
 else if op=16 then zcC (decide (a<b)) else if op=17 then zcC (decide (b<a)) else if op=18 then zcC (zga a b) else if op=19 then zcC (zga b a) else if op=20 then zcC (decide (a=b)) else if op=21 then zcC (decide (a=0))
 else if op=22 then a &&& b else if op=23 then a ||| b else if op=24 then a ^^^ b else if op=25 then zf8 a else if op=26 then zha a b else if op=27 then zcd a b else if op=28 then zey a b else if op=29 then zja a b else 0
def zfd (op:Nat):Int:=if 1<=op/\op<=11\/16<=op/\op<=29 then 0 else 1
def zeA (w:World) (n:Nat) (k:Int) (e:Ending) (w':World):Prop:=∃r:Nat,Hid (r=n)/\e=.returned (.tuple #[wv r,.int .i64 k])/\Below w.heap.size w w'
theorem zaC {w w':World} {n r:Nat} {k:Int} (h:r%M=n%M) (hb:Below w.heap.size w w'):zeA w n k (.returned (.tuple #[wv r,.int .i64 k])) w':=
 ⟨n,rfl,congrArg Ending.returned (by rw[yo h]),hb⟩
theorem and_mod (a b:Nat):(a &&& b)%M=(a%M &&& b%M)%M:=by
 rw[zmQ];apply Nat.eq_of_testBit_eq;intro i;simp only[Nat.testBit_mod_two_pow,Nat.testBit_and];cases decide (i<256)<;>simp
theorem or_mod (a b:Nat):(a ||| b)%M=(a%M ||| b%M)%M:=by
 rw[zmQ];apply Nat.eq_of_testBit_eq;intro i;simp only[Nat.testBit_mod_two_pow,Nat.testBit_or];cases decide (i<256)<;>simp
theorem xor_mod (a b:Nat):(a ^^^ b)%M=(a%M ^^^ b%M)%M:=by
 rw[zmQ];apply Nat.eq_of_testBit_eq;intro i;simp only[Nat.testBit_mod_two_pow,Nat.testBit_xor];cases decide (i<256)<;>simp
theorem add_red (a b:Nat):ziD a b=ziD (a%M) (b%M):=by unfold ziD;rw[Nat.add_mod]
theorem mul_red (a b:Nat):zd0 a b=zd0 (a%M) (b%M):=by unfold zd0;rw[Nat.mul_mod]
theorem sub_red (a b:Nat):zfx a b=zfx (a%M) b:=by unfold zfx;rw[Nat.add_mod a (M - b) M,Nat.add_mod (a%M) (M - b) M,Nat.mod_mod]
theorem shl_red (a b:Nat):zcd a b=zcd a (b%M):=by
 unfold zcd;split
 ·rw[Nat.mul_mod b (2^a) M,Nat.mul_mod (b%M) (2^a) M,Nat.mod_mod]
 ·rfl
theorem ah {p q:Prop} (h:q) (e:p):p/\Hid q:=⟨e,h⟩
theorem add_w (a b:Nat) (w:World):Calls prog 97 #[wv a,wv b] w (Ret w (ziD (a%M) (b%M))):=by rw[<-add_red];exact add_any a b w
theorem mul_w (a b:Nat) (w:World):Calls prog 98 #[wv a,wv b] w (Ret w (zd0 (a%M) (b%M))):=by rw[<-mul_red];exact zhI a b w
theorem sub_w (a b:Nat) (w:World):Calls prog 99 #[wv a,wv b] w (Ret w (zfx (a%M) (b%M))):=by rw[<-sub_red];exact zmq a b w
theorem shl_v (a b:Nat) (w:World):Calls prog 116 #[wv a,wv b] w (Ret w (zcd (a%M) (b%M))):=by rw[<-shl_red];exact shl_w a b w
theorem and_w (a b:Nat) (w:World):Calls prog 111 #[wv a,wv b] w (Ret w (a%M &&& b%M)):=by
 refine(and_any a b w).mono ?_;rintro e w' ⟨rfl,hb⟩;exact Zt (and_mod a b) hb
theorem or_w (a b:Nat) (w:World):Calls prog 112 #[wv a,wv b] w (Ret w (a%M ||| b%M)):=by
 refine(or_any a b w).mono ?_;rintro e w' ⟨rfl,hb⟩;exact Zt (or_mod a b) hb
theorem xor_w (a b:Nat) (w:World):Calls prog 113 #[wv a,wv b] w (Ret w (a%M ^^^ b%M)):=by
 refine(xor_any a b w).mono ?_;rintro e w' ⟨rfl,hb⟩;exact Zt (xor_mod a b) hb
theorem ar_all (op:Nat) (h:op=1\/op=2\/op=3\/op=4\/op=5\/op=6\/op=7\/op=8\/op=9\/op=10\/op=11) (a b c:Nat) (w:World):Calls prog 62 #[.int .u8 (op:Int),wv a,wv b,wv c] w (zeA w (Zx op (a%M) (b%M) (c%M)) 0):=by
 rcases h.imp (ah fun w=>add_w a b w) (Or.imp (ah fun w=>mul_w a b w) (Or.imp (ah fun w=>sub_w a b w) (Or.imp (ah fun w=>zmg a b w) (Or.imp (ah fun w=>zqA a b w) (Or.imp (ah fun w=>zmt a b w) (Or.imp (ah fun w=>zpP a b w) (Or.imp (ah fun w=>zlb a b c w) (Or.imp (ah fun w=>zkM a b c w) (Or.imp (ah fun w=>exp_any a b w) (ah fun w=>zfY a b w)))))))))) with⟨rfl,HC⟩|⟨rfl,HC⟩|⟨rfl,HC⟩|⟨rfl,HC⟩|⟨rfl,HC⟩|⟨rfl,HC⟩|⟨rfl,HC⟩|⟨rfl,HC⟩|⟨rfl,HC⟩|⟨rfl,HC⟩|⟨rfl,HC⟩
 all_goals
  have hs:=S4.start w a b c;go_enter func62,ntmps62;go_wp2_with fail
  refine(HC.out _).mono ?_;rintro e w1 ⟨s,HS,rfl,hb⟩;replace hs:=hs.call hb;clear hb;have hrz:=hs.rz;have hbel:=hs.be;obtain⟨x0,x1,x2,x3⟩:=ze hrz;have fz:=hrz.frozen;go_wp2;obtain⟨q0,q1,q2,q3⟩:=ze (zx hrz (za s) rfl rfl rfl rfl);refine bodyPost_ret (v:=.tuple #[wv s,.int .i64 0]) (by simp[results,results62,go_sem,q0,q1,q2,q3]) rfl (zaC (by rw[HS.out];simp[Zx]) (zB hbel (by omega) _ _ _ _))
theorem bi_all (op:Nat) (h:op=22\/op=23\/op=24\/op=25\/op=26\/op=27\/op=28\/op=29) (a b c:Nat) (w:World):Calls prog 64 #[.int .u8 (op:Int),wv a,wv b] w (zeA w (Zx op (a%M) (b%M) (c%M)) 0):=by
 rcases h.imp (ah fun w=>and_w a b w) (Or.imp (ah fun w=>or_w a b w) (Or.imp (ah fun w=>xor_w a b w) (Or.imp (ah fun w=>not_w a w) (Or.imp (ah fun w=>zkX a b w) (Or.imp (ah fun w=>shl_v a b w) (Or.imp (ah fun w=>zmC a b w) (ah fun w=>zl1 a b w))))))) with⟨rfl,HC⟩|⟨rfl,HC⟩|⟨rfl,HC⟩|⟨rfl,HC⟩|⟨rfl,HC⟩|⟨rfl,HC⟩|⟨rfl,HC⟩|⟨rfl,HC⟩
 all_goals
  have hs:=SS.start w a b;go_enter func64,ntmps64;go_wp2_with fail
  refine(HC.out _).mono ?_;rintro e w1 ⟨s,HS,rfl,hb⟩;replace hs:=hs.call hb;clear hb;have hrz:=hs.rz;have hbel:=hs.be;obtain⟨x0,x1,x2,x3⟩:=ze hrz;have fz:=hrz.frozen;go_wp2;obtain⟨q0,q1,q2,q3⟩:=ze (zx hrz (za s) rfl rfl rfl rfl);refine bodyPost_ret (v:=.tuple #[wv s,.int .i64 0]) (by simp[results,results64,go_sem,q0,q1,q2,q3]) rfl (zaC (by rw[HS.out];simp[Zx]) (zB hbel (by omega) _ _ _ _))
theorem co_all (op:Nat) (h:op=16\/op=17\/op=18\/op=19) (a b c:Nat) (w:World):Calls prog 63 #[.int .u8 (op:Int),wv a,wv b] w (zeA w (Zx op (a%M) (b%M) (c%M)) 0):=by
 rcases h.imp (ah fun w=>zh4 a b w) (Or.imp (ah fun w=>zh4 b a w) (Or.imp (ah fun w=>zbw a b w) (ah fun w=>zbw b a w))) with⟨rfl,HC⟩|⟨rfl,HC⟩|⟨rfl,HC⟩|⟨rfl,HC⟩
 all_goals
  have hs:=SS.start w a b;go_enter func63,ntmps63;go_wp2_with fail
  refine(HC.out _).mono ?_;rintro e w1 ⟨t,HT,rfl,hb⟩;replace hs:=hs.call hb;clear hb;go_wp2_with fail
  refine(zgV t _).mono ?_;rintro e w2 ⟨s,HS,rfl,hb⟩;replace hs:=hs.call hb;clear hb;have hrz:=hs.rz;have hbel:=hs.be;obtain⟨x0,x1,x2,x3⟩:=ze hrz;have fz:=hrz.frozen;go_wp2;obtain⟨q0,q1,q2,q3⟩:=ze (zx hrz (za s) rfl rfl rfl rfl);refine bodyPost_ret (v:=.tuple #[wv s,.int .i64 0]) (by simp[results,results63,go_sem,q0,q1,q2,q3]) rfl (zaC (by rw[HS.out,HT.out];simp[Zx]) (zB hbel (by omega) _ _ _ _))
theorem co_eq (op:Nat) (h:op=20\/op=21) (a b c:Nat) (w:World):Calls prog 63 #[.int .u8 (op:Int),wv a,wv b] w (zeA w (Zx op (a%M) (b%M) (c%M)) 0):=by
 rcases h.imp (fun e:op=20=>(⟨_,e,rfl,fun w=>by rw[zde];rfl⟩:∃t:Bool,op=20/\Hid (t=decide (a%M=b%M))/\∀w,(Op.equalIn 10000 24 (wv a) (wv b)).run prog w=.ok t w)) (fun e:op=21=>(⟨_,e,rfl,fun w=>by rw[Z8];rfl⟩:∃t:Bool,op=21/\Hid (t=decide (a%M=0))/\∀w,(Op.equalIn 10000 24 (wv a) (.agg #[.int .u64 0,.int .u64 0,.int .u64 0,.int .u64 0])).run prog w=.ok t w)) with⟨t,rfl,HT,he⟩|⟨t,rfl,HT,he⟩
 all_goals
  have hs:=SS.start w a b;go_enter func63,ntmps63;go_wp2_with fail
  refine(zgV t _).mono ?_;rintro e w2 ⟨s,HS,rfl,hb⟩;replace hs:=hs.call hb;clear hb;have hrz:=hs.rz;have hbel:=hs.be;obtain⟨x0,x1,x2,x3⟩:=ze hrz;have fz:=hrz.frozen;go_wp2;obtain⟨q0,q1,q2,q3⟩:=ze (zx hrz (za s) rfl rfl rfl rfl);refine bodyPost_ret (v:=.tuple #[wv s,.int .i64 0]) (by simp[results,results63,go_sem,q0,q1,q2,q3]) rfl (zaC (by rw[HS.out,HT.out];simp[Zx]) (zB hbel (by omega) _ _ _ _))
theorem ar_no (op:Nat) (h:op=0) (a b c:Nat) (w:World):Calls prog 62 #[.int .u8 (op:Int),wv a,wv b,wv c] w (zeA w 0 1):=by
 subst h;have hs:=S4.start w a b c;go_enter func62,ntmps62;have hrz:=hs.rz;have hbel:=hs.be;go_wp2;exact bodyPost_ret (v:=.tuple #[wv 0,.int .i64 1]) (by rw[<-zdn];simp[results,results62,go_sem]) rfl (zaC rfl hs.be)
theorem co_no (op:Nat) (h:op=12\/op=13\/op=14\/op=15) (a b c:Nat) (w:World):Calls prog 63 #[.int .u8 (op:Int),wv a,wv b] w (zeA w 0 1):=by
 rcases h with rfl|rfl|rfl|rfl
 all_goals
  have hs:=SS.start w a b;go_enter func63,ntmps63;have hrz:=hs.rz;have hbel:=hs.be;go_wp2;exact bodyPost_ret (v:=.tuple #[wv 0,.int .i64 1]) (by rw[<-zdn];simp[results,results63,go_sem]) rfl (zaC rfl hs.be)
theorem bi_no (op:Nat) (h:30<=op/\op<=255) (a b c:Nat) (w:World):Calls prog 64 #[.int .u8 (op:Int),wv a,wv b] w (zeA w 0 1):=by
 obtain⟨ho,ho2⟩:=h;have hs:=SS.start w a b;go_enter func64,ntmps64;have hrz:=hs.rz;have hbel:=hs.be;go_wp2;exact bodyPost_ret (v:=.tuple #[wv 0,.int .i64 1]) (by rw[<-zdn];simp[results,results64,go_sem]) rfl (zaC rfl hs.be)
theorem hidw {p:Prop} (h:p):Hid p:=h
theorem ar_any (op:Nat) (ho:op<=11) (a b c:Nat) (w:World):Calls prog 62 #[.int .u8 (op:Int),wv a,wv b,wv c] w (zeA w (Zx op (a%M) (b%M) (c%M)) (zfd op)):=by
 by_cases h:op=0
 ·subst h;exact ar_no 0 rfl a b c w
 ·rw[show zfd op=0 from if_pos (by omega)];exact ar_all op (by omega) a b c w
theorem co_any (op:Nat) (ho:12<=op) (h2:op<=21) (a b c:Nat) (w:World):Calls prog 63 #[.int .u8 (op:Int),wv a,wv b] w (zeA w (Zx op (a%M) (b%M) (c%M)) (zfd op)):=by
 by_cases h:op<=15
 ·rw[show Zx op (a%M) (b%M) (c%M)=0 by unfold Zx;repeat rw[if_neg (by omega)],show zfd op=1 from if_neg (by omega)];exact co_no op (by omega) a b c w
 ·rw[show zfd op=0 from if_pos (by omega)];by_cases h:op<=19
  ·exact co_all op (by omega) a b c w
  ·exact co_eq op (by omega) a b c w
theorem bi_any (op:Nat) (ho:22<=op) (h2:op<=255) (a b c:Nat) (w:World):Calls prog 64 #[.int .u8 (op:Int),wv a,wv b] w (zeA w (Zx op (a%M) (b%M) (c%M)) (zfd op)):=by
 by_cases h:op<=29
 ·rw[show zfd op=0 from if_pos (by omega)];exact bi_all op (by omega) a b c w
 ·rw[show Zx op (a%M) (b%M) (c%M)=0 by unfold Zx;repeat rw[if_neg (by omega)],show zfd op=1 from if_neg (by omega)];exact bi_no op (by omega) a b c w
theorem zds (op:Nat) (ho:op<=255) (a b c:Nat) (w:World):Calls prog 36 #[.int .u8 (op:Int),wv a,wv b,wv c] w (zeA w (Zx op (a%M) (b%M) (c%M)) (zfd op)):=by
 rcases(by omega:op<=11\/(12<=op/\op<=21)\/22<=op).imp (fun h=>And.intro h (hidw fun w=>ar_any op h a b c w)) (Or.imp (fun h=>And.intro h (hidw fun w=>co_any op h.1 h.2 a b c w)) (fun h=>And.intro h (hidw fun w=>bi_any op h ho a b c w))) with⟨h,HC⟩|⟨⟨h,h2⟩,HC⟩|⟨h,HC⟩
 all_goals
  have hs:=S4.start w a b c;go_enter func36,ntmps36;go_wp2_with fail
  refine(HC.out _).mono ?_;rintro e w1 ⟨s,HS,rfl,hb⟩;replace hs:=hs.call hb;clear hb;have hrz:=hs.rz;have hbel:=hs.be;obtain⟨x0,x1,x2,x3⟩:=ze hrz;have fz:=hrz.frozen;go_wp2;obtain⟨q0,q1,q2,q3⟩:=ze (zx hrz (za s) rfl rfl rfl rfl);refine bodyPost_ret (v:=.tuple #[wv s,.int .i64 (zfd op)]) (by simp[results,results36,go_sem,q0,q1,q2,q3]) rfl (zaC (by rw[HS.out]) (zB hbel (by omega) _ _ _ _))
theorem zcA (n:Nat) (hn:n<9223372036854775808) (w:World):Calls prog 12 #[.int .i64 (n:Int)] w (Ret w n):=by
 obtain⟨g0,g1,g2,g3⟩:=ZM n (by omega);have G0:Hid (za n 0=(n:Int)):=g0;have G1:Hid (za n 1=0):=g1;have G2:Hid (za n 2=0):=g2;have G3:Hid (za n 3=0):=g3;clear g0 g1 g2 g3;go_enter func12,ntmps12;go_wp2;refine bodyPost_ret (v:=wv n) (by unfold wv;rw[G0.out,G1.out,G2.out,G3.out];simp[results,results12,go_sem]) rfl (Zt rfl ?_);exact bal (bal (Below.refl _ _) _) _
end cin
end Go.Proofs.YtohoajjdoihekaaGreatDoor
