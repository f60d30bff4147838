import Derived.Test.YtohoajjdoihekaaGreatDoorTd
import Derived.RegionTactic
set_option linter.unusedVariables false
set_option linter.unusedSimpArgs false
namespace Go.Proofs.YtohoajjdoihekaaGreatDoor
namespace cin
open Go.RowKit Go.Proofs.Tryz Tryz
set_option maxRecDepth 100000
set_option maxHeartbeats 8000000
structure SS (w:World) (a b:Nat) (x:World):Prop where
 ra:x.rowIs w.heap.size 24 4 (zj (za a))
 rb:x.rowIs (w.heap.size+1) 24 4 (zj (za b))
 rz:x.rowIs (w.heap.size+1+1) 24 4 (zj fun _=>0)
 be:Below w.heap.size w x
theorem SS.drew {w:World} {a b:Nat} {x:World} (h:SS w a b x):SS w a b x.drew:=⟨h.ra,h.rb,h.rz,h.be.drew⟩
theorem SS.alloc {w:World} {a b:Nat} {x:World} (h:SS w a b x) (o:Obj):SS w a b (x.alloc o):=⟨h.ra.alloc _,h.rb.alloc _,h.rz.alloc _,bal h.be _⟩
theorem SS.call {w:World} {a b:Nat} {x y:World} (h:SS w a b x) (hb:Below x.heap.size x y):SS w a b y:=⟨zf h.ra hb,zf h.rb hb,zf h.rz hb,zD h.be hb⟩
theorem SS.set {w:World} {a b:Nat} {x:World} (h:SS w a b x) {p:Addr} (hp:w.heap.size+1+1<p.block) (v:Value):SS w a b (x.setCell p v):=
 ⟨h.ra.setOther (by omega) _,h.rb.setOther (by omega) _,h.rz.setOther (by omega) _,h.be.setCell (by omega) _⟩
theorem SS.start (w:World) (a b:Nat):SS w a b (((w.alloc (.cells #[.int .u64 (za a 0),.int .u64 (za a 1),.int .u64 (za a 2),.int .u64 (za a 3)] 24)).alloc (.cells #[.int .u64 (za b 0),.int .u64 (za b 1),.int .u64 (za b 2),.int .u64 (za b 3)] 24)).alloc (.cells #[.int .u64 0,.int .u64 0,.int .u64 0,.int .u64 0] 24)):=
 ⟨zh (za a) rfl rfl rfl rfl rfl |>.alloc _ |>.alloc _,zh (za b) (by simp) rfl rfl rfl rfl |>.alloc _,zh (fun _=>0) (by simp) rfl rfl rfl rfl,bal (bal (bal (Below.refl _ _) _) _) _⟩
theorem i11 {i:Nat} (h:i<11):i=0\/i=1\/i=2\/i=3\/i=4\/i=5\/i=6\/i=7\/i=8\/i=9\/i=10:=by omega
def Fdiv (N a am b q r:Nat):Nat->Act->World->Prop
 |0,s,_=>s.tmps.getD 8 undef=wv a
 |1,s,_=>s.tmps.getD 9 undef=wv8 am
 |2,s,_=>s.tmps.getD 10 undef=wv b
 |3,s,_=>s.tmps.getD 11 undef=.tuple #[wv8 q,wv r]
 |4,s,_=>s.tmps.getD 7 undef=.tuple #[wv8 q,wv r]
 |5,s,_=>s.tmps.getD 12 undef=wv8 q
 |6,s,_=>s.tmps.getD 13 undef=wv r
 |7,s,x=>∃(p:Nat) (f:Nat->Int),s.tmps.getD 5 undef=.pointer (some ⟨p,0,none⟩)/\x.rowIs p 224 8 (zj f)/\N<p
 |8,s,x=>∃(p:Nat) (f:Nat->Int),s.tmps.getD 6 undef=.pointer (some ⟨p,0,none⟩)/\x.rowIs p 24 4 (zj f)/\N<p
 |9,s,x=>∃p:Nat,s.tmps.getD 5 undef=.pointer (some ⟨p,0,none⟩)/\x.rowIs p 224 8 (zj (za q))/\N<p
 |10,s,x=>∃p:Nat,s.tmps.getD 6 undef=.pointer (some ⟨p,0,none⟩)/\x.rowIs p 24 4 (zj (za r))/\N<p
 |_,_,_=>True
theorem yV (N a am b q r j:Nat) (h:11<=j) (s:Act) (x:World):Fdiv N a am b q r j s x:=by
 match j,h with
 |j+11,_=>trivial
theorem yw {x:World} {p p':Nat} {t t':TypeId} {n n':Nat} {f f':Nat->Value} (h:x.rowIs p t n f) (h':x.rowIs p' t' n' f') (ht:t≠t'):p≠p':=by
 rintro rfl;obtain⟨c,hb,_,_⟩:=h;obtain⟨c',hb',_,_⟩:=h';rw[hb] at hb';injection hb' with e
 injection e with _ e2
 exact ht e2
def Gdiv (w:World) (a b:Nat) (s:Act) (x:World):Prop:=∃s5 s6 s7 s8 s9 s10 s11 s12 s13:Value,
 s=⟨#[wv a,wv b,.pointer (some ⟨w.heap.size,0,none⟩),.pointer (some ⟨w.heap.size+1,0,none⟩),.pointer (some ⟨w.heap.size+1+1,0,none⟩),s5,s6,s7,s8,s9,s10,s11,s12,s13,undef,undef],[]⟩/\SS w a b x
def Gmod (w:World) (a b:Nat) (s:Act) (x:World):Prop:=∃s5 s6 s7 s8 s9 s10 s11 s12 s13:Value,
 s=⟨#[wv a,wv b,.pointer (some ⟨w.heap.size,0,none⟩),.pointer (some ⟨w.heap.size+1,0,none⟩),.pointer (some ⟨w.heap.size+1+1,0,none⟩),s5,s6,s7,s8,s9,s10,s11,s12,s13,undef],[]⟩/\SS w a b x
theorem ziU (a b:Nat) (w:World):Calls prog 100 #[wv a,wv b] w (Ret w (zdm (a%M) (b%M))):=by
 obtain⟨am,HA⟩:∃am,Hid (am=a%M):=⟨_,rfl⟩;obtain⟨q,HQ⟩:∃q,Hid (q=am/(b%M)):=⟨_,rfl⟩;obtain⟨r,HR⟩:∃r,Hid (r=YC am (b%M)):=⟨_,rfl⟩;have hS:=SS.start w a b;go_enter func100,ntmps100;go_wp2;refine zR (by kernel_rfl) (Gdiv w a b) (Fdiv (w.heap.size+1+1) a am b q r) (ZX (by kernel_rfl)) ?_ ?_ ?_
 ·exact⟨_,_,_,_,_,_,_,_,_,rfl,hS.drew⟩
 ·intro i o ho s x hG hdep;clear hS;obtain⟨s5,s6,s7,s8,s9,s10,s11,s12,s13,rfl,hs⟩:=hG;have hi:i<11:=(Array.getElem?_eq_some_iff.1 ho).1;rcases i11 hi with rfl|rfl|rfl|rfl|rfl|rfl|rfl|rfl|rfl|rfl|rfl;obtain rfl:=sj ho;refine wpOp_step rfl fun K hK=> ?_
  obtain⟨y0,y1,y2,y3⟩:=zb hs.ra;go_simp;refine hK _ _ ⟨⟨_,_,_,_,_,_,_,_,_,rfl,hs⟩,rfl,fun j hj hd hF=> ?_⟩;rotate_left;obtain rfl:=sj ho;refine wpOp_step rfl fun K hK=> ?_
  have h0:s8=wv a:=hdep ⟨0,.data⟩ (by simp) rfl;subst h0;go_simp;refine(ziG a _).mono ?_;rintro e y ⟨rr,HRR,rfl,hb⟩;obtain rfl:rr=am:=HRR.out.trans HA.out.symm;dsimp only;refine hK _ _ ⟨⟨_,_,_,_,_,_,_,_,_,rfl,hs.call hb⟩,rfl,fun j hj hd hF=> ?_⟩;rotate_left;obtain rfl:=sj ho;refine wpOp_step rfl fun K hK=> ?_
  obtain⟨y0,y1,y2,y3⟩:=zb hs.rb;go_simp;refine hK _ _ ⟨⟨_,_,_,_,_,_,_,_,_,rfl,hs⟩,rfl,fun j hj hd hF=> ?_⟩;rotate_left;obtain rfl:=sj ho;refine wpOp_step rfl fun K hK=> ?_
  have h0:s9=wv8 am:=hdep ⟨1,.data⟩ (by simp) rfl;have h2:s10=wv b:=hdep ⟨2,.data⟩ (by simp) rfl;subst h0 h2;go_simp;refine(zaf am b (by rw[HA.out];exact lt512 a) _).mono ?_;rintro e y ⟨qq,rr,HQQ,HRR,rfl,hb⟩;obtain rfl:qq=q:=HQQ.out.trans HQ.out.symm;obtain rfl:rr=r:=HRR.out.trans HR.out.symm;dsimp only;refine hK _ _ ⟨⟨_,_,_,_,_,_,_,_,_,rfl,hs.call hb⟩,rfl,fun j hj hd hF=> ?_⟩;rotate_left;obtain rfl:=sj ho;refine wpOp_step rfl fun K hK=> ?_
  have h0:s11=.tuple #[wv8 q,wv r]:=hdep ⟨3,.data⟩ (by simp) rfl;subst h0;go_simp;refine hK _ _ ⟨⟨_,_,_,_,_,_,_,_,_,rfl,hs⟩,rfl,fun j hj hd hF=> ?_⟩;rotate_left;obtain rfl:=sj ho;refine wpOp_step rfl fun K hK=> ?_
  have h0:s7=.tuple #[wv8 q,wv r]:=hdep ⟨4,.data⟩ (by simp) rfl;subst h0;go_simp;refine hK _ _ ⟨⟨_,_,_,_,_,_,_,_,_,rfl,hs⟩,rfl,fun j hj hd hF=> ?_⟩;rotate_left;obtain rfl:=sj ho;refine wpOp_step rfl fun K hK=> ?_
  have h0:s7=.tuple #[wv8 q,wv r]:=hdep ⟨4,.data⟩ (by simp) rfl;subst h0;go_simp;refine hK _ _ ⟨⟨_,_,_,_,_,_,_,_,_,rfl,hs⟩,rfl,fun j hj hd hF=> ?_⟩;rotate_left;obtain rfl:=sj ho;refine wpOp_step rfl fun K hK=> ?_
  have zz:=hs.rz.lt;go_simp;refine hK _ _ ⟨⟨_,_,_,_,_,_,_,_,_,rfl,hs.alloc _⟩,⟨_,fun _=>0,rfl,yr _ rfl rfl rfl rfl rfl rfl rfl rfl rfl,zz⟩,fun j hj hd hF=> ?_⟩;rotate_left;obtain rfl:=sj ho;refine wpOp_step rfl fun K hK=> ?_
  have zz:=hs.rz.lt;go_simp;refine hK _ _ ⟨⟨_,_,_,_,_,_,_,_,_,rfl,hs.alloc _⟩,⟨_,fun _=>0,rfl,zh _ rfl rfl rfl rfl rfl,zz⟩,fun j hj hd hF=> ?_⟩;rotate_left
  ·obtain rfl:=sj ho;refine wpOp_step rfl fun K hK=> ?_
   have h7:∃(p:Nat) (f:Nat->Int),s5=.pointer (some ⟨p,0,none⟩)/\x.rowIs p 224 8 (zj f)/\w.heap.size+1+1<p:=hdep ⟨7,.data⟩ (by simp) rfl;have h0:s12=wv8 q:=hdep ⟨5,.data⟩ (by simp) rfl;obtain⟨p5,f5,rfl,hr5,hl5⟩:=h7;subst h0;obtain⟨y0,y1,y2,y3,y4,y5,y6,y7⟩:=Zu hr5;have fz:=hr5.frozen;go_simp;refine hK _ _ ⟨⟨_,_,_,_,_,_,_,_,_,rfl,((((((((hs.set hl5 _).set hl5 _).set hl5 _).set hl5 _).set hl5 _).set hl5 _).set hl5 _).set hl5 _)⟩,⟨p5,rfl,yG hr5 (za q),hl5⟩,fun j hj hd hF=> ?_⟩
   ·rcases Nat.lt_or_ge j 11 with hj11|hj11
    ·rcases i11 hj11 with rfl|rfl|rfl|rfl|rfl|rfl|rfl|rfl|rfl|rfl|rfl
     ·have h:s8=wv a:=hF;exact h
     ·have h:s9=wv8 am:=hF;exact h
     ·have h:s10=wv b:=hF;exact h
     ·have h:s11=.tuple #[wv8 q,wv r]:=hF;exact h
     ·have h:s7=.tuple #[wv8 q,wv r]:=hF;exact h
     ·exact(rfl:wv8 q=wv8 q)
     ·have h:s13=wv r:=hF;exact h
     ·exact⟨p5,za q,rfl,yG hr5 (za q),hl5⟩
     ·obtain⟨p,f,h1,h2,h3⟩:=hF;exact⟨p,f,h1,yg h2 (yw h2 hr5 (by decide)) _ _ _ _ _ _ _ _,h3⟩
     ·exact absurd rfl hj
     ·obtain⟨p,h1,h2,h3⟩:=hF;exact⟨p,h1,yg h2 (yw h2 hr5 (by decide)) _ _ _ _ _ _ _ _,h3⟩
    ·exact yV _ _ _ _ _ _ _ hj11 _ _
  ·obtain rfl:=sj ho;refine wpOp_step rfl fun K hK=> ?_
   have h8:∃(p:Nat) (f:Nat->Int),s6=.pointer (some ⟨p,0,none⟩)/\x.rowIs p 24 4 (zj f)/\w.heap.size+1+1<p:=hdep ⟨8,.data⟩ (by simp) rfl;have h0:s13=wv r:=hdep ⟨6,.data⟩ (by simp) rfl;obtain⟨p6,f6,rfl,hr6,hl6⟩:=h8;subst h0;obtain⟨y0,y1,y2,y3⟩:=zb hr6;have fz:=hr6.frozen;go_simp;refine hK _ _ ⟨⟨_,_,_,_,_,_,_,_,_,rfl,((((hs.set hl6 _).set hl6 _).set hl6 _).set hl6 _)⟩,⟨p6,rfl,zm hr6 (za r) rfl rfl rfl rfl,hl6⟩,fun j hj hd hF=> ?_⟩
   ·rcases Nat.lt_or_ge j 11 with hj11|hj11
    ·rcases i11 hj11 with rfl|rfl|rfl|rfl|rfl|rfl|rfl|rfl|rfl|rfl|rfl
     ·have h:s8=wv a:=hF;exact h
     ·have h:s9=wv8 am:=hF;exact h
     ·have h:s10=wv b:=hF;exact h
     ·have h:s11=.tuple #[wv8 q,wv r]:=hF;exact h
     ·have h:s7=.tuple #[wv8 q,wv r]:=hF;exact h
     ·have h:s12=wv8 q:=hF;exact h
     ·exact(rfl:wv r=wv r)
     ·obtain⟨p,f,h1,h2,h3⟩:=hF;exact⟨p,f,h1,zE h2 (yw h2 hr6 (by decide)) _ _ _ _,h3⟩
     ·exact⟨p6,za r,rfl,zm hr6 (za r) rfl rfl rfl rfl,hl6⟩
     ·obtain⟨p,h1,h2,h3⟩:=hF;exact⟨p,h1,zE h2 (yw h2 hr6 (by decide)) _ _ _ _,h3⟩
     ·exact absurd rfl hj
    ·exact yV _ _ _ _ _ _ _ hj11 _ _
  all_goals
   rcases Nat.lt_or_ge j 11 with hj11|hj11
   ·rcases i11 hj11 with rfl|rfl|rfl|rfl|rfl|rfl|rfl|rfl|rfl|rfl|rfl
    all_goals first
     |exact absurd rfl hj
     |exact hF
     |(obtain⟨p,f,h1,h2,h3⟩:=hF;exact⟨p,f,h1,h2,h3⟩)
     |(obtain⟨p,h1,h2,h3⟩:=hF;exact⟨p,h1,h2,h3⟩)
     |(obtain⟨p,f,h1,h2,h3⟩:=hF;exact⟨p,f,h1,zf h2 hb,h3⟩)
     |(obtain⟨p,h1,h2,h3⟩:=hF;exact⟨p,h1,zf h2 hb,h3⟩)
     |(obtain⟨p,f,h1,h2,h3⟩:=hF;exact⟨p,f,h1,h2.alloc _,h3⟩)
     |(obtain⟨p,h1,h2,h3⟩:=hF;exact⟨p,h1,h2.alloc _,h3⟩)
     |(exfalso;revert hd;exact of_decide_eq_true (by kernel_rfl))
   ·exact yV _ _ _ _ _ _ _ hj11 _ _
 ·intro s x hG hF;clear hS;obtain⟨s5,s6,s7,s8,s9,s10,s11,s12,s13,rfl,hs⟩:=hG;obtain⟨p,rfl,hr,hl⟩:∃p:Nat,s5=.pointer (some ⟨p,0,none⟩)/\x.rowIs p 224 8 (zj (za q))/\w.heap.size+1+1<p:=hF 9 (by decide);clear hF;obtain⟨y0,y1,y2,y3,y4,y5,y6,y7⟩:=Zu hr;go_wp2_with fail
  refine(low_w q _).mono ?_;rintro e w2 ⟨rfl,hb⟩;have hrz:=zf hs.rz hb;have hbel:=zD hs.be hb;have z:=hrz.lt;have z':=hbel.size;obtain⟨x0,x1,x2,x3⟩:=zb hrz;have fz:=hrz.frozen;clear hb;go_wp2;obtain⟨q0,q1,q2,q3⟩:=zb (zm hrz (za q) rfl rfl rfl rfl);refine bodyPost_ret (v:=wv q) (by simp[results,results100,go_sem,q0,q1,q2,q3,z]) rfl (zK (by rw[HQ.out,HA.out];rfl) ?_);exact zn hbel (by omega) _ _ _ _
theorem ziV (a b:Nat) (w:World):Calls prog 102 #[wv a,wv b] w (Ret w (YC (a%M) (b%M))):=by
 obtain⟨am,HA⟩:∃am,Hid (am=a%M):=⟨_,rfl⟩;obtain⟨q,HQ⟩:∃q,Hid (q=am/(b%M)):=⟨_,rfl⟩;obtain⟨r,HR⟩:∃r,Hid (r=YC am (b%M)):=⟨_,rfl⟩;have hS:=SS.start w a b;go_enter func102,ntmps102;go_wp2;refine zR (by kernel_rfl) (Gmod w a b) (Fdiv (w.heap.size+1+1) a am b q r) (ZX (by kernel_rfl)) ?_ ?_ ?_
 ·exact⟨_,_,_,_,_,_,_,_,_,rfl,hS.drew⟩
 ·intro i o ho s x hG hdep;clear hS;obtain⟨s5,s6,s7,s8,s9,s10,s11,s12,s13,rfl,hs⟩:=hG;have hi:i<11:=(Array.getElem?_eq_some_iff.1 ho).1;rcases i11 hi with rfl|rfl|rfl|rfl|rfl|rfl|rfl|rfl|rfl|rfl|rfl;obtain rfl:=sj ho;refine wpOp_step rfl fun K hK=> ?_
  obtain⟨y0,y1,y2,y3⟩:=zb hs.ra;go_simp;refine hK _ _ ⟨⟨_,_,_,_,_,_,_,_,_,rfl,hs⟩,rfl,fun j hj hd hF=> ?_⟩;rotate_left;obtain rfl:=sj ho;refine wpOp_step rfl fun K hK=> ?_
  have h0:s8=wv a:=hdep ⟨0,.data⟩ (by simp) rfl;subst h0;go_simp;refine(ziG a _).mono ?_;rintro e y ⟨rr,HRR,rfl,hb⟩;obtain rfl:rr=am:=HRR.out.trans HA.out.symm;dsimp only;refine hK _ _ ⟨⟨_,_,_,_,_,_,_,_,_,rfl,hs.call hb⟩,rfl,fun j hj hd hF=> ?_⟩;rotate_left;obtain rfl:=sj ho;refine wpOp_step rfl fun K hK=> ?_
  obtain⟨y0,y1,y2,y3⟩:=zb hs.rb;go_simp;refine hK _ _ ⟨⟨_,_,_,_,_,_,_,_,_,rfl,hs⟩,rfl,fun j hj hd hF=> ?_⟩;rotate_left;obtain rfl:=sj ho;refine wpOp_step rfl fun K hK=> ?_
  have h0:s9=wv8 am:=hdep ⟨1,.data⟩ (by simp) rfl;have h2:s10=wv b:=hdep ⟨2,.data⟩ (by simp) rfl;subst h0 h2;go_simp;refine(zaf am b (by rw[HA.out];exact lt512 a) _).mono ?_;rintro e y ⟨qq,rr,HQQ,HRR,rfl,hb⟩;obtain rfl:qq=q:=HQQ.out.trans HQ.out.symm;obtain rfl:rr=r:=HRR.out.trans HR.out.symm;dsimp only;refine hK _ _ ⟨⟨_,_,_,_,_,_,_,_,_,rfl,hs.call hb⟩,rfl,fun j hj hd hF=> ?_⟩;rotate_left;obtain rfl:=sj ho;refine wpOp_step rfl fun K hK=> ?_
  have h0:s11=.tuple #[wv8 q,wv r]:=hdep ⟨3,.data⟩ (by simp) rfl;subst h0;go_simp;refine hK _ _ ⟨⟨_,_,_,_,_,_,_,_,_,rfl,hs⟩,rfl,fun j hj hd hF=> ?_⟩;rotate_left;obtain rfl:=sj ho;refine wpOp_step rfl fun K hK=> ?_
  have h0:s7=.tuple #[wv8 q,wv r]:=hdep ⟨4,.data⟩ (by simp) rfl;subst h0;go_simp;refine hK _ _ ⟨⟨_,_,_,_,_,_,_,_,_,rfl,hs⟩,rfl,fun j hj hd hF=> ?_⟩;rotate_left;obtain rfl:=sj ho;refine wpOp_step rfl fun K hK=> ?_
  have h0:s7=.tuple #[wv8 q,wv r]:=hdep ⟨4,.data⟩ (by simp) rfl;subst h0;go_simp;refine hK _ _ ⟨⟨_,_,_,_,_,_,_,_,_,rfl,hs⟩,rfl,fun j hj hd hF=> ?_⟩;rotate_left;obtain rfl:=sj ho;refine wpOp_step rfl fun K hK=> ?_
  have zz:=hs.rz.lt;go_simp;refine hK _ _ ⟨⟨_,_,_,_,_,_,_,_,_,rfl,hs.alloc _⟩,⟨_,fun _=>0,rfl,yr _ rfl rfl rfl rfl rfl rfl rfl rfl rfl,zz⟩,fun j hj hd hF=> ?_⟩;rotate_left;obtain rfl:=sj ho;refine wpOp_step rfl fun K hK=> ?_
  have zz:=hs.rz.lt;go_simp;refine hK _ _ ⟨⟨_,_,_,_,_,_,_,_,_,rfl,hs.alloc _⟩,⟨_,fun _=>0,rfl,zh _ rfl rfl rfl rfl rfl,zz⟩,fun j hj hd hF=> ?_⟩;rotate_left
  ·obtain rfl:=sj ho;refine wpOp_step rfl fun K hK=> ?_
   have h7:∃(p:Nat) (f:Nat->Int),s5=.pointer (some ⟨p,0,none⟩)/\x.rowIs p 224 8 (zj f)/\w.heap.size+1+1<p:=hdep ⟨7,.data⟩ (by simp) rfl;have h0:s12=wv8 q:=hdep ⟨5,.data⟩ (by simp) rfl;obtain⟨p5,f5,rfl,hr5,hl5⟩:=h7;subst h0;obtain⟨y0,y1,y2,y3,y4,y5,y6,y7⟩:=Zu hr5;have fz:=hr5.frozen;go_simp;refine hK _ _ ⟨⟨_,_,_,_,_,_,_,_,_,rfl,((((((((hs.set hl5 _).set hl5 _).set hl5 _).set hl5 _).set hl5 _).set hl5 _).set hl5 _).set hl5 _)⟩,⟨p5,rfl,yG hr5 (za q),hl5⟩,fun j hj hd hF=> ?_⟩
   ·rcases Nat.lt_or_ge j 11 with hj11|hj11
    ·rcases i11 hj11 with rfl|rfl|rfl|rfl|rfl|rfl|rfl|rfl|rfl|rfl|rfl
     ·have h:s8=wv a:=hF;exact h
     ·have h:s9=wv8 am:=hF;exact h
     ·have h:s10=wv b:=hF;exact h
     ·have h:s11=.tuple #[wv8 q,wv r]:=hF;exact h
     ·have h:s7=.tuple #[wv8 q,wv r]:=hF;exact h
     ·exact(rfl:wv8 q=wv8 q)
     ·have h:s13=wv r:=hF;exact h
     ·exact⟨p5,za q,rfl,yG hr5 (za q),hl5⟩
     ·obtain⟨p,f,h1,h2,h3⟩:=hF;exact⟨p,f,h1,yg h2 (yw h2 hr5 (by decide)) _ _ _ _ _ _ _ _,h3⟩
     ·exact absurd rfl hj
     ·obtain⟨p,h1,h2,h3⟩:=hF;exact⟨p,h1,yg h2 (yw h2 hr5 (by decide)) _ _ _ _ _ _ _ _,h3⟩
    ·exact yV _ _ _ _ _ _ _ hj11 _ _
  ·obtain rfl:=sj ho;refine wpOp_step rfl fun K hK=> ?_
   have h8:∃(p:Nat) (f:Nat->Int),s6=.pointer (some ⟨p,0,none⟩)/\x.rowIs p 24 4 (zj f)/\w.heap.size+1+1<p:=hdep ⟨8,.data⟩ (by simp) rfl;have h0:s13=wv r:=hdep ⟨6,.data⟩ (by simp) rfl;obtain⟨p6,f6,rfl,hr6,hl6⟩:=h8;subst h0;obtain⟨y0,y1,y2,y3⟩:=zb hr6;have fz:=hr6.frozen;go_simp;refine hK _ _ ⟨⟨_,_,_,_,_,_,_,_,_,rfl,((((hs.set hl6 _).set hl6 _).set hl6 _).set hl6 _)⟩,⟨p6,rfl,zm hr6 (za r) rfl rfl rfl rfl,hl6⟩,fun j hj hd hF=> ?_⟩
   ·rcases Nat.lt_or_ge j 11 with hj11|hj11
    ·rcases i11 hj11 with rfl|rfl|rfl|rfl|rfl|rfl|rfl|rfl|rfl|rfl|rfl
     ·have h:s8=wv a:=hF;exact h
     ·have h:s9=wv8 am:=hF;exact h
     ·have h:s10=wv b:=hF;exact h
     ·have h:s11=.tuple #[wv8 q,wv r]:=hF;exact h
     ·have h:s7=.tuple #[wv8 q,wv r]:=hF;exact h
     ·have h:s12=wv8 q:=hF;exact h
     ·exact(rfl:wv r=wv r)
     ·obtain⟨p,f,h1,h2,h3⟩:=hF;exact⟨p,f,h1,zE h2 (yw h2 hr6 (by decide)) _ _ _ _,h3⟩
     ·exact⟨p6,za r,rfl,zm hr6 (za r) rfl rfl rfl rfl,hl6⟩
     ·obtain⟨p,h1,h2,h3⟩:=hF;exact⟨p,h1,zE h2 (yw h2 hr6 (by decide)) _ _ _ _,h3⟩
     ·exact absurd rfl hj
    ·exact yV _ _ _ _ _ _ _ hj11 _ _
  all_goals
   rcases Nat.lt_or_ge j 11 with hj11|hj11
   ·rcases i11 hj11 with rfl|rfl|rfl|rfl|rfl|rfl|rfl|rfl|rfl|rfl|rfl
    all_goals first
     |exact absurd rfl hj
     |exact hF
     |(obtain⟨p,f,h1,h2,h3⟩:=hF;exact⟨p,f,h1,h2,h3⟩)
     |(obtain⟨p,h1,h2,h3⟩:=hF;exact⟨p,h1,h2,h3⟩)
     |(obtain⟨p,f,h1,h2,h3⟩:=hF;exact⟨p,f,h1,zf h2 hb,h3⟩)
     |(obtain⟨p,h1,h2,h3⟩:=hF;exact⟨p,h1,zf h2 hb,h3⟩)
     |(obtain⟨p,f,h1,h2,h3⟩:=hF;exact⟨p,f,h1,h2.alloc _,h3⟩)
     |(obtain⟨p,h1,h2,h3⟩:=hF;exact⟨p,h1,h2.alloc _,h3⟩)
     |(exfalso;revert hd;exact of_decide_eq_true (by kernel_rfl))
   ·exact yV _ _ _ _ _ _ _ hj11 _ _
 ·intro s x hG hF;clear hS;obtain⟨s5,s6,s7,s8,s9,s10,s11,s12,s13,rfl,hs⟩:=hG;obtain⟨p,rfl,hr,hl⟩:∃p:Nat,s6=.pointer (some ⟨p,0,none⟩)/\x.rowIs p 24 4 (zj (za r))/\w.heap.size+1+1<p:=hF 10 (by decide);clear hF;obtain⟨y0,y1,y2,y3⟩:=zb hr;have hrz:=hs.rz;have hbel:=hs.be;have z:=hrz.lt;have z':=hbel.size;obtain⟨x0,x1,x2,x3⟩:=zb hrz;have fz:=hrz.frozen;go_wp2;obtain⟨q0,q1,q2,q3⟩:=zb (zm hrz (za r) rfl rfl rfl rfl);refine bodyPost_ret (v:=wv r) (by simp[results,results102,go_sem,q0,q1,q2,q3,z]) rfl (zK (by rw[HR.out,HA.out]) ?_);exact zn hbel (by omega) _ _ _ _
theorem i7 {i:Nat} (h:i<7):i=0\/i=1\/i=2\/i=3\/i=4\/i=5\/i=6:=by omega
theorem i5 {i:Nat} (h:i<5):i=0\/i=1\/i=2\/i=3\/i=4:=by omega
theorem zaz (a:Nat) (na:Bool) (h:Hid (neg a=na)) (w:World):Calls prog 167 #[wv a] w fun e w'=>e=.returned (.bool na)/\Below w.heap.size w w':=by
 have:=Yj a w;rw[h.out] at this;exact this
def FSd (w:World) (a b ma mb qd:Nat):Nat->Act->World->Prop
 |0,s,_=>s.tmps.getD 6 undef=wv a
 |1,s,_=>s.tmps.getD 7 undef=wv ma
 |2,s,_=>s.tmps.getD 8 undef=wv b
 |3,s,_=>s.tmps.getD 9 undef=wv mb
 |4,s,_=>s.tmps.getD 10 undef=wv qd
 |5,s,x=>∃(p:Nat) (f:Nat->Int),s.tmps.getD 5 undef=.pointer (some ⟨p,0,none⟩)/\x.rowIs p 24 4 (zj f)/\w.heap.size+1+1<p
 |6,s,x=>∃p:Nat,s.tmps.getD 5 undef=.pointer (some ⟨p,0,none⟩)/\x.rowIs p 24 4 (zj (za qd))/\w.heap.size+1+1<p
 |_,_,_=>True
theorem ziQ (w:World) (a b ma mb qd:Nat) (j:Nat) (h:7<=j) (s:Act) (x:World):FSd w a b ma mb qd j s x:=by
 match j,h with
 |j+7,_=>trivial
def GSd (w:World) (a b:Nat) (s:Act) (x:World):Prop:=∃s5 s6 s7 s8 s9 s10:Value,
 s=⟨#[wv a,wv b,.pointer (some ⟨w.heap.size,0,none⟩),.pointer (some ⟨w.heap.size+1,0,none⟩),.pointer (some ⟨w.heap.size+1+1,0,none⟩),s5,s6,s7,s8,s9,s10,undef,undef,undef,undef,undef,undef,undef,undef],[]⟩/\SS w a b x
def FSm (w:World) (a b ma mb qd:Nat):Nat->Act->World->Prop
 |0,s,_=>s.tmps.getD 6 undef=wv a
 |1,s,_=>s.tmps.getD 7 undef=wv ma
 |2,s,_=>s.tmps.getD 8 undef=wv b
 |3,s,_=>s.tmps.getD 9 undef=wv mb
 |4,s,_=>s.tmps.getD 10 undef=wv qd
 |5,s,x=>∃(p:Nat) (f:Nat->Int),s.tmps.getD 5 undef=.pointer (some ⟨p,0,none⟩)/\x.rowIs p 24 4 (zj f)/\w.heap.size+1+1<p
 |6,s,x=>∃p:Nat,s.tmps.getD 5 undef=.pointer (some ⟨p,0,none⟩)/\x.rowIs p 24 4 (zj (za qd))/\w.heap.size+1+1<p
 |_,_,_=>True
theorem zjf (w:World) (a b ma mb qd:Nat) (j:Nat) (h:7<=j) (s:Act) (x:World):FSm w a b ma mb qd j s x:=by
 match j,h with
 |j+7,_=>trivial
def GSm (w:World) (a b:Nat) (s:Act) (x:World):Prop:=∃s5 s6 s7 s8 s9 s10:Value,
 s=⟨#[wv a,wv b,.pointer (some ⟨w.heap.size,0,none⟩),.pointer (some ⟨w.heap.size+1,0,none⟩),.pointer (some ⟨w.heap.size+1+1,0,none⟩),s5,s6,s7,s8,s9,s10,undef,undef,undef,undef,undef],[]⟩/\SS w a b x
def FSg (a b:Nat) (na nb:Bool):Nat->Act->World->Prop
 |0,s,_=>s.tmps.getD 11 undef=wv a
 |1,s,_=>s.tmps.getD 12 undef=.bool na
 |2,s,_=>s.tmps.getD 13 undef=wv b
 |3,s,_=>s.tmps.getD 14 undef=.bool nb
 |4,s,_=>s.tmps.getD 15 undef=.bool (na !=nb)
 |_,_,_=>True
theorem zaO (a b:Nat) (na nb:Bool) (j:Nat) (h:5<=j) (s:Act) (x:World):FSg a b na nb j s x:=by
 match j,h with
 |j+5,_=>trivial
def GSg (w:World) (a b p qd:Nat) (v6 v7 v8 v9 v10:Value) (s:Act) (x:World):Prop:=∃s11 s12 s13 s14 s15:Value,
 s=⟨#[wv a,wv b,.pointer (some ⟨w.heap.size,0,none⟩),.pointer (some ⟨w.heap.size+1,0,none⟩),.pointer (some ⟨w.heap.size+1+1,0,none⟩),.pointer (some ⟨p,0,none⟩),v6,v7,v8,v9,v10,s11,s12,s13,s14,s15,undef,undef,undef],[]⟩/\(SS w a b x/\x.rowIs p 24 4 (zj (za qd)))
theorem zaJ {a b ma mb qd:Nat} (h1:ma=ZL (a%M)) (h2:mb=ZL (b%M)) (h3:qd=zdm (ma%M) (mb%M)):zdm (ZL (a%M)) (ZL (b%M))=qd:=by
 rw[h3,h1,h2,Nat.mod_eq_of_lt (zbV _ (Nat.mod_lt _ Z4)),Nat.mod_eq_of_lt (zbV _ (Nat.mod_lt _ Z4))]
theorem zgh {a b ma mb qd:Nat} (h1:ma=ZL (a%M)) (h2:mb=ZL (b%M)) (h3:qd=YC (ma%M) (mb%M)):YC (ZL (a%M)) (ZL (b%M))=qd:=by
 rw[h3,h1,h2,Nat.mod_eq_of_lt (zbV _ (Nat.mod_lt _ Z4)),Nat.mod_eq_of_lt (zbV _ (Nat.mod_lt _ Z4))]
theorem zha {a b qd s:Nat} (h:zdm (ZL (a%M)) (ZL (b%M))=qd) (hn:(neg a !=neg b)=true) (hs:s=zeu (qd%M)) (hq:qd<M):s%M=zdQ (a%M) (b%M)%M:=by
 unfold zdQ;rw[Zf,Zf,hn,if_pos rfl,h,hs,Nat.mod_eq_of_lt hq]
theorem zf0 {a b qd:Nat} (h:zdm (ZL (a%M)) (ZL (b%M))=qd) (hn:(neg a !=neg b)=false):qd%M=zdQ (a%M) (b%M)%M:=by
 unfold zdQ;rw[Zf,Zf,hn,if_neg (by decide),h]
theorem zkK {a b qd s:Nat} (h:YC (ZL (a%M)) (ZL (b%M))=qd) (hn:neg a=true) (hs:s=zeu (qd%M)) (hq:qd<M):s%M=zdP (a%M) (b%M)%M:=by
 unfold zdP;rw[Zf,hn,if_pos rfl,h,hs,Nat.mod_eq_of_lt hq]
theorem zmw {a b qd:Nat} (h:YC (ZL (a%M)) (ZL (b%M))=qd) (hn:neg a=false):qd%M=zdP (a%M) (b%M)%M:=by
 unfold zdP;rw[Zf,hn,if_neg (by decide),h]
theorem zmY (a b:Nat) (w:World):Calls prog 101 #[wv a,wv b] w (Ret w (zdQ (a%M) (b%M))):=by
 obtain⟨ma,HMA⟩:∃ma,Hid (ma=ZL (a%M)):=⟨_,rfl⟩;obtain⟨mb,HMB⟩:∃mb,Hid (mb=ZL (b%M)):=⟨_,rfl⟩;obtain⟨qd,HQD⟩:∃qd,Hid (qd=zdm (ma%M) (mb%M)):=⟨_,rfl⟩;obtain⟨na,HNA⟩:∃na,Hid (neg a=na):=⟨_,rfl⟩;obtain⟨nb,HNB⟩:∃nb,Hid (neg b=nb):=⟨_,rfl⟩;have hS:=SS.start w a b;go_enter func101,ntmps101;go_wp2;refine zR (by kernel_rfl) (GSd w a b) (FSd w a b ma mb qd) (ZX (by kernel_rfl)) ?_ ?_ ?_
 ·exact⟨_,_,_,_,_,_,rfl,hS.drew⟩
 ·intro i o ho s x hG hdep;clear hS;obtain⟨s5,s6,s7,s8,s9,s10,rfl,hs⟩:=hG;have hi:i<7:=(Array.getElem?_eq_some_iff.1 ho).1;rcases i7 hi with rfl|rfl|rfl|rfl|rfl|rfl|rfl;obtain rfl:=sj ho;refine wpOp_step rfl fun K hK=> ?_
  obtain⟨y0,y1,y2,y3⟩:=zb hs.ra;go_simp;refine hK _ _ ⟨⟨_,_,_,_,_,_,rfl,hs⟩,rfl,fun j hj hd hF=> ?_⟩;rotate_left;obtain rfl:=sj ho;refine wpOp_step rfl fun K hK=> ?_
  have h0:s6=wv a:=hdep ⟨0,.data⟩ (by simp) rfl;subst h0;go_simp;refine(yn a _).mono ?_;rintro e y ⟨rr,HRR,rfl,hb⟩;obtain rfl:rr=ma:=HRR.out.trans HMA.out.symm;dsimp only;refine hK _ _ ⟨⟨_,_,_,_,_,_,rfl,hs.call hb⟩,rfl,fun j hj hd hF=> ?_⟩;rotate_left;obtain rfl:=sj ho;refine wpOp_step rfl fun K hK=> ?_
  obtain⟨y0,y1,y2,y3⟩:=zb hs.rb;go_simp;refine hK _ _ ⟨⟨_,_,_,_,_,_,rfl,hs⟩,rfl,fun j hj hd hF=> ?_⟩;rotate_left;obtain rfl:=sj ho;refine wpOp_step rfl fun K hK=> ?_
  have h2:s8=wv b:=hdep ⟨2,.data⟩ (by simp) rfl;subst h2;go_simp;refine(yn b _).mono ?_;rintro e y ⟨rr,HRR,rfl,hb⟩;obtain rfl:rr=mb:=HRR.out.trans HMB.out.symm;dsimp only;refine hK _ _ ⟨⟨_,_,_,_,_,_,rfl,hs.call hb⟩,rfl,fun j hj hd hF=> ?_⟩;rotate_left;obtain rfl:=sj ho;refine wpOp_step rfl fun K hK=> ?_
  have h1:s7=wv ma:=hdep ⟨1,.data⟩ (by simp) rfl;subst h1;have h3:s9=wv mb:=hdep ⟨3,.data⟩ (by simp) rfl;subst h3;go_simp;refine(ziU ma mb _).mono ?_;rintro e y ⟨rr,HRR,rfl,hb⟩;obtain rfl:rr=qd:=HRR.out.trans HQD.out.symm;dsimp only;refine hK _ _ ⟨⟨_,_,_,_,_,_,rfl,hs.call hb⟩,rfl,fun j hj hd hF=> ?_⟩;rotate_left;obtain rfl:=sj ho;refine wpOp_step rfl fun K hK=> ?_
  have zz:=hs.rz.lt;go_simp;refine hK _ _ ⟨⟨_,_,_,_,_,_,rfl,hs.alloc _⟩,⟨_,fun _=>0,rfl,zh _ rfl rfl rfl rfl rfl,zz⟩,fun j hj hd hF=> ?_⟩;rotate_left
  ·obtain rfl:=sj ho;refine wpOp_step rfl fun K hK=> ?_
   have h5:∃(p:Nat) (f:Nat->Int),s5=.pointer (some ⟨p,0,none⟩)/\x.rowIs p 24 4 (zj f)/\w.heap.size+1+1<p:=hdep ⟨5,.data⟩ (by simp) rfl;have h4:s10=wv qd:=hdep ⟨4,.data⟩ (by simp) rfl;subst h4;obtain⟨p5,f5,rfl,hr5,hl5⟩:=h5;obtain⟨y0,y1,y2,y3⟩:=zb hr5;have fz:=hr5.frozen;go_simp;refine hK _ _ ⟨⟨_,_,_,_,_,_,rfl,((((hs.set hl5 _).set hl5 _).set hl5 _).set hl5 _)⟩,⟨p5,rfl,zm hr5 (za qd) rfl rfl rfl rfl,hl5⟩,fun j hj hd hF=> ?_⟩;rcases Nat.lt_or_ge j 7 with hjn|hjn
   ·rcases i7 hjn with rfl|rfl|rfl|rfl|rfl|rfl|rfl
    ·have h:s6=wv a:=hF;exact h
    ·have h:s7=wv ma:=hF;exact h
    ·have h:s8=wv b:=hF;exact h
    ·have h:s9=wv mb:=hF;exact h
    ·exact(rfl:(wv qd:Value)=wv qd)
    ·exact⟨p5,za qd,rfl,zm hr5 (za qd) rfl rfl rfl rfl,hl5⟩
    ·exact absurd rfl hj
   ·exact ziQ _ _ _ _ _ _ _ hjn _ _
  all_goals
   rcases Nat.lt_or_ge j 7 with hjn|hjn
   ·rcases i7 hjn with rfl|rfl|rfl|rfl|rfl|rfl|rfl
    all_goals first
     |exact absurd rfl hj
     |exact hF
     |exact rfl
     |(obtain⟨p,f,h1,h2,h3⟩:=hF;exact⟨p,f,h1,h2,h3⟩)
     |(obtain⟨p,h1,h2,h3⟩:=hF;exact⟨p,h1,h2,h3⟩)
     |(obtain⟨p,f,h1,h2,h3⟩:=hF;exact⟨p,f,h1,zf h2 hb,h3⟩)
     |(obtain⟨p,h1,h2,h3⟩:=hF;exact⟨p,h1,zf h2 hb,h3⟩)
     |(exfalso;revert hd;exact of_decide_eq_true (by kernel_rfl))
   ·exact ziQ _ _ _ _ _ _ _ hjn _ _
 ·intro s x hG hF;clear hS;obtain⟨s5,s6,s7,s8,s9,s10,rfl,hs⟩:=hG;obtain⟨p,rfl,hr,hl⟩:∃p:Nat,s5=.pointer (some ⟨p,0,none⟩)/\x.rowIs p 24 4 (zj (za qd))/\w.heap.size+1+1<p:=hF 6 (by decide);clear hF;go_wp2;refine zR (by kernel_rfl) (GSg w a b p qd s6 s7 s8 s9 s10) (FSg a b na nb) (ZX (by kernel_rfl)) ?_ ?_ ?_
  ·exact⟨_,_,_,_,_,rfl,⟨hs.drew,hr.drew⟩⟩
  ·intro i o ho s x hG hdep;obtain⟨s11,s12,s13,s14,s15,rfl,hs⟩:=hG;have hi:i<5:=(Array.getElem?_eq_some_iff.1 ho).1;rcases i5 hi with rfl|rfl|rfl|rfl|rfl
   ·obtain rfl:=sj ho;refine wpOp_step rfl fun K hK=> ?_
    obtain⟨y0,y1,y2,y3⟩:=zb hs.1.ra;go_simp;refine hK _ _ ⟨⟨_,_,_,_,_,rfl,hs⟩,rfl,fun j hj hd hF=> ?_⟩;rcases Nat.lt_or_ge j 5 with hjn|hjn
    ·rcases i5 hjn with rfl|rfl|rfl|rfl|rfl
     ·exact absurd rfl hj
     ·exfalso;revert hd;exact of_decide_eq_true (by kernel_rfl)
     ·have h:s13=wv b:=hF;exact h
     ·have h:s14=.bool nb:=hF;exact h
     ·have h:s15=.bool (na !=nb):=hF;exact h
    ·exact zaO _ _ _ _ _ hjn _ _
   ·obtain rfl:=sj ho;refine wpOp_step rfl fun K hK=> ?_
    have h0:s11=wv a:=hdep ⟨0,.data⟩ (by simp) rfl;subst h0;go_simp;refine(zaz a na HNA _).mono ?_;rintro e y ⟨rfl,hb⟩;dsimp only;refine hK _ _ ⟨⟨_,_,_,_,_,rfl,⟨hs.1.call hb,zf hs.2 hb⟩⟩,rfl,fun j hj hd hF=> ?_⟩;rcases Nat.lt_or_ge j 5 with hjn|hjn
    ·rcases i5 hjn with rfl|rfl|rfl|rfl|rfl
     ·exact(rfl:(wv a:Value)=wv a)
     ·exact absurd rfl hj
     ·have h:s13=wv b:=hF;exact h
     ·have h:s14=.bool nb:=hF;exact h
     ·exfalso;revert hd;exact of_decide_eq_true (by kernel_rfl)
    ·exact zaO _ _ _ _ _ hjn _ _
   ·obtain rfl:=sj ho;refine wpOp_step rfl fun K hK=> ?_
    obtain⟨y0,y1,y2,y3⟩:=zb hs.1.rb;go_simp;refine hK _ _ ⟨⟨_,_,_,_,_,rfl,hs⟩,rfl,fun j hj hd hF=> ?_⟩;rcases Nat.lt_or_ge j 5 with hjn|hjn
    ·rcases i5 hjn with rfl|rfl|rfl|rfl|rfl
     ·have h:s11=wv a:=hF;exact h
     ·have h:s12=.bool na:=hF;exact h
     ·exact absurd rfl hj
     ·exfalso;revert hd;exact of_decide_eq_true (by kernel_rfl)
     ·have h:s15=.bool (na !=nb):=hF;exact h
    ·exact zaO _ _ _ _ _ hjn _ _
   ·obtain rfl:=sj ho;refine wpOp_step rfl fun K hK=> ?_
    have h2:s13=wv b:=hdep ⟨2,.data⟩ (by simp) rfl;subst h2;go_simp;refine(zaz b nb HNB _).mono ?_;rintro e y ⟨rfl,hb⟩;dsimp only;refine hK _ _ ⟨⟨_,_,_,_,_,rfl,⟨hs.1.call hb,zf hs.2 hb⟩⟩,rfl,fun j hj hd hF=> ?_⟩;rcases Nat.lt_or_ge j 5 with hjn|hjn
    ·rcases i5 hjn with rfl|rfl|rfl|rfl|rfl
     ·have h:s11=wv a:=hF;exact h
     ·have h:s12=.bool na:=hF;exact h
     ·exact(rfl:(wv b:Value)=wv b)
     ·exact absurd rfl hj
     ·exfalso;revert hd;exact of_decide_eq_true (by kernel_rfl)
    ·exact zaO _ _ _ _ _ hjn _ _
   ·obtain rfl:=sj ho;refine wpOp_step rfl fun K hK=> ?_
    have h1:s12=.bool na:=hdep ⟨1,.data⟩ (by simp) rfl;subst h1;have h3:s14=.bool nb:=hdep ⟨3,.data⟩ (by simp) rfl;subst h3;go_simp;refine hK _ _ ⟨⟨_,_,_,_,_,rfl,hs⟩,rfl,fun j hj hd hF=> ?_⟩;rcases Nat.lt_or_ge j 5 with hjn|hjn
    ·rcases i5 hjn with rfl|rfl|rfl|rfl|rfl
     ·have h:s11=wv a:=hF;exact h
     ·exact(rfl:(.bool na:Value)=.bool na)
     ·have h:s13=wv b:=hF;exact h
     ·exact(rfl:(.bool nb:Value)=.bool nb)
     ·exact absurd rfl hj
    ·exact zaO _ _ _ _ _ hjn _ _
  ·intro s x hG hF;obtain⟨s11,s12,s13,s14,s15,rfl,hs⟩:=hG;have h4:s15=.bool (na !=nb):=hF 4 (by decide);clear hF hr;obtain⟨hs,hr⟩:=hs;subst h4;cases na<;>cases nb
   ·skip;obtain⟨y0,y1,y2,y3⟩:=zb hr;have hrz:=hs.rz;have hbel:=hs.be;have z':=hbel.size;obtain⟨x0,x1,x2,x3⟩:=zb hrz;have fz:=hrz.frozen;go_wp2;obtain⟨q0,q1,q2,q3⟩:=zb (zm hrz (za qd) rfl rfl rfl rfl);refine bodyPost_ret (v:=wv qd) (by simp[results,results101,go_sem,q0,q1,q2,q3]) rfl (zK (zf0 (zaJ HMA.out HMB.out HQD.out) (by rw[HNA.out,HNB.out];rfl)) ?_);exact zn hbel (by omega) _ _ _ _
   ·skip;obtain⟨y0,y1,y2,y3⟩:=zb hr;go_wp2_with fail
    refine(Yo qd _).mono ?_;rintro e w2 ⟨s,HSN,rfl,hb⟩;have hrz:=zf hs.rz hb;have hbel:=zD hs.be hb;have z':=hbel.size;obtain⟨x0,x1,x2,x3⟩:=zb hrz;have fz:=hrz.frozen;clear hb;go_wp2;obtain⟨q0,q1,q2,q3⟩:=zb (zm hrz (za s) rfl rfl rfl rfl);refine bodyPost_ret (v:=wv s) (by simp[results,results101,go_sem,q0,q1,q2,q3]) rfl (zK (zha (zaJ HMA.out HMB.out HQD.out) (by rw[HNA.out,HNB.out];rfl) HSN.out (by rw[HQD.out];exact zjc _ _ (Nat.mod_lt _ Z4))) ?_);exact zn hbel (by omega) _ _ _ _
   ·skip;obtain⟨y0,y1,y2,y3⟩:=zb hr;go_wp2_with fail
    refine(Yo qd _).mono ?_;rintro e w2 ⟨s,HSN,rfl,hb⟩;have hrz:=zf hs.rz hb;have hbel:=zD hs.be hb;have z':=hbel.size;obtain⟨x0,x1,x2,x3⟩:=zb hrz;have fz:=hrz.frozen;clear hb;go_wp2;obtain⟨q0,q1,q2,q3⟩:=zb (zm hrz (za s) rfl rfl rfl rfl);refine bodyPost_ret (v:=wv s) (by simp[results,results101,go_sem,q0,q1,q2,q3]) rfl (zK (zha (zaJ HMA.out HMB.out HQD.out) (by rw[HNA.out,HNB.out];rfl) HSN.out (by rw[HQD.out];exact zjc _ _ (Nat.mod_lt _ Z4))) ?_);exact zn hbel (by omega) _ _ _ _
   ·skip;obtain⟨y0,y1,y2,y3⟩:=zb hr;have hrz:=hs.rz;have hbel:=hs.be;have z':=hbel.size;obtain⟨x0,x1,x2,x3⟩:=zb hrz;have fz:=hrz.frozen;go_wp2;obtain⟨q0,q1,q2,q3⟩:=zb (zm hrz (za qd) rfl rfl rfl rfl);refine bodyPost_ret (v:=wv qd) (by simp[results,results101,go_sem,q0,q1,q2,q3]) rfl (zK (zf0 (zaJ HMA.out HMB.out HQD.out) (by rw[HNA.out,HNB.out];rfl)) ?_);exact zn hbel (by omega) _ _ _ _
theorem zlh (a b:Nat) (w:World):Calls prog 103 #[wv a,wv b] w (Ret w (zdP (a%M) (b%M))):=by
 obtain⟨ma,HMA⟩:∃ma,Hid (ma=ZL (a%M)):=⟨_,rfl⟩;obtain⟨mb,HMB⟩:∃mb,Hid (mb=ZL (b%M)):=⟨_,rfl⟩;obtain⟨qd,HQD⟩:∃qd,Hid (qd=YC (ma%M) (mb%M)):=⟨_,rfl⟩;obtain⟨na,HNA⟩:∃na,Hid (neg a=na):=⟨_,rfl⟩;have hS:=SS.start w a b;go_enter func103,ntmps103;go_wp2;refine zR (by kernel_rfl) (GSm w a b) (FSm w a b ma mb qd) (ZX (by kernel_rfl)) ?_ ?_ ?_
 ·exact⟨_,_,_,_,_,_,rfl,hS.drew⟩
 ·intro i o ho s x hG hdep;clear hS;obtain⟨s5,s6,s7,s8,s9,s10,rfl,hs⟩:=hG;have hi:i<7:=(Array.getElem?_eq_some_iff.1 ho).1;rcases i7 hi with rfl|rfl|rfl|rfl|rfl|rfl|rfl;obtain rfl:=sj ho;refine wpOp_step rfl fun K hK=> ?_
  obtain⟨y0,y1,y2,y3⟩:=zb hs.ra;go_simp;refine hK _ _ ⟨⟨_,_,_,_,_,_,rfl,hs⟩,rfl,fun j hj hd hF=> ?_⟩;rotate_left;obtain rfl:=sj ho;refine wpOp_step rfl fun K hK=> ?_
  have h0:s6=wv a:=hdep ⟨0,.data⟩ (by simp) rfl;subst h0;go_simp;refine(yn a _).mono ?_;rintro e y ⟨rr,HRR,rfl,hb⟩;obtain rfl:rr=ma:=HRR.out.trans HMA.out.symm;dsimp only;refine hK _ _ ⟨⟨_,_,_,_,_,_,rfl,hs.call hb⟩,rfl,fun j hj hd hF=> ?_⟩;rotate_left;obtain rfl:=sj ho;refine wpOp_step rfl fun K hK=> ?_
  obtain⟨y0,y1,y2,y3⟩:=zb hs.rb;go_simp;refine hK _ _ ⟨⟨_,_,_,_,_,_,rfl,hs⟩,rfl,fun j hj hd hF=> ?_⟩;rotate_left;obtain rfl:=sj ho;refine wpOp_step rfl fun K hK=> ?_
  have h2:s8=wv b:=hdep ⟨2,.data⟩ (by simp) rfl;subst h2;go_simp;refine(yn b _).mono ?_;rintro e y ⟨rr,HRR,rfl,hb⟩;obtain rfl:rr=mb:=HRR.out.trans HMB.out.symm;dsimp only;refine hK _ _ ⟨⟨_,_,_,_,_,_,rfl,hs.call hb⟩,rfl,fun j hj hd hF=> ?_⟩;rotate_left;obtain rfl:=sj ho;refine wpOp_step rfl fun K hK=> ?_
  have h1:s7=wv ma:=hdep ⟨1,.data⟩ (by simp) rfl;subst h1;have h3:s9=wv mb:=hdep ⟨3,.data⟩ (by simp) rfl;subst h3;go_simp;refine(ziV ma mb _).mono ?_;rintro e y ⟨rr,HRR,rfl,hb⟩;obtain rfl:rr=qd:=HRR.out.trans HQD.out.symm;dsimp only;refine hK _ _ ⟨⟨_,_,_,_,_,_,rfl,hs.call hb⟩,rfl,fun j hj hd hF=> ?_⟩;rotate_left;obtain rfl:=sj ho;refine wpOp_step rfl fun K hK=> ?_
  have zz:=hs.rz.lt;go_simp;refine hK _ _ ⟨⟨_,_,_,_,_,_,rfl,hs.alloc _⟩,⟨_,fun _=>0,rfl,zh _ rfl rfl rfl rfl rfl,zz⟩,fun j hj hd hF=> ?_⟩;rotate_left
  ·obtain rfl:=sj ho;refine wpOp_step rfl fun K hK=> ?_
   have h5:∃(p:Nat) (f:Nat->Int),s5=.pointer (some ⟨p,0,none⟩)/\x.rowIs p 24 4 (zj f)/\w.heap.size+1+1<p:=hdep ⟨5,.data⟩ (by simp) rfl;have h4:s10=wv qd:=hdep ⟨4,.data⟩ (by simp) rfl;subst h4;obtain⟨p5,f5,rfl,hr5,hl5⟩:=h5;obtain⟨y0,y1,y2,y3⟩:=zb hr5;have fz:=hr5.frozen;go_simp;refine hK _ _ ⟨⟨_,_,_,_,_,_,rfl,((((hs.set hl5 _).set hl5 _).set hl5 _).set hl5 _)⟩,⟨p5,rfl,zm hr5 (za qd) rfl rfl rfl rfl,hl5⟩,fun j hj hd hF=> ?_⟩;rcases Nat.lt_or_ge j 7 with hjn|hjn
   ·rcases i7 hjn with rfl|rfl|rfl|rfl|rfl|rfl|rfl
    ·have h:s6=wv a:=hF;exact h
    ·have h:s7=wv ma:=hF;exact h
    ·have h:s8=wv b:=hF;exact h
    ·have h:s9=wv mb:=hF;exact h
    ·exact(rfl:(wv qd:Value)=wv qd)
    ·exact⟨p5,za qd,rfl,zm hr5 (za qd) rfl rfl rfl rfl,hl5⟩
    ·exact absurd rfl hj
   ·exact zjf _ _ _ _ _ _ _ hjn _ _
  all_goals
   rcases Nat.lt_or_ge j 7 with hjn|hjn
   ·rcases i7 hjn with rfl|rfl|rfl|rfl|rfl|rfl|rfl
    all_goals first
     |exact absurd rfl hj
     |exact hF
     |exact rfl
     |(obtain⟨p,f,h1,h2,h3⟩:=hF;exact⟨p,f,h1,h2,h3⟩)
     |(obtain⟨p,h1,h2,h3⟩:=hF;exact⟨p,h1,h2,h3⟩)
     |(obtain⟨p,f,h1,h2,h3⟩:=hF;exact⟨p,f,h1,zf h2 hb,h3⟩)
     |(obtain⟨p,h1,h2,h3⟩:=hF;exact⟨p,h1,zf h2 hb,h3⟩)
     |(exfalso;revert hd;exact of_decide_eq_true (by kernel_rfl))
   ·exact zjf _ _ _ _ _ _ _ hjn _ _
 ·intro s x hG hF;clear hS;obtain⟨s5,s6,s7,s8,s9,s10,rfl,hs⟩:=hG;obtain⟨p,rfl,hr,hl⟩:∃p:Nat,s5=.pointer (some ⟨p,0,none⟩)/\x.rowIs p 24 4 (zj (za qd))/\w.heap.size+1+1<p:=hF 6 (by decide);clear hF;obtain⟨u0,u1,u2,u3⟩:=zb hs.ra;go_wp2_with fail
  refine(zaz a na HNA _).mono ?_;rintro e w1 ⟨rfl,hb⟩;replace hs:=hs.call hb;replace hr:=zf hr hb;clear hb u0 u1 u2 u3;cases na
  ·skip;obtain⟨y0,y1,y2,y3⟩:=zb hr;have hrz:=hs.rz;have hbel:=hs.be;have z':=hbel.size;obtain⟨x0,x1,x2,x3⟩:=zb hrz;have fz:=hrz.frozen;go_wp2;obtain⟨q0,q1,q2,q3⟩:=zb (zm hrz (za qd) rfl rfl rfl rfl);refine bodyPost_ret (v:=wv qd) (by simp[results,results103,go_sem,q0,q1,q2,q3]) rfl (zK (zmw (zgh HMA.out HMB.out HQD.out) HNA.out) ?_);exact zn hbel (by omega) _ _ _ _
  ·skip;obtain⟨y0,y1,y2,y3⟩:=zb hr;go_wp2_with fail
   refine(Yo qd _).mono ?_;rintro e w2 ⟨s,HSN,rfl,hb⟩;have hrz:=zf hs.rz hb;have hbel:=zD hs.be hb;have z':=hbel.size;obtain⟨x0,x1,x2,x3⟩:=zb hrz;have fz:=hrz.frozen;clear hb;go_wp2;obtain⟨q0,q1,q2,q3⟩:=zb (zm hrz (za s) rfl rfl rfl rfl);refine bodyPost_ret (v:=wv s) (by simp[results,results103,go_sem,q0,q1,q2,q3]) rfl (zK (zkK (zgh HMA.out HMB.out HQD.out) HNA.out HSN.out (by rw[HQD.out];exact fmod_lt _ _ (Nat.mod_lt _ Z4))) ?_);exact zn hbel (by omega) _ _ _ _
def Pk (a b k:Nat):Nat:=a^(b/2^k)%M
theorem Pk_top (a b L:Nat) (h:b<2^L):Pk a b L=1%M:=by unfold Pk;rw[Nat.div_eq_of_lt h,Nat.pow_zero]
theorem Pk_zero (a b:Nat):Pk a b 0=zfo a b:=by unfold Pk zfo;simp
theorem pow_mod (a n:Nat):a^n%M=(a%M)^n%M:=Nat.pow_mod a n M
theorem Pk_sq {a b i p r:Nat} (h:p%M=Pk a b (i+1)) (h0:Yg b i=0) (hr:r=zby p p):r%M=Pk a b i:=by
 unfold Pk at*;rw[zae b i,h0,Nat.add_zero,Nat.two_mul,Nat.pow_add,hr];unfold zby;rw[Nat.mod_mod,Nat.mul_mod,h,<-Nat.mul_mod]
theorem Pk_mul {a b i p r s:Nat} (h:p%M=Pk a b (i+1)) (h1:Yg b i=1) (hr:r=zby p p) (hs:s=zby r a):s%M=Pk a b i:=by
 unfold Pk at*;rw[zae b i,h1,Nat.two_mul,Nat.pow_add,Nat.pow_add,Nat.pow_one,hs,hr];unfold zby;have e:p*p%M=a^(b/2^(i+1))*a^(b/2^(i+1))%M:=by rw[Nat.mul_mod,h,<-Nat.mul_mod]
 rw[Nat.mod_mod,e,Nat.mod_mul_mod]
structure EX (w:World) (a b:Nat) (x:World):Prop where
 ra:x.rowIs w.heap.size 24 4 (zj (za a))
 rb:x.rowIs (w.heap.size+1) 24 4 (zj (za b))
 rz:x.rowIs (w.heap.size+1+1) 24 4 (zj fun _=>0)
 be:Below w.heap.size w x
theorem EX.call {w:World} {a b:Nat} {x y:World} (h:EX w a b x) (hb:Below x.heap.size x y):EX w a b y:=⟨zf h.ra hb,zf h.rb hb,zf h.rz hb,zD h.be hb⟩
theorem EX.put {w:World} {a b:Nat} {x:World} (h:EX w a b x) (v0 v1 v2 v3:Value):EX w a b ((((x.setCell ⟨w.heap.size+1+1+1,0,none⟩ v0).setCell ⟨w.heap.size+1+1+1,1,none⟩ v1).setCell ⟨w.heap.size+1+1+1,2,none⟩ v2).setCell ⟨w.heap.size+1+1+1,3,none⟩ v3):=
 ⟨zE h.ra (by omega) _ _ _ _,zE h.rb (by omega) _ _ _ _,zE h.rz (by omega) _ _ _ _,zn h.be (by omega) _ _ _ _⟩
theorem EX.start (w:World) (a b:Nat) {o:Obj}:EX w a b ((((w.alloc (.cells #[.int .u64 (za a 0),.int .u64 (za a 1),.int .u64 (za a 2),.int .u64 (za a 3)] 24)).alloc (.cells #[.int .u64 (za b 0),.int .u64 (za b 1),.int .u64 (za b 2),.int .u64 (za b 3)] 24)).alloc (.cells #[.int .u64 0,.int .u64 0,.int .u64 0,.int .u64 0] 24)).alloc o):=
 ⟨zh (za a) rfl rfl rfl rfl rfl |>.alloc _ |>.alloc _ |>.alloc _,zh (za b) (by simp) rfl rfl rfl rfl |>.alloc _ |>.alloc _,zh (fun _=>0) (by simp) rfl rfl rfl rfl |>.alloc _,bal (bal (bal (bal (Below.refl _ _) _) _) _) _⟩
theorem zkd:(1:Int)=za 1 0/\(0:Int)=za 1 1/\(0:Int)=za 1 2/\(0:Int)=za 1 3:=by
 unfold za;rw[pw0,pw1,pw2,pw3];decide
theorem exp_lt (a b:Nat) (hb:b<2^(64*4)) (w:World):Calls prog 106 #[wv a,wv b] w (Ret w (zfo a b)):=by
 have HB:Hid (b<2^(64*4)):=hb;clear hb;go_enter func106,ntmps106;go_wp2_with fail
 refine(zap b 4 (w.heap.size+1) 24 _ (by omega) HB.out ?_).mono ?_
 ·exact zh (za b) (by simp) rfl rfl rfl rfl |>.alloc _ |>.alloc _
 rintro e w' ⟨L,hL,hLb,rfl,rfl⟩;have HL:Hid (b<2^L):=hLb;clear hLb;go_wp2
 go_loopw [6] (fun t6 wr=>∃(k p:Nat),k<=256/\t6=.int .i64 ((k:Int) - 1)/\EX w a b wr/\wr.rowIs (w.heap.size+1+1+1) 24 4 (zj (za p))/\Hid (p%M=Pk a b k))
   (fun t6 _=>(intOf t6+1).toNat)
 case atStart=>
  obtain⟨o0,o1,o2,o3⟩:=zkd;exact⟨L,1,by omega,by go_num,EX.start w a b,zh (za 1) (by simp) o0 o1 o2 o3,(Pk_top a b L HL.out).symm⟩
 case round=>
  clear HL hL;obtain⟨k,p,hk,rfl,hx,hp,HP⟩:=hrel;rcases Nat.eq_zero_or_pos k with rfl|hpos
  ·obtain⟨r0,r1,r2,r3⟩:=zb hp;obtain⟨x0,x1,x2,x3⟩:=zb hx.rz;have fz:=hx.rz.frozen;have hbel:=hx.be;go_wp2;obtain⟨q0,q1,q2,q3⟩:=zb (zm hx.rz (za p) rfl rfl rfl rfl);refine bodyPost_ret (v:=wv p) (by simp[results,results106,go_sem,q0,q1,q2,q3]) rfl (zK (by rw[HP.out,Pk_zero,Nat.mod_eq_of_lt (fexp_lt a b)]) ?_);exact zn hbel (by omega) _ _ _ _
  ·obtain⟨i,rfl⟩:∃i,k=i+1:=⟨k - 1,by omega⟩;clear hpos;have ek:((i+1:Nat):Int) - 1=(i:Int):=by omega
   rw[ek];obtain⟨r0,r1,r2,r3⟩:=zb hp;go_wp2_with fail
   refine(zeS p p _).mono ?_;rintro e w1 ⟨r,HR,rfl,hb1⟩;replace hx:=hx.call hb1;replace hp:=zf hp hb1;clear hb1 r0 r1 r2 r3;obtain⟨r0,r1,r2,r3⟩:=zb hp;have fp:=hp.frozen;obtain⟨bt,HBT⟩:∃bt,Hid (bt=Yg b i):=⟨_,rfl⟩;go_wp2_with fail
   replace hx:=hx.put (.int .u64 (za r 0)) (.int .u64 (za r 1)) (.int .u64 (za r 2)) (.int .u64 (za r 3));replace hp:=zm hp (za r) rfl rfl rfl rfl;refine(ziO b 4 i (w.heap.size+1) 24 _ (by omega) (by omega) hx.rb).mono ?_;rintro e w2 ⟨rfl,rfl⟩;rw[<-HBT.out];clear r0 r1 r2 r3 fp;have hbt:bt<=1:=by rw[HBT.out];exact zeo b i
   have hbt2:bt=0\/bt=1:=by omega
   clear hbt;rcases hbt2 with rfl|rfl
   ·go_wp2
    go_roundw
    case rel=>exact⟨i,r,by omega,rfl,hx,hp,Pk_sq HP.out HBT.out.symm HR.out⟩
    case measure=>simp[intOf]
   ·obtain⟨r0,r1,r2,r3⟩:=zb hp;obtain⟨a0,a1,a2,a3⟩:=zb hx.ra;go_wp2_with fail
    refine(zeS r a _).mono ?_;rintro e w3 ⟨s,HS,rfl,hb3⟩;replace hx:=hx.call hb3;replace hp:=zf hp hb3;clear hb3 r0 r1 r2 r3 a0 a1 a2 a3;obtain⟨r0,r1,r2,r3⟩:=zb hp;have fp:=hp.frozen;go_wp2
    go_roundw
    case rel=>exact⟨i,s,by omega,rfl,hx.put _ _ _ _,zm hp (za s) rfl rfl rfl rfl,Pk_mul HP.out HBT.out.symm HR.out HS.out⟩
    case measure=>simp[intOf]
theorem zmQ (a b:Nat):zfo a b=zfo (a%M) b:=by unfold zfo;exact pow_mod a b
theorem exp_any (a b:Nat) (w:World):Calls prog 106 #[wv a,wv b] w (Ret w (zfo (a%M) (b%M))):=by
 rw[<-zaH b,<-zmQ];exact exp_lt a (b%M) (Nat.mod_lt _ Z4) w
theorem i12 {i:Nat} (h:i<12):i=0\/i=1\/i=2\/i=3\/i=4\/i=5\/i=6\/i=7\/i=8\/i=9\/i=10\/i=11:=by omega
structure S4 (w:World) (a b c:Nat) (x:World):Prop where
 ra:x.rowIs w.heap.size 24 4 (zj (za a))
 rb:x.rowIs (w.heap.size+1) 24 4 (zj (za b))
 rc:x.rowIs (w.heap.size+1+1) 24 4 (zj (za c))
 rz:x.rowIs (w.heap.size+1+1+1) 24 4 (zj fun _=>0)
 be:Below w.heap.size w x
theorem S4.drew {w:World} {a b c:Nat} {x:World} (h:S4 w a b c x):S4 w a b c x.drew:=⟨h.ra,h.rb,h.rc,h.rz,h.be.drew⟩
theorem S4.alloc {w:World} {a b c:Nat} {x:World} (h:S4 w a b c x) (o:Obj):S4 w a b c (x.alloc o):=⟨h.ra.alloc _,h.rb.alloc _,h.rc.alloc _,h.rz.alloc _,bal h.be _⟩
theorem S4.call {w:World} {a b c:Nat} {x y:World} (h:S4 w a b c x) (hb:Below x.heap.size x y):S4 w a b c y:=⟨zf h.ra hb,zf h.rb hb,zf h.rc hb,zf h.rz hb,zD h.be hb⟩
theorem S4.set {w:World} {a b c:Nat} {x:World} (h:S4 w a b c x) {p:Addr} (hp:w.heap.size+1+1+1<p.block) (v:Value):S4 w a b c (x.setCell p v):=
 ⟨h.ra.setOther (by omega) _,h.rb.setOther (by omega) _,h.rc.setOther (by omega) _,h.rz.setOther (by omega) _,h.be.setCell (by omega) _⟩
theorem S4.start (w:World) (a b c:Nat):S4 w a b c ((((w.alloc (.cells #[.int .u64 (za a 0),.int .u64 (za a 1),.int .u64 (za a 2),.int .u64 (za a 3)] 24)).alloc (.cells #[.int .u64 (za b 0),.int .u64 (za b 1),.int .u64 (za b 2),.int .u64 (za b 3)] 24)).alloc (.cells #[.int .u64 (za c 0),.int .u64 (za c 1),.int .u64 (za c 2),.int .u64 (za c 3)] 24)).alloc (.cells #[.int .u64 0,.int .u64 0,.int .u64 0,.int .u64 0] 24)):=
 ⟨zh (za a) rfl rfl rfl rfl rfl |>.alloc _ |>.alloc _ |>.alloc _,zh (za b) (by simp) rfl rfl rfl rfl |>.alloc _ |>.alloc _,zh (za c) (by simp) rfl rfl rfl rfl |>.alloc _,zh (fun _=>0) (by simp) rfl rfl rfl rfl,bal (bal (bal (bal (Below.refl _ _) _) _) _) _⟩
theorem prod_le (x n:Nat) (hn:512<=n) (h:x<M*M):x<2^n:=by
 have e:M*M<=2^(n - 256)*2^256:=Nat.mul_le_mul (za3 (n - 256) (by omega)) (za3 256 (by omega));have e2:2^(n - 256)*2^256=2^n:=by rw[<-Nat.pow_add];congr 1;omega
 omega
theorem zmV (a b:Nat):Z7 a b<2^(64*8):=by
 have h1:a%M*(b%M)<M*M:=Nat.mul_lt_mul'' (Nat.mod_lt _ Z4) (Nat.mod_lt _ Z4);have h:=prod_le (Z7 a b) (64*8) (by omega) h1;exact h
def FMm (w:World) (a b c pr q r:Nat):Nat->Act->World->Prop
 |0,s,_=>s.tmps.getD 10 undef=wv a
 |1,s,_=>s.tmps.getD 11 undef=wv b
 |2,s,_=>s.tmps.getD 12 undef=wv8 pr
 |3,s,_=>s.tmps.getD 13 undef=wv c
 |4,s,_=>s.tmps.getD 14 undef=.tuple #[wv8 q,wv r]
 |5,s,_=>s.tmps.getD 9 undef=.tuple #[wv8 q,wv r]
 |6,s,_=>s.tmps.getD 15 undef=wv8 q
 |7,s,_=>s.tmps.getD 16 undef=wv r
 |8,s,x=>∃(p:Nat) (f:Nat->Int),s.tmps.getD 7 undef=.pointer (some ⟨p,0,none⟩)/\x.rowIs p 224 8 (zj f)/\w.heap.size+1+1+1<p
 |9,s,x=>∃(p:Nat) (f:Nat->Int),s.tmps.getD 8 undef=.pointer (some ⟨p,0,none⟩)/\x.rowIs p 24 4 (zj f)/\w.heap.size+1+1+1<p
 |10,s,x=>∃(p:Nat),s.tmps.getD 7 undef=.pointer (some ⟨p,0,none⟩)/\x.rowIs p 224 8 (zj (za q))/\w.heap.size+1+1+1<p
 |11,s,x=>∃(p:Nat),s.tmps.getD 8 undef=.pointer (some ⟨p,0,none⟩)/\x.rowIs p 24 4 (zj (za r))/\w.heap.size+1+1+1<p
 |_,_,_=>True
theorem zee (w:World) (a b c pr q r:Nat) (j:Nat) (h:12<=j) (s:Act) (x:World):FMm w a b c pr q r j s x:=by
 match j,h with
 |j+12,_=>trivial
def GMm (w:World) (a b c:Nat) (s:Act) (x:World):Prop:=∃s7 s8 s9 s10 s11 s12 s13 s14 s15 s16 s17:Value,
 s=⟨#[wv a,wv b,wv c,.pointer (some ⟨w.heap.size,0,none⟩),.pointer (some ⟨w.heap.size+1,0,none⟩),.pointer (some ⟨w.heap.size+1+1,0,none⟩),.pointer (some ⟨w.heap.size+1+1+1,0,none⟩),s7,s8,s9,s10,s11,s12,s13,s14,s15,s16,s17],[]⟩/\S4 w a b c x
theorem zhU (a b c:Nat) (w:World):Calls prog 105 #[wv a,wv b,wv c] w (Ret w (ziM (a%M) (b%M) (c%M))):=by
 obtain⟨pr,HP⟩:∃pr,Hid (pr=Z7 a b):=⟨_,rfl⟩;obtain⟨q,HQ⟩:∃q,Hid (q=pr/(c%M)):=⟨_,rfl⟩;obtain⟨r,HR⟩:∃r,Hid (r=YC pr (c%M)):=⟨_,rfl⟩;have hS:=S4.start w a b c;go_enter func105,ntmps105;go_wp2;refine zR (by kernel_rfl) (GMm w a b c) (FMm w a b c pr q r) (ZX (by kernel_rfl)) ?_ ?_ ?_
 ·exact⟨_,_,_,_,_,_,_,_,_,_,_,rfl,hS.drew⟩
 ·intro i o ho s x hG hdep;clear hS;obtain⟨s7,s8,s9,s10,s11,s12,s13,s14,s15,s16,s17,rfl,hs⟩:=hG;have hi:i<12:=(Array.getElem?_eq_some_iff.1 ho).1;rcases i12 hi with rfl|rfl|rfl|rfl|rfl|rfl|rfl|rfl|rfl|rfl|rfl|rfl;obtain rfl:=sj ho;refine wpOp_step rfl fun K hK=> ?_
  obtain⟨y0,y1,y2,y3⟩:=zb hs.ra;go_simp;refine hK _ _ ⟨⟨_,_,_,_,_,_,_,_,_,_,_,rfl,hs⟩,rfl,fun j hj hd hF=> ?_⟩;rotate_left;obtain rfl:=sj ho;refine wpOp_step rfl fun K hK=> ?_
  obtain⟨y0,y1,y2,y3⟩:=zb hs.rb;go_simp;refine hK _ _ ⟨⟨_,_,_,_,_,_,_,_,_,_,_,rfl,hs⟩,rfl,fun j hj hd hF=> ?_⟩;rotate_left;obtain rfl:=sj ho;refine wpOp_step rfl fun K hK=> ?_
  have h0:s10=wv a:=hdep ⟨0,.data⟩ (by simp) rfl;subst h0;have h1:s11=wv b:=hdep ⟨1,.data⟩ (by simp) rfl;subst h1;go_simp;refine(zc8 a b _).mono ?_;rintro e y ⟨rr,HRR,rfl,hb⟩;obtain rfl:rr=pr:=HRR.out.trans HP.out.symm;dsimp only;refine hK _ _ ⟨⟨_,_,_,_,_,_,_,_,_,_,_,rfl,hs.call hb⟩,rfl,fun j hj hd hF=> ?_⟩;rotate_left;obtain rfl:=sj ho;refine wpOp_step rfl fun K hK=> ?_
  obtain⟨y0,y1,y2,y3⟩:=zb hs.rc;go_simp;refine hK _ _ ⟨⟨_,_,_,_,_,_,_,_,_,_,_,rfl,hs⟩,rfl,fun j hj hd hF=> ?_⟩;rotate_left;obtain rfl:=sj ho;refine wpOp_step rfl fun K hK=> ?_
  have h2:s12=wv8 pr:=hdep ⟨2,.data⟩ (by simp) rfl;subst h2;have h3:s13=wv c:=hdep ⟨3,.data⟩ (by simp) rfl;subst h3;go_simp;refine(zaf pr c (by rw[HP.out];exact zmV a b) _).mono ?_;rintro e y ⟨qq,rr,HQQ,HRR,rfl,hb⟩;obtain rfl:q=qq:=HQ.out.trans HQQ.out.symm;obtain rfl:r=rr:=HR.out.trans HRR.out.symm;dsimp only;refine hK _ _ ⟨⟨_,_,_,_,_,_,_,_,_,_,_,rfl,hs.call hb⟩,rfl,fun j hj hd hF=> ?_⟩;rotate_left;obtain rfl:=sj ho;refine wpOp_step rfl fun K hK=> ?_
  have h4:s14=.tuple #[wv8 q,wv r]:=hdep ⟨4,.data⟩ (by simp) rfl;subst h4;go_simp;refine hK _ _ ⟨⟨_,_,_,_,_,_,_,_,_,_,_,rfl,hs⟩,rfl,fun j hj hd hF=> ?_⟩;rotate_left;obtain rfl:=sj ho;refine wpOp_step rfl fun K hK=> ?_
  have h5:s9=.tuple #[wv8 q,wv r]:=hdep ⟨5,.data⟩ (by simp) rfl;subst h5;go_simp;refine hK _ _ ⟨⟨_,_,_,_,_,_,_,_,_,_,_,rfl,hs⟩,rfl,fun j hj hd hF=> ?_⟩;rotate_left;obtain rfl:=sj ho;refine wpOp_step rfl fun K hK=> ?_
  have h5:s9=.tuple #[wv8 q,wv r]:=hdep ⟨5,.data⟩ (by simp) rfl;subst h5;go_simp;refine hK _ _ ⟨⟨_,_,_,_,_,_,_,_,_,_,_,rfl,hs⟩,rfl,fun j hj hd hF=> ?_⟩;rotate_left;obtain rfl:=sj ho;refine wpOp_step rfl fun K hK=> ?_
  have zz:=hs.rz.lt;go_simp;refine hK _ _ ⟨⟨_,_,_,_,_,_,_,_,_,_,_,rfl,hs.alloc _⟩,⟨_,fun _=>0,rfl,yr _ rfl rfl rfl rfl rfl rfl rfl rfl rfl,zz⟩,fun j hj hd hF=> ?_⟩;rotate_left;obtain rfl:=sj ho;refine wpOp_step rfl fun K hK=> ?_
  have zz:=hs.rz.lt;go_simp;refine hK _ _ ⟨⟨_,_,_,_,_,_,_,_,_,_,_,rfl,hs.alloc _⟩,⟨_,fun _=>0,rfl,zh _ rfl rfl rfl rfl rfl,zz⟩,fun j hj hd hF=> ?_⟩;rotate_left
  ·obtain rfl:=sj ho;refine wpOp_step rfl fun K hK=> ?_
   have h8:∃(p:Nat) (f:Nat->Int),s7=.pointer (some ⟨p,0,none⟩)/\x.rowIs p 224 8 (zj f)/\w.heap.size+1+1+1<p:=hdep ⟨8,.data⟩ (by simp) rfl;have h6:s15=wv8 q:=hdep ⟨6,.data⟩ (by simp) rfl;subst h6;obtain⟨p7,f7,rfl,hr7,hl7⟩:=h8;obtain⟨y0,y1,y2,y3,y4,y5,y6,y7⟩:=Zu hr7;have fz:=hr7.frozen;go_simp;refine hK _ _ ⟨⟨_,_,_,_,_,_,_,_,_,_,_,rfl,((((((((hs.set hl7 _).set hl7 _).set hl7 _).set hl7 _).set hl7 _).set hl7 _).set hl7 _).set hl7 _)⟩,⟨p7,rfl,yG hr7 (za q),hl7⟩,fun j hj hd hF=> ?_⟩;rcases Nat.lt_or_ge j 12 with hjn|hjn
   ·rcases i12 hjn with rfl|rfl|rfl|rfl|rfl|rfl|rfl|rfl|rfl|rfl|rfl|rfl
    ·have h:s10=wv a:=hF;exact h
    ·have h:s11=wv b:=hF;exact h
    ·have h:s12=wv8 pr:=hF;exact h
    ·have h:s13=wv c:=hF;exact h
    ·have h:s14=.tuple #[wv8 q,wv r]:=hF;exact h
    ·have h:s9=.tuple #[wv8 q,wv r]:=hF;exact h
    ·exact(rfl:(wv8 q:Value)=wv8 q)
    ·have h:s16=wv r:=hF;exact h
    ·exact⟨p7,za q,rfl,yG hr7 (za q),hl7⟩
    ·obtain⟨p,f,h1,h2,h3⟩:=hF;exact⟨p,f,h1,yg h2 (yw h2 hr7 (by decide)) _ _ _ _ _ _ _ _,h3⟩
    ·exact absurd rfl hj
    ·obtain⟨p,h1,h2,h3⟩:=hF;exact⟨p,h1,yg h2 (yw h2 hr7 (by decide)) _ _ _ _ _ _ _ _,h3⟩
   ·exact zee _ _ _ _ _ _ _ _ hjn _ _
  ·obtain rfl:=sj ho;refine wpOp_step rfl fun K hK=> ?_
   have h9:∃(p:Nat) (f:Nat->Int),s8=.pointer (some ⟨p,0,none⟩)/\x.rowIs p 24 4 (zj f)/\w.heap.size+1+1+1<p:=hdep ⟨9,.data⟩ (by simp) rfl;have h7:s16=wv r:=hdep ⟨7,.data⟩ (by simp) rfl;subst h7;obtain⟨p8,f8,rfl,hr8,hl8⟩:=h9;obtain⟨y0,y1,y2,y3⟩:=zb hr8;have fz:=hr8.frozen;go_simp;refine hK _ _ ⟨⟨_,_,_,_,_,_,_,_,_,_,_,rfl,((((hs.set hl8 _).set hl8 _).set hl8 _).set hl8 _)⟩,⟨p8,rfl,zm hr8 (za r) rfl rfl rfl rfl,hl8⟩,fun j hj hd hF=> ?_⟩;rcases Nat.lt_or_ge j 12 with hjn|hjn
   ·rcases i12 hjn with rfl|rfl|rfl|rfl|rfl|rfl|rfl|rfl|rfl|rfl|rfl|rfl
    ·have h:s10=wv a:=hF;exact h
    ·have h:s11=wv b:=hF;exact h
    ·have h:s12=wv8 pr:=hF;exact h
    ·have h:s13=wv c:=hF;exact h
    ·have h:s14=.tuple #[wv8 q,wv r]:=hF;exact h
    ·have h:s9=.tuple #[wv8 q,wv r]:=hF;exact h
    ·have h:s15=wv8 q:=hF;exact h
    ·exact(rfl:(wv r:Value)=wv r)
    ·obtain⟨p,f,h1,h2,h3⟩:=hF;exact⟨p,f,h1,zE h2 (yw h2 hr8 (by decide)) _ _ _ _,h3⟩
    ·exact⟨p8,za r,rfl,zm hr8 (za r) rfl rfl rfl rfl,hl8⟩
    ·obtain⟨p,h1,h2,h3⟩:=hF;exact⟨p,h1,zE h2 (yw h2 hr8 (by decide)) _ _ _ _,h3⟩
    ·exact absurd rfl hj
   ·exact zee _ _ _ _ _ _ _ _ hjn _ _
  all_goals
   rcases Nat.lt_or_ge j 12 with hjn|hjn
   ·rcases i12 hjn with rfl|rfl|rfl|rfl|rfl|rfl|rfl|rfl|rfl|rfl|rfl|rfl
    all_goals first
     |exact absurd rfl hj
     |exact hF
     |exact rfl
     |(obtain⟨p,f,h1,h2,h3⟩:=hF;exact⟨p,f,h1,h2,h3⟩)
     |(obtain⟨p,h1,h2,h3⟩:=hF;exact⟨p,h1,h2,h3⟩)
     |(obtain⟨p,f,h1,h2,h3⟩:=hF;exact⟨p,f,h1,zf h2 hb,h3⟩)
     |(obtain⟨p,h1,h2,h3⟩:=hF;exact⟨p,h1,zf h2 hb,h3⟩)
     |(obtain⟨p,f,h1,h2,h3⟩:=hF;exact⟨p,f,h1,h2.alloc _,h3⟩)
     |(obtain⟨p,h1,h2,h3⟩:=hF;exact⟨p,h1,h2.alloc _,h3⟩)
     |(exfalso;revert hd;exact of_decide_eq_true (by kernel_rfl))
   ·exact zee _ _ _ _ _ _ _ _ hjn _ _
 ·intro s x hG hF;clear hS;obtain⟨s7,s8,s9,s10,s11,s12,s13,s14,s15,s16,s17,rfl,hs⟩:=hG;obtain⟨p,rfl,hr,hl⟩:∃(p:Nat),s8=.pointer (some ⟨p,0,none⟩)/\x.rowIs p 24 4 (zj (za r))/\w.heap.size+1+1+1<p:=hF 11 (by decide);clear hF;obtain⟨y0,y1,y2,y3⟩:=zb hr;have hrz:=hs.rz;have hbel:=hs.be;have z':=hbel.size;obtain⟨x0,x1,x2,x3⟩:=zb hrz;have fz:=hrz.frozen;go_wp2;obtain⟨q0,q1,q2,q3⟩:=zb (zm hrz (za r) rfl rfl rfl rfl);refine bodyPost_ret (v:=wv r) (by simp[results,results105,go_sem,q0,q1,q2,q3]) rfl (zK (by rw[HR.out,HP.out];rfl) ?_);exact zn hbel (by omega) _ _ _ _
theorem zmB (x n:Nat) (hn:257<=n) (h:x<2*M):x<2^n:=by
 have e:2*2^(n - 1)=2^n:=by rw[Nat.mul_comm,<-Nat.pow_succ];congr 1;omega
 have:=za3 (n - 1) (by omega);omega
theorem sum_lt (a b:Nat):a%M+b%M<2^(64*8):=by
 have h1:=Nat.mod_lt a Z4;have h2:=Nat.mod_lt b Z4;have h:=zmB (a%M+b%M) (64*8) (by omega) (by omega);exact h
theorem zck (n j:Nat) (h:n<2*M) (hj:5<=j):za n j=0:=by
 rw[zO];unfold zy;rw[Nat.div_eq_of_lt (zmB n (64*j) (by omega) h)];rfl
theorem znf (a b s k:Nat) (hs:s=a+b) (hk:k=cy a b 4):za s 0=za (a%M+b%M) 0/\za s 1=za (a%M+b%M) 1/\za s 2=za (a%M+b%M) 2/\za s 3=za (a%M+b%M) 3/\(k:Int)=za (a%M+b%M) 4/\(0:Int)=za (a%M+b%M) 5/\(0:Int)=za (a%M+b%M) 6/\(0:Int)=za (a%M+b%M) 7:=by
 have h1:=Nat.mod_lt a Z4;have h2:=Nat.mod_lt b Z4;subst hs hk;refine⟨?_, ?_, ?_, ?_, ?_,(zck _ 5 (by omega) (by omega)).symm,(zck _ 6 (by omega) (by omega)).symm,(zck _ 7 (by omega) (by omega)).symm⟩
 ·unfold za M;rw[pw0];omega
 ·unfold za M;rw[pw1];omega
 ·unfold za M;rw[pw2];omega
 ·unfold za M;rw[pw3];omega
 ·unfold za cy M at*;rw[pw4];omega
theorem zhD (a b c:Nat) (w:World):Calls prog 104 #[wv a,wv b,wv c] w (Ret w (ziR (a%M) (b%M) (c%M))):=by
 have hs:=S4.start w a b c;go_enter func104,ntmps104;go_wp2_with fail
 refine(YJ a b _).mono ?_;rintro e w1 ⟨s,k,HS,HK,rfl,hb⟩;replace hs:=hs.call hb;clear hb;go_wp2_with fail
 refine(zd1 (za s 0) (za s 1) (za s 2) (za s 3) _).mono ?_;rintro e w2 ⟨rfl,hb⟩;replace hs:=(hs.alloc _).call hb;clear hb;obtain⟨n,HN⟩:∃n,Hid (n=a%M+b%M):=⟨_,rfl⟩
 obtain⟨g0,g1,g2,g3,g4,g5,g6,g7⟩:za s 0=za n 0/\za s 1=za n 1/\za s 2=za n 2/\za s 3=za n 3/\(k:Int)=za n 4/\(0:Int)=za n 5/\(0:Int)=za n 6/\(0:Int)=za n 7:=by
  rw[HN.out];exact znf a b s k HS.out HK.out
 have G0:Hid (za s 0=za n 0):=g0;have G1:Hid (za s 1=za n 1):=g1;have G2:Hid (za s 2=za n 2):=g2;have G3:Hid (za s 3=za n 3):=g3;have G4:Hid ((k:Int)=za n 4):=g4;have G5:Hid ((0:Int)=za n 5):=g5;have G6:Hid ((0:Int)=za n 6):=g6;have G7:Hid ((0:Int)=za n 7):=g7;clear g0 g1 g2 g3 g4 g5 g6 g7;obtain⟨c0,c1,c2,c3⟩:=zb hs.rc;have zc:=hs.rc.lt;go_wp2_with fail
 have hw:Value.agg #[.int .u64 (za s 0),.int .u64 (za s 1),.int .u64 (za s 2),.int .u64 (za s 3),.int .u64 (k:Int),.int .u64 0,.int .u64 0,.int .u64 0]=wv8 n:=by
  unfold wv8;rw[G0.out,G1.out,G2.out,G3.out,G4.out,<-G5.out,<-G6.out,<-G7.out]
 rw[hw];refine(zaf n c (by rw[HN.out];exact sum_lt a b) _).mono ?_;rintro e w3 ⟨q,r,HQ,HR,rfl,hb⟩;replace hs:=(hs.alloc _).call hb;clear hb hw c0 c1 c2 c3 zc;have hrz:=hs.rz;have hbel:=hs.be;have z:=hrz.lt;have z2:w.heap.size+1+1+1<w3.heap.size+1:=Nat.lt_succ_of_lt z;have z':=hbel.size;obtain⟨x0,x1,x2,x3⟩:=zb hrz;have fz:=hrz.frozen;go_wp2;obtain⟨q0,q1,q2,q3⟩:=zb (zm hrz (za r) rfl rfl rfl rfl);refine bodyPost_ret (v:=wv r) (by simp[results,results104,go_sem,q0,q1,q2,q3,z,z2]) rfl (zK (by rw[HR.out,HN.out];rfl) ?_);exact bal (bal (zn hbel (by omega) _ _ _ _) _) _
def zI (op a b c:Nat):Nat:=
 if op=1 then fadd a b else if op=2 then zby a b else if op=3 then zds a b else if op=4 then zdm a b else if op=5 then zdQ a b else if op=6 then YC a b else if op=7 then zdP a b
 else if op=8 then ziR a b c else if op=9 then ziM a b c else if op=10 then zfo a b else if op=11 then zdy a b
 else if op=16 then zay (decide (a<b)) else if op=17 then zay (decide (b<a)) else if op=18 then zay (zcx a b) else if op=19 then zay (zcx b a) else if op=20 then zay (decide (a=b)) else if op=21 then zay (decide (a=0))
 else if op=22 then a &&& b else if op=23 then a ||| b else if op=24 then a ^^^ b else if op=25 then zcd a else if op=26 then zdS a b else if op=27 then zal a b else if op=28 then zbO a b else if op=29 then zgc a b else 0
def zbp (op:Nat):Int:=if 1<=op/\op<=11\/16<=op/\op<=29 then 0 else 1
def zaN (w:World) (n:Nat) (k:Int) (e:Ending) (w':World):Prop:=∃r:Nat,Hid (r=n)/\e=.returned (.tuple #[wv r,.int .i64 k])/\Below w.heap.size w w'
theorem yO {w w':World} {n r:Nat} {k:Int} (h:r%M=n%M) (hb:Below w.heap.size w w'):zaN w n k (.returned (.tuple #[wv r,.int .i64 k])) w':=
 ⟨n,rfl,congrArg Ending.returned (by rw[yA h]),hb⟩
theorem and_mod (a b:Nat):(a &&& b)%M=(a%M &&& b%M)%M:=by
 rw[zi0];apply Nat.eq_of_testBit_eq;intro i;simp only[Nat.testBit_mod_two_pow,Nat.testBit_and];cases decide (i<256)<;>simp
theorem or_mod (a b:Nat):(a ||| b)%M=(a%M ||| b%M)%M:=by
 rw[zi0];apply Nat.eq_of_testBit_eq;intro i;simp only[Nat.testBit_mod_two_pow,Nat.testBit_or];cases decide (i<256)<;>simp
theorem xor_mod (a b:Nat):(a ^^^ b)%M=(a%M ^^^ b%M)%M:=by
 rw[zi0];apply Nat.eq_of_testBit_eq;intro i;simp only[Nat.testBit_mod_two_pow,Nat.testBit_xor];cases decide (i<256)<;>simp
theorem add_red (a b:Nat):fadd a b=fadd (a%M) (b%M):=by unfold fadd;rw[Nat.add_mod]
theorem mul_red (a b:Nat):zby a b=zby (a%M) (b%M):=by unfold zby;rw[Nat.mul_mod]
theorem sub_red (a b:Nat):zds a b=zds (a%M) b:=by unfold zds;rw[Nat.add_mod a (M - b) M,Nat.add_mod (a%M) (M - b) M,Nat.mod_mod]
theorem shl_red (a b:Nat):zal a b=zal a (b%M):=by
 unfold zal;split
 ·rw[Nat.mul_mod b (2^a) M,Nat.mul_mod (b%M) (2^a) M,Nat.mod_mod]
 ·rfl
theorem ah {p q:Prop} (h:q) (e:p):p/\Hid q:=⟨e,h⟩
theorem add_w (a b:Nat) (w:World):Calls prog 97 #[wv a,wv b] w (Ret w (fadd (a%M) (b%M))):=by rw[<-add_red];exact add_any a b w
theorem mul_w (a b:Nat) (w:World):Calls prog 98 #[wv a,wv b] w (Ret w (zby (a%M) (b%M))):=by rw[<-mul_red];exact zeS a b w
theorem sub_w (a b:Nat) (w:World):Calls prog 99 #[wv a,wv b] w (Ret w (zds (a%M) (b%M))):=by rw[<-sub_red];exact ziH a b w
theorem shl_v (a b:Nat) (w:World):Calls prog 116 #[wv a,wv b] w (Ret w (zal (a%M) (b%M))):=by rw[<-shl_red];exact shl_w a b w
theorem and_w (a b:Nat) (w:World):Calls prog 111 #[wv a,wv b] w (Ret w (a%M &&& b%M)):=by
 refine(and_any a b w).mono ?_;rintro e w' ⟨rfl,hb⟩;exact zK (and_mod a b) hb
theorem or_w (a b:Nat) (w:World):Calls prog 112 #[wv a,wv b] w (Ret w (a%M ||| b%M)):=by
 refine(or_any a b w).mono ?_;rintro e w' ⟨rfl,hb⟩;exact zK (or_mod a b) hb
theorem xor_w (a b:Nat) (w:World):Calls prog 113 #[wv a,wv b] w (Ret w (a%M ^^^ b%M)):=by
 refine(xor_any a b w).mono ?_;rintro e w' ⟨rfl,hb⟩;exact zK (xor_mod a b) hb
theorem ar_all (op:Nat) (h:op=1\/op=2\/op=3\/op=4\/op=5\/op=6\/op=7\/op=8\/op=9\/op=10\/op=11) (a b c:Nat) (w:World):Calls prog 62 #[.int .u8 (op:Int),wv a,wv b,wv c] w (zaN w (zI op (a%M) (b%M) (c%M)) 0):=by
 rcases h.imp (ah fun w=>add_w a b w) (Or.imp (ah fun w=>mul_w a b w) (Or.imp (ah fun w=>sub_w a b w) (Or.imp (ah fun w=>ziU a b w) (Or.imp (ah fun w=>zmY a b w) (Or.imp (ah fun w=>ziV a b w) (Or.imp (ah fun w=>zlh a b w) (Or.imp (ah fun w=>zhD a b c w) (Or.imp (ah fun w=>zhU a b c w) (Or.imp (ah fun w=>exp_any a b w) (ah fun w=>zcK a b w)))))))))) with⟨rfl,HC⟩|⟨rfl,HC⟩|⟨rfl,HC⟩|⟨rfl,HC⟩|⟨rfl,HC⟩|⟨rfl,HC⟩|⟨rfl,HC⟩|⟨rfl,HC⟩|⟨rfl,HC⟩|⟨rfl,HC⟩|⟨rfl,HC⟩
 all_goals
  have hs:=S4.start w a b c;go_enter func62,ntmps62;go_wp2_with fail
  refine(HC.out _).mono ?_;rintro e w1 ⟨s,HS,rfl,hb⟩;replace hs:=hs.call hb;clear hb;have hrz:=hs.rz;have hbel:=hs.be;obtain⟨x0,x1,x2,x3⟩:=zb hrz;have fz:=hrz.frozen;go_wp2;obtain⟨q0,q1,q2,q3⟩:=zb (zm hrz (za s) rfl rfl rfl rfl);refine bodyPost_ret (v:=.tuple #[wv s,.int .i64 0]) (by simp[results,results62,go_sem,q0,q1,q2,q3]) rfl (yO (by rw[HS.out];simp[zI]) (zn hbel (by omega) _ _ _ _))
theorem bi_all (op:Nat) (h:op=22\/op=23\/op=24\/op=25\/op=26\/op=27\/op=28\/op=29) (a b c:Nat) (w:World):Calls prog 64 #[.int .u8 (op:Int),wv a,wv b] w (zaN w (zI op (a%M) (b%M) (c%M)) 0):=by
 rcases h.imp (ah fun w=>and_w a b w) (Or.imp (ah fun w=>or_w a b w) (Or.imp (ah fun w=>xor_w a b w) (Or.imp (ah fun w=>not_w a w) (Or.imp (ah fun w=>zh1 a b w) (Or.imp (ah fun w=>shl_v a b w) (Or.imp (ah fun w=>ziF a b w) (ah fun w=>zje a b w))))))) with⟨rfl,HC⟩|⟨rfl,HC⟩|⟨rfl,HC⟩|⟨rfl,HC⟩|⟨rfl,HC⟩|⟨rfl,HC⟩|⟨rfl,HC⟩|⟨rfl,HC⟩
 all_goals
  have hs:=SS.start w a b;go_enter func64,ntmps64;go_wp2_with fail
  refine(HC.out _).mono ?_;rintro e w1 ⟨s,HS,rfl,hb⟩;replace hs:=hs.call hb;clear hb;have hrz:=hs.rz;have hbel:=hs.be;obtain⟨x0,x1,x2,x3⟩:=zb hrz;have fz:=hrz.frozen;go_wp2;obtain⟨q0,q1,q2,q3⟩:=zb (zm hrz (za s) rfl rfl rfl rfl);refine bodyPost_ret (v:=.tuple #[wv s,.int .i64 0]) (by simp[results,results64,go_sem,q0,q1,q2,q3]) rfl (yO (by rw[HS.out];simp[zI]) (zn hbel (by omega) _ _ _ _))
theorem co_all (op:Nat) (h:op=16\/op=17\/op=18\/op=19) (a b c:Nat) (w:World):Calls prog 63 #[.int .u8 (op:Int),wv a,wv b] w (zaN w (zI op (a%M) (b%M) (c%M)) 0):=by
 rcases h.imp (ah fun w=>zeC a b w) (Or.imp (ah fun w=>zeC b a w) (Or.imp (ah fun w=>YV a b w) (ah fun w=>YV b a w))) with⟨rfl,HC⟩|⟨rfl,HC⟩|⟨rfl,HC⟩|⟨rfl,HC⟩
 all_goals
  have hs:=SS.start w a b;go_enter func63,ntmps63;go_wp2_with fail
  refine(HC.out _).mono ?_;rintro e w1 ⟨t,HT,rfl,hb⟩;replace hs:=hs.call hb;clear hb;go_wp2_with fail
  refine(zdR t _).mono ?_;rintro e w2 ⟨s,HS,rfl,hb⟩;replace hs:=hs.call hb;clear hb;have hrz:=hs.rz;have hbel:=hs.be;obtain⟨x0,x1,x2,x3⟩:=zb hrz;have fz:=hrz.frozen;go_wp2;obtain⟨q0,q1,q2,q3⟩:=zb (zm hrz (za s) rfl rfl rfl rfl);refine bodyPost_ret (v:=.tuple #[wv s,.int .i64 0]) (by simp[results,results63,go_sem,q0,q1,q2,q3]) rfl (yO (by rw[HS.out,HT.out];simp[zI]) (zn hbel (by omega) _ _ _ _))
theorem co_eq (op:Nat) (h:op=20\/op=21) (a b c:Nat) (w:World):Calls prog 63 #[.int .u8 (op:Int),wv a,wv b] w (zaN w (zI op (a%M) (b%M) (c%M)) 0):=by
 rcases h.imp (fun e:op=20=>(⟨_,e,rfl,fun w=>by rw[zgQ];rfl⟩:∃t:Bool,op=20/\Hid (t=decide (a%M=b%M))/\∀w,(Op.equalIn 10000 24 (wv a) (wv b)).run prog w=.ok t w)) (fun e:op=21=>(⟨_,e,rfl,fun w=>by rw[yl];rfl⟩:∃t:Bool,op=21/\Hid (t=decide (a%M=0))/\∀w,(Op.equalIn 10000 24 (wv a) (.agg #[.int .u64 0,.int .u64 0,.int .u64 0,.int .u64 0])).run prog w=.ok t w)) with⟨t,rfl,HT,he⟩|⟨t,rfl,HT,he⟩
 all_goals
  have hs:=SS.start w a b;go_enter func63,ntmps63;go_wp2_with fail
  refine(zdR t _).mono ?_;rintro e w2 ⟨s,HS,rfl,hb⟩;replace hs:=hs.call hb;clear hb;have hrz:=hs.rz;have hbel:=hs.be;obtain⟨x0,x1,x2,x3⟩:=zb hrz;have fz:=hrz.frozen;go_wp2;obtain⟨q0,q1,q2,q3⟩:=zb (zm hrz (za s) rfl rfl rfl rfl);refine bodyPost_ret (v:=.tuple #[wv s,.int .i64 0]) (by simp[results,results63,go_sem,q0,q1,q2,q3]) rfl (yO (by rw[HS.out,HT.out];simp[zI]) (zn hbel (by omega) _ _ _ _))
theorem ar_no (op:Nat) (h:op=0) (a b c:Nat) (w:World):Calls prog 62 #[.int .u8 (op:Int),wv a,wv b,wv c] w (zaN w 0 1):=by
 subst h;have hs:=S4.start w a b c;go_enter func62,ntmps62;have hrz:=hs.rz;have hbel:=hs.be;go_wp2;exact bodyPost_ret (v:=.tuple #[wv 0,.int .i64 1]) (by rw[<-zbb];simp[results,results62,go_sem]) rfl (yO rfl hs.be)
theorem co_no (op:Nat) (h:op=12\/op=13\/op=14\/op=15) (a b c:Nat) (w:World):Calls prog 63 #[.int .u8 (op:Int),wv a,wv b] w (zaN w 0 1):=by
 rcases h with rfl|rfl|rfl|rfl
 all_goals
  have hs:=SS.start w a b;go_enter func63,ntmps63;have hrz:=hs.rz;have hbel:=hs.be;go_wp2;exact bodyPost_ret (v:=.tuple #[wv 0,.int .i64 1]) (by rw[<-zbb];simp[results,results63,go_sem]) rfl (yO rfl hs.be)
theorem bi_no (op:Nat) (h:30<=op/\op<=255) (a b c:Nat) (w:World):Calls prog 64 #[.int .u8 (op:Int),wv a,wv b] w (zaN w 0 1):=by
 obtain⟨ho,ho2⟩:=h;have hs:=SS.start w a b;go_enter func64,ntmps64;have hrz:=hs.rz;have hbel:=hs.be;go_wp2;exact bodyPost_ret (v:=.tuple #[wv 0,.int .i64 1]) (by rw[<-zbb];simp[results,results64,go_sem]) rfl (yO rfl hs.be)
theorem hidw {p:Prop} (h:p):Hid p:=h
theorem ar_any (op:Nat) (ho:op<=11) (a b c:Nat) (w:World):Calls prog 62 #[.int .u8 (op:Int),wv a,wv b,wv c] w (zaN w (zI op (a%M) (b%M) (c%M)) (zbp op)):=by
 by_cases h:op=0
 ·subst h;exact ar_no 0 rfl a b c w
 ·rw[show zbp op=0 from if_pos (by omega)];exact ar_all op (by omega) a b c w
theorem co_any (op:Nat) (ho:12<=op) (h2:op<=21) (a b c:Nat) (w:World):Calls prog 63 #[.int .u8 (op:Int),wv a,wv b] w (zaN w (zI op (a%M) (b%M) (c%M)) (zbp op)):=by
 by_cases h:op<=15
 ·rw[show zI op (a%M) (b%M) (c%M)=0 by unfold zI;repeat rw[if_neg (by omega)],show zbp op=1 from if_neg (by omega)];exact co_no op (by omega) a b c w
 ·rw[show zbp op=0 from if_pos (by omega)];by_cases h:op<=19
  ·exact co_all op (by omega) a b c w
  ·exact co_eq op (by omega) a b c w
theorem bi_any (op:Nat) (ho:22<=op) (h2:op<=255) (a b c:Nat) (w:World):Calls prog 64 #[.int .u8 (op:Int),wv a,wv b] w (zaN w (zI op (a%M) (b%M) (c%M)) (zbp op)):=by
 by_cases h:op<=29
 ·rw[show zbp op=0 from if_pos (by omega)];exact bi_all op (by omega) a b c w
 ·rw[show zI op (a%M) (b%M) (c%M)=0 by unfold zI;repeat rw[if_neg (by omega)],show zbp op=1 from if_neg (by omega)];exact bi_no op (by omega) a b c w
theorem YF (op:Nat) (ho:op<=255) (a b c:Nat) (w:World):Calls prog 36 #[.int .u8 (op:Int),wv a,wv b,wv c] w (zaN w (zI op (a%M) (b%M) (c%M)) (zbp op)):=by
 rcases(by omega:op<=11\/(12<=op/\op<=21)\/22<=op).imp (fun h=>And.intro h (hidw fun w=>ar_any op h a b c w)) (Or.imp (fun h=>And.intro h (hidw fun w=>co_any op h.1 h.2 a b c w)) (fun h=>And.intro h (hidw fun w=>bi_any op h ho a b c w))) with⟨h,HC⟩|⟨⟨h,h2⟩,HC⟩|⟨h,HC⟩
 all_goals
  have hs:=S4.start w a b c;go_enter func36,ntmps36;go_wp2_with fail
  refine(HC.out _).mono ?_;rintro e w1 ⟨s,HS,rfl,hb⟩;replace hs:=hs.call hb;clear hb;have hrz:=hs.rz;have hbel:=hs.be;obtain⟨x0,x1,x2,x3⟩:=zb hrz;have fz:=hrz.frozen;go_wp2;obtain⟨q0,q1,q2,q3⟩:=zb (zm hrz (za s) rfl rfl rfl rfl);refine bodyPost_ret (v:=.tuple #[wv s,.int .i64 (zbp op)]) (by simp[results,results36,go_sem,q0,q1,q2,q3]) rfl (yO (by rw[HS.out]) (zn hbel (by omega) _ _ _ _))
theorem zaF (n:Nat) (hn:n<9223372036854775808) (w:World):Calls prog 12 #[.int .i64 (n:Int)] w (Ret w n):=by
 obtain⟨g0,g1,g2,g3⟩:=zY n (by omega);have G0:Hid (za n 0=(n:Int)):=g0;have G1:Hid (za n 1=0):=g1;have G2:Hid (za n 2=0):=g2;have G3:Hid (za n 3=0):=g3;clear g0 g1 g2 g3;go_enter func12,ntmps12;go_wp2;refine bodyPost_ret (v:=wv n) (by unfold wv;rw[G0.out,G1.out,G2.out,G3.out];simp[results,results12,go_sem]) rfl (zK rfl ?_);exact bal (bal (Below.refl _ _) _) _
theorem zjY (op:Nat) (ho:op<=255) (he:Hid (zbp op=0)) (a b c:Nat) (w:World):Calls prog 14 #[.int .u8 (op:Int),wv a,wv b,wv c] w (Ret w (zI op (a%M) (b%M) (c%M))):=by
 have hs:=S4.start w a b c;have hc:∀w,Calls prog 36 #[.int .u8 (op:Int),wv a,wv b,wv c] w (zaN w (zI op (a%M) (b%M) (c%M)) 0):=fun w=>by have h:=YF op ho a b c w;rw[he.out] at h;exact h
 have HC:=hc;have HH:Hid (∀w,Calls prog 36 #[.int .u8 (op:Int),wv a,wv b,wv c] w (zaN w (zI op (a%M) (b%M) (c%M)) 0)):=hc;clear hc HC;go_enter func14,ntmps14;go_wp2_with fail
 refine(HH.out _).mono ?_;rintro e w1 ⟨s,HS,rfl,hb⟩;replace hs:=hs.call hb;clear hb;have hrz:=hs.rz;have hbel:=hs.be;have z:=hrz.lt;obtain⟨x0,x1,x2,x3⟩:=zb hrz;have fz:=hrz.frozen;go_wp2;obtain⟨q0,q1,q2,q3⟩:=zb (zm hrz (za s) rfl rfl rfl rfl);refine bodyPost_ret (v:=wv s) (by simp[results,results14,go_sem,q0,q1,q2,q3,z]) rfl (zK (by rw[HS.out]) ?_);exact bal (zn hbel (by omega) _ _ _ _) _
section
variable {P:Program} {ops:Array Oper} {Q:Exit->Act->World->Prop}
theorem ZA (s:Act) (d:Nat) (v:Value) (k:Nat) (hd:d<s.tmps.size):(s.put (some d) v).tmps.getD k undef=if k=d then v else s.tmps.getD k undef:=by
 simp only[Act.put,Array.getD_eq_getD_getElem?,Array.getElem?_setIfInBounds];by_cases e:d=k
 ·subst e;simp[hd]
 ·rw[if_neg e,if_neg (fun h=>e h.symm)]
theorem yt (s:Act) (d:Nat) (v:Value):(s.put (some d) v).tmps.size=s.tmps.size:=by simp[Act.put]
theorem yI (s:Act) (d:Nat) (v:Value):(s.put (some d) v).defers=s.defers:=rfl
def zL (a:Act) (tab:List (Nat×Value)):Act:=tab.foldl (fun s p=>s.put (some p.1) p.2) a
theorem yS:∀(tab:List (Nat×Value)) (a:Act),(zL a tab).tmps.size=a.tmps.size
 |[],_=>rfl
 |p::tab,a=>by
  show(zL (a.put (some p.1) p.2) tab).tmps.size=_;rw[yS tab,yt]
theorem yq:∀(tab:List (Nat×Value)) (a:Act),(zL a tab).defers=a.defers
 |[],_=>rfl
 |p::tab,a=>by
  show(zL (a.put (some p.1) p.2) tab).defers=_;rw[yq tab,yI]
theorem Yc:∀(tab:List (Nat×Value)) (a:Act) (k:Nat),(∀p∈tab,p.1<a.tmps.size)->(∀p∈tab,p.1≠k)->(zL a tab).tmps.getD k undef=a.tmps.getD k undef
 |[],_,_,_,_=>rfl
 |p::tab,a,k,hl,hk=>by
  show(zL (a.put (some p.1) p.2) tab).tmps.getD k undef=_;rw[Yc tab _ k (fun q hq=>by rw[yt];exact hl q (List.mem_cons_of_mem _ hq)) (fun q hq=>hk q (List.mem_cons_of_mem _ hq)),ZA _ _ _ _ (hl p List.mem_cons_self),if_neg (fun h=>hk p List.mem_cons_self h.symm)]
theorem za0:∀(tab:List (Nat×Value)) (a:Act) (d:Nat) (v:Value),(∀p∈tab,p.1<a.tmps.size)->(tab.map Prod.fst).Nodup->(d,v)∈tab->(zL a tab).tmps.getD d undef=v
 |[],_,_,_,_,_,h=>by cases h
 |p::tab,a,d,v,hl,hn,h=>by
  rw[List.map_cons,List.nodup_cons] at hn;show(zL (a.put (some p.1) p.2) tab).tmps.getD d undef=_;rcases List.mem_cons.1 h with rfl|h
  ·rw[Yc tab _ d (fun q hq=>by rw[yt];exact hl q (List.mem_cons_of_mem _ hq)) (fun q hq e=>hn.1 (List.mem_map.2 ⟨q,hq,e⟩)),ZA _ _ _ _ (hl _ List.mem_cons_self),if_pos rfl]
  ·exact za0 tab _ d v (fun q hq=>by rw[yt];exact hl q (List.mem_cons_of_mem _ hq)) hn.2 h
theorem zb2 {s t:Act} (h1:s.tmps.size=t.tmps.size) (h2:s.defers=t.defers) (h3:∀k,k<t.tmps.size->s.tmps.getD k undef=t.tmps.getD k undef):s=t:=by
 obtain⟨st,sd⟩:=s;obtain⟨tt,td⟩:=t;simp only at h1 h2 h3;subst h2;congr 1;apply Array.ext h1;intro k hk1 hk2;have:=h3 k hk2;simpa[Array.getD_eq_getD_getElem?,hk1,hk2] using this
end
section
theorem zg {ops:Array Oper} {o:Oper} {t:Array Value} (h:o.guard=none):Region.wanted o (yielded ops t)=true:=by unfold Region.wanted;rw[h]
theorem zV {ops:Array Oper} {o og:Oper} {t:Array Value} {g d:Nat} (h:o.guard=some (g,true)) (hg:ops[g]? =some og) (hd:og.dst=some d) (hv:t.getD d undef=.bool true):Region.wanted o (yielded ops t)=true:=by
 unfold Region.wanted;rw[h];unfold yielded;simp only[hg,Option.bind_some,hd];rw[Array.getD_eq_getD_getElem?] at hv;cases hx:t[d]? with
 |none=>rw[hx] at hv;simp[undef] at hv
 |some v=>rw[hx] at hv;simp only[Option.getD_some] at hv;subst hv;rfl
variable {s:Act} {x:World} {pos:String} {af:Array Edge} {g:Option (Nat×Bool)} {K:Act->World->Prop} {Q:Exit->Act->World->Prop}
theorem zfy (t d b n:Nat) (he:s.tmps.getD t undef=.pointer (some ⟨b,0,none⟩)) (hr:x.rowIs b 24 4 (zj (za n))) (hK:K (s.put (some d) (wv n)) x):
  Oper.wp prog ⟨some d,.load 24 (.tmp t),24,pos,af,g⟩ s x K Q:=by
 obtain⟨y0,y1,y2,y3⟩:=zb hr;have he2:s.eval (.tmp t)=.pointer (some ⟨b,0,none⟩):=he;go_simp;exact hK
theorem zbY (t d:Nat) (v:Value) (he:s.tmps.getD t undef=v) (hK:K (s.put (some d) v) x) {ty:TypeId}:
  Oper.wp prog ⟨some d,.move (.tmp t),ty,pos,af,g⟩ s x K Q:=by
 have he2:s.eval (.tmp t)=v:=he;go_simp;rw[he] at*;exact hK
theorem zkm (t d:Nat) (v:Value) (he:s.tmps.getD t undef=v) (hK:K (s.put (some d) v) x) {ty:TypeId}:
  Oper.wp prog ⟨some d,.assign (.tmp t),ty,pos,af,g⟩ s x K Q:=by
 have he2:s.eval (.tmp t)=v:=he;go_simp;rw[he] at*;exact hK
end

section
variable {s:Act} {x:World} {pos:String} {af:Array Edge} {g:Option (Nat×Bool)} {K:Act->World->Prop} {Q:Exit->Act->World->Prop}
end
section
theorem zij {ops:Array Oper} {o og:Oper} {t:Array Value} {g d:Nat} (h:o.guard=some (g,false)) (hg:ops[g]? =some og) (hd:og.dst=some d) (hv:t.getD d undef=.bool false):Region.wanted o (yielded ops t)=true:=by
 unfold Region.wanted;rw[h];unfold yielded;simp only[hg,Option.bind_some,hd];rw[Array.getD_eq_getD_getElem?] at hv;cases hx:t[d]? with
 |none=>rw[hx] at hv;simp[undef] at hv
 |some v=>rw[hx] at hv;simp only[Option.getD_some] at hv;subst hv;rfl
variable {s:Act} {x:World} {pos:String} {af:Array Edge} {g:Option (Nat×Bool)} {K:Act->World->Prop} {Q:Exit->Act->World->Prop}
end
def cym (a b d k:Nat):Nat:=(a%2^(64*k)*b+d)/2^(64*k)
theorem cym0 (a b d:Nat):cym a b d 0=d:=by unfold cym;rw[pw0,Nat.mod_one,Nat.zero_mul,Nat.zero_add,Nat.div_one]
theorem zlR (a b d k:Nat):zy a k*b+cym a b d k=cym a b d (k+1)*18446744073709551616+zy (a*b+d) k:=by
 have hq:zy a k=a/2^(64*k)%18446744073709551616:=rfl;have hr:zy (a*b+d) k=(a*b+d)/2^(64*k)%18446744073709551616:=rfl;have hp:2^(64*(k+1))=2^(64*k)*18446744073709551616:=by rw[Nat.mul_succ,Nat.pow_add]
 unfold cym;rw[hq,hr,hp];obtain⟨P,hP,hP0⟩:∃P,P=2^(64*k)/\0<P:=⟨_,rfl,Nat.two_pow_pos _⟩;rw[<-hP];obtain⟨x,hx⟩:∃x,x=a%P:=⟨_,rfl⟩;obtain⟨h,hh⟩:∃h,h=a/P:=⟨_,rfl⟩;have ha:a=P*h+x:=by rw[hh,hx,Nat.div_add_mod]
 have hxl:x<P:=by rw[hx];exact Nat.mod_lt _ hP0
 obtain⟨q,hqq⟩:∃q,q=h%18446744073709551616:=⟨_,rfl⟩;obtain⟨g,hg⟩:∃g,g=h/18446744073709551616:=⟨_,rfl⟩;have hhg:h=18446744073709551616*g+q:=by rw[hg,hqq,Nat.div_add_mod]
 have e1:a%(P*18446744073709551616)=P*q+x:=by
  rw[Nat.mod_mul,<-hx,<-hh,<-hqq,Nat.add_comm]
 rw[e1,<-hx,<-hh,<-hqq];have e2:(P*q+x)*b+d=P*(q*b)+(x*b+d):=by rw[Nat.add_mul,Nat.mul_assoc,Nat.add_assoc]
 have e3:((P*q+x)*b+d)/(P*18446744073709551616)=(q*b+(x*b+d)/P)/18446744073709551616:=by
  rw[<-Nat.div_div_eq_div_mul,e2,Nat.mul_add_div hP0]
 have e4:(a*b+d)/P=h*b+(x*b+d)/P:=by
  rw[ha,show(P*h+x)*b+d=P*(h*b)+(x*b+d) by rw[Nat.add_mul,Nat.mul_assoc,Nat.add_assoc],Nat.mul_add_div hP0]
 rw[e3,e4];generalize(x*b+d)/P=c;have e5:h*b+c=18446744073709551616*(g*b)+(q*b+c):=by rw[hhg,Nat.add_mul,Nat.mul_assoc,Nat.add_assoc]
 rw[e5,Nat.mul_add_mod];generalize q*b+c=t;omega
theorem cym_lt (a b d k:Nat) (hb:b<100) (hd:d<100):cym a b d k<200:=by
 unfold cym;have hP:0<2^(64*k):=Nat.two_pow_pos _;rw[Nat.div_lt_iff_lt_mul hP];have h1:a%2^(64*k)<2^(64*k):=Nat.mod_lt _ hP;have h2:a%2^(64*k)*b<=2^(64*k)*99:=Nat.mul_le_mul (by omega) (by omega);omega
theorem cym4 (a b d:Nat) (ha:a<M):(cym a b d 4≠0)↔M<=a*b+d:=by
 unfold cym;have e:2^(64*4)=M:=pw4;rw[e,Nat.mod_eq_of_lt ha,Ne,Nat.div_eq_zero_iff];unfold M;omega
theorem zkj {w:World} {b:Nat} {t:TypeId} {n k:Nat} {f g:Nat->Int} (h:w.rowIs b t n (zj fun i=>if i<k then f i else g i)) {x:Int} (hx:x=f k):
  (w.setCell ⟨b,k,none⟩ (.int .u64 x)).rowIs b t n (zj fun i=>if i<k+1 then f i else g i):=Z0 h hx
theorem tp_num {q b c hi lo s1 c1 c' r:Nat} (h0:q*b+c=c'*18446744073709551616+r) (hr:r<18446744073709551616) (h1:hi*18446744073709551616+lo=q*b) (h2:s1+c1*18446744073709551616=lo+c) (h3:s1<18446744073709551616):s1=r/\hi+c1=c':=by
 rw[<-h1] at h0;omega
theorem zdu (a b d:Nat) (ha:Hid (a<M)) (hb:b<100) (hd:d<100) (w:World):Calls prog 201 #[wv a,.int .u64 (b:Int),.int .u64 (d:Int)] w fun e w'=>∃r:Nat,Hid (r=(a*b+d)%M)/\e=.returned (.tuple #[wv r,.bool (decide (M<=a*b+d))])/\Below w.heap.size w w':=by
 obtain⟨R,HR⟩:∃R,Hid (R=a*b+d):=⟨_,rfl⟩;go_enter func201,ntmps201;go_wp2
 go_loopw [8,15] (fun t8 t15 wr=>∃k c:Nat,k<=4/\t15=.int .i64 k/\t8=.int .u64 c/\c<200/\Hid (c=cym a b d k)/\wr.rowIs w.heap.size 24 4 (zj fun i=>if i<k then za R i else za a i)/\wr.rowIs (w.heap.size+1) 24 4 (zj fun _=>0)/\Below w.heap.size w wr)
   (fun _ t15 _=>4 - (intOf t15).toNat)
 case atStart=>
  exact⟨0,d,by omega,rfl,rfl,by omega,(cym0 a b d).symm,(zh _ rfl rfl rfl rfl rfl).alloc _,zh (fun _=>0) (by simp) rfl rfl rfl rfl,bal (bal (Below.refl _ _) _) _⟩
 case round=>
  obtain⟨k,c,hk,rfl,rfl,hc,HC,hra,hrz,hbel⟩:=hrel;by_cases hlt:k<4
  ·have hdk:decide ((k:Int)<4)=true:=by simp;omega
   have ca:=hra.cell hlt;have fa:=hra.frozen k;simp only[zj,Nat.lt_irrefl,if_false,zO] at ca;have hst:=zlR a b d k;rw[<-HC.out,<-HR.out] at hst;have HS:Hid (zy a k*b+c=cym a b d (k+1)*18446744073709551616+zy R k):=hst;have HN:Hid (cym a b d (k+1)<200):=cym_lt a b d (k+1) hb hd;clear hst;go_wp2_with fail
   refine(zg0 (zy a k) b (ZD _ _) (by omega) _).mono ?_;rintro e w' ⟨hi,lo,h1,l1,l2,rfl,rfl⟩;obtain⟨s1,c1,h2,l3,l4,r1⟩:=zcl lo c;obtain⟨e1,e2⟩:=tp_num HS.out (ZD _ _) h1.out h2.out l3;have hsum:hi+c1<200:=by rw[e2];exact HN.out
   have E1:Hid (s1=zy R k):=e1;have E2:Hid (hi+c1=cym a b d (k+1)):=e2;clear l4 l1 l2 l3 e1 e2;go_wp2
   go_roundw
   case rel=>
    exact⟨k+1,hi+c1,by omega,by go_num,by go_num,hsum,E2,zkj hra (by rw[E1.out];rfl),hrz.setOther (by simp) _,bset hbel (by simp) _⟩
   case measure=>simp[intOf];omega
  ·obtain rfl:k=4:=by omega
   have hrow:wr.rowIs w.heap.size 24 4 (zj (za R)):=hra.congr fun i hi=>by simp only[zj];rw[if_pos hi]
   clear hra
   have HB:Hid ((((c:Nat):Int) !=0)=decide (M<=a*b+d)):=by
    show _=_;rw[Bool.eq_iff_iff,decide_eq_true_eq,<-cym4 a b d ha.out,<-HC.out];simp
   obtain⟨c0,c1,c2,c3⟩:=zb hrow;obtain⟨z0,z1,z2,z3⟩:=zb hrz;have f0:=hrz.frozen;go_wp2;obtain⟨q0,q1,q2,q3⟩:=zb (zm hrz (za R) rfl rfl rfl rfl);refine bodyPost_ret (v:=.tuple #[wv R,.bool (((c:Nat):Int) !=0)]) (by simp[results,results201,go_sem,q0,q1,q2,q3]) rfl ⟨(a*b+d)%M,rfl, ?_,zn hbel (by omega) _ _ _ _⟩;rw[HB.out,<-HR.out,zaH]
def dgt (r:Nat):Nat:=if 48<=r/\r<=57 then r - 48 else if 97<=r/\r<=102 then r - 87 else 16
theorem dgt_le (r:Nat):dgt r<=16:=by
 unfold dgt;split
 ·omega
 ·split<;>omega
theorem zdO (r:Nat) (hr:r<=2147483647) (w:World):Calls prog 200 #[.int .i32 (r:Int)] w fun e w'=>e=.returned (.int .u64 (dgt r:Int))/\w'=w:=by
 rcases(by omega:r<48\/(48<=r/\r<=57)\/(57<r/\r<97)\/(97<=r/\r<=102)\/102<r) with h|h|h|h|h
 ·have HD:Hid ((dgt r:Int)=16):=by show _=_;unfold dgt;(split<;>first|omega|(split<;>omega))
  have d0:decide (48<=(r:Int))=false:=by simp;omega
  have d1:decide (97<=(r:Int))=false:=by simp;omega
  go_enter func200,ntmps200;go_wp2;go_ret;exact⟨by rw[HD.out];rfl,rfl⟩
 ·have HD:Hid ((dgt r:Int)=(r:Int) - 48):=by show _=_;unfold dgt;(split<;>first|omega|(split<;>omega))
  have d0:decide (48<=(r:Int))=true:=by simp;omega
  have d1:decide ((r:Int)<=57)=true:=by simp;omega
  go_enter func200,ntmps200;go_wp2;go_ret;exact⟨by rw[HD.out];rfl,rfl⟩
 ·have HD:Hid ((dgt r:Int)=16):=by show _=_;unfold dgt;(split<;>first|omega|(split<;>omega))
  have d0:decide (48<=(r:Int))=true:=by simp;omega
  have d1:decide ((r:Int)<=57)=false:=by simp;omega
  have d2:decide (97<=(r:Int))=false:=by simp;omega
  go_enter func200,ntmps200;go_wp2;go_ret;exact⟨by rw[HD.out];rfl,rfl⟩
 ·have HD:Hid ((dgt r:Int)=(r:Int) - 97+10):=by show _=_;unfold dgt;(split<;>first|omega|(split<;>omega))
  have d0:decide (48<=(r:Int))=true:=by simp;omega
  have d1:decide ((r:Int)<=57)=false:=by simp;omega
  have d2:decide (97<=(r:Int))=true:=by simp;omega
  have d3:decide ((r:Int)<=102)=true:=by simp;omega
  go_enter func200,ntmps200;go_wp2;go_ret;exact⟨by rw[HD.out];rfl,rfl⟩
 ·have HD:Hid ((dgt r:Int)=16):=by show _=_;unfold dgt;(split<;>first|omega|(split<;>omega))
  have d0:decide (48<=(r:Int))=true:=by simp;omega
  have d1:decide ((r:Int)<=57)=false:=by simp;omega
  have d2:decide (97<=(r:Int))=true:=by simp;omega
  have d3:decide ((r:Int)<=102)=false:=by simp;omega
  go_enter func200,ntmps200;go_wp2;go_ret;exact⟨by rw[HD.out];rfl,rfl⟩
def Z5 (t pre:ByteArray):ByteArray:=if pf t pre then t.extract pre.size t.size else t
theorem zav (t pre:ByteArray) (ht:t.size<=2000) (hp:pre.size<=2000) (w:World):Calls prog 142 #[.string t,.string pre] w fun e w'=>e=.returned (.tuple #[.string (Z5 t pre),.bool (pf t pre)])/\w'=w:=by
 by_cases h:pre.size<=t.size
 ·have HP:pf t pre=((t.extract 0 pre.size).toList==pre.toList):=by unfold pf;rw[decide_eq_true h,Bool.true_and]
  cases hq:((t.extract 0 pre.size).toList==pre.toList)
  ·rw[hq] at HP;have HC:Hid (Z5 t pre=t):=by show _=_;unfold Z5;rw[HP];rfl
   have HQ:Hid (pf t pre=false):=HP;clear HP;go_enter func142,ntmps142;go_wp2;go_ret2;exact⟨by rw[HC.out,HQ.out];rfl,rfl⟩
  ·rw[hq] at HP;have HC:Hid (Z5 t pre=t.extract pre.size t.size):=by show _=_;unfold Z5;rw[HP];rfl
   have HQ:Hid (pf t pre=true):=HP;clear HP;go_enter func142,ntmps142;go_wp2;go_ret2;exact⟨by rw[HC.out,HQ.out];rfl,rfl⟩
 ·have HP:pf t pre=false:=by unfold pf;rw[decide_eq_false h,Bool.false_and]
  have HC:Hid (Z5 t pre=t):=by show _=_;unfold Z5;rw[HP];rfl
  have HQ:Hid (pf t pre=false):=HP;clear HP;go_enter func142,ntmps142;go_wp2;go_ret2;exact⟨by rw[HC.out,HQ.out];rfl,rfl⟩
def sf (t suf:ByteArray):Bool:=decide (suf.size<=t.size)&&((t.extract (t.size - suf.size) t.size).toList==suf.toList)
def zaD (t suf:ByteArray):ByteArray:=if sf t suf then t.extract 0 (t.size - suf.size) else t
theorem zdp (t suf:ByteArray) (ht:t.size<=2000) (hp:suf.size<=2000) (w:World):Calls prog 140 #[.string t,.string suf] w fun e w'=>e=.returned (.tuple #[.string (zaD t suf),.bool (sf t suf)])/\w'=w:=by
 by_cases h:suf.size<=t.size
 ·obtain⟨n,hn⟩:∃n:Nat,(t.size:Int) - (suf.size:Int)=(n:Int):=⟨t.size - suf.size,by omega⟩;have hnn:t.size - suf.size=n:=by omega
  have hnl:n<=t.size:=by omega
  have HP:sf t suf=((t.extract n t.size).toList==suf.toList):=by unfold sf;rw[decide_eq_true h,Bool.true_and,hnn]
  have HK:zaD t suf=if sf t suf then t.extract 0 n else t:=by unfold zaD;rw[hnn]
  clear hnn;cases hq:((t.extract n t.size).toList==suf.toList)
  ·rw[hq] at HP;rw[HP] at HK;have HC:Hid (zaD t suf=t):=HK;have HQ:Hid (sf t suf=false):=HP;clear HP HK;go_enter func140,ntmps140;go_wp2;go_ret2;exact⟨by rw[HC.out,HQ.out];rfl,rfl⟩
  ·rw[hq] at HP;rw[HP] at HK;have HC:Hid (zaD t suf=t.extract 0 n):=HK;have HQ:Hid (sf t suf=true):=HP;clear HP HK;go_enter func140,ntmps140;go_wp2;go_ret2;exact⟨by rw[HC.out,HQ.out];rfl,rfl⟩
 ·have HP:sf t suf=false:=by unfold sf;rw[decide_eq_false h,Bool.false_and]
  have HC:Hid (zaD t suf=t):=by show _=_;unfold zaD;rw[HP];rfl
  have HQ:Hid (sf t suf=false):=HP;clear HP;go_enter func140,ntmps140;go_wp2;go_ret2;exact⟨by rw[HC.out,HQ.out];rfl,rfl⟩
def zax (s:ByteArray) (base:Nat):Nat->Nat->Nat->Bool->Option (Nat×Bool)
 |0,_,n,g=>some (n,g)
 |f+1,p,n,g=>if p<s.size then(if dgt (byt s p)<base then zax s base f (p+1) ((n*base+dgt (byt s p))%M) (g||decide (M<=n*base+dgt (byt s p))) else none) else some (n,g)
def num (s:ByteArray) (base:Nat):Option (Nat×Bool):=zax s base s.size 0 0 false
theorem zhf (s:ByteArray) (base f p n:Nat) (g:Bool) (h:¬p<s.size):zax s base f p n g=some (n,g):=by
 cases f with
 |zero=>rfl
 |succ f=>simp[zax,h]
theorem zlU {s:ByteArray} {base f p n:Nat} {g:Bool} {c:Option (Nat×Bool)} (hp:p<s.size) (h0:dgt (byt s p)<base) (hf:0<f) (h:zax s base f p n g=c):zax s base (f - 1) (p+1) ((n*base+dgt (byt s p))%M) (g||decide (M<=n*base+dgt (byt s p)))=c:=by
 obtain⟨k,rfl⟩:∃k,f=k+1:=⟨f - 1,by omega⟩;rw[<-h];simp[zax,hp,h0]
theorem num_no {s:ByteArray} {base f p n:Nat} {g:Bool} {c:Option (Nat×Bool)} (hp:p<s.size) (h0:¬dgt (byt s p)<base) (hf:0<f) (h:zax s base f p n g=c):c=none:=by
 obtain⟨k,rfl⟩:∃k,f=k+1:=⟨f - 1,by omega⟩;rw[<-h];simp[zax,hp,h0]
def rnum (t:ByteArray) (base:Nat):Nat×Int:=match num t base with
 |none=>(0,2)
 |some (n,g)=>if t.size=0 then(0,2) else if g then(0,4) else(n,0)
def x0:ByteArray:=⟨#[48,120]⟩
def zaU (s:ByteArray):Nat:=if pf s x0 then 16 else 10
def ym (s:ByteArray):Nat×Int:=rnum (Z5 s x0) (zaU s)
theorem zhx (s:ByteArray) (p:Nat):dgt (Utf8.decode s p).1=dgt (byt s p)/\(dgt (byt s p)<16->(Utf8.decode s p).2=1):=by
 by_cases h:byt s p<128
 ·have e:Utf8.decode s p=(byt s p,1):=by rw[ZP,zi7 _ _ _ _ _ _ h]
  rw[e];exact⟨rfl,fun _=>rfl⟩
 ·have hd:=zdZ s.size p (byt s p) (byt s (p+1)) (byt s (p+2)) (byt s (p+3));rw[<-ZP] at hd;have h1:¬(Utf8.decode s p).1<=127:=fun k=>h (hd.1 k)
  have e1:dgt (byt s p)=16:=by unfold dgt;rw[if_neg (by omega),if_neg (by omega)]
  have e2:dgt (Utf8.decode s p).1=16:=by unfold dgt;rw[if_neg (by omega),if_neg (by omega)]
  rw[e1,e2];exact⟨rfl,fun k=>by omega⟩
end cin
end Go.Proofs.YtohoajjdoihekaaGreatDoor
