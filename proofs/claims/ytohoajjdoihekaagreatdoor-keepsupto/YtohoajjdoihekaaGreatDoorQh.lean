import Derived.Test.YtohoajjdoihekaaGreatDoorNt
import Derived.Shelf.SlIterI.Collect
import Derived.Shelf.SlIterI.Nil
import Derived.Shelf.SlSortCmp.KitK
import Derived.Shelf.SlGeneric
import Derived.Shelf.SlSortCmp.WholeK
set_option linter.unusedVariables false
set_option linter.unusedSimpArgs false
namespace Go.Proofs.YtohoajjdoihekaaGreatDoor
namespace cin
open Go.RowKit Go.Proofs.Tryz Tryz
set_option maxRecDepth 100000
set_option maxHeartbeats 8000000
section
open Go.RowKit Go.Maps Go.MuLone
theorem SentR.below {ab n m gb b:Nat} {A:Nat->Acc} {sb:Nat->Value} {T':TS} {w y y':World} (h:SentR ab n m gb b A sb T' w y) (hb:Below y.heap.size y y'):SentR ab n m gb b A sb T' w y':=by
 obtain⟨V',S2,h1,h2,h3,h4,h5,h6⟩:=h;exact⟨V',S2,h1.kb (Kb.of_below (S:=[]) hb) (by simp),h2,h3.below hb,h4,h5.below hb,h6⟩
def DelS (L:List LogE) (R:World->Prop) (b:Nat) (w:World) (lv:Value) (x:World):Prop:=R x/\ResAt x b 0 0 ⟨#[]⟩ noL/\∃base tv,w.heap.size<=base/\Lo x base lv tv L
theorem DelS.below {L:List LogE} {ab n m gb b' b:Nat} {A:Nat->Acc} {sb:Nat->Value} {T':TS} {w x3:World} {lv:Value} {x x':World} (h:DelS L (SentR ab n m gb b' A sb T' x3) b w lv x) (hb:Below x.heap.size x x'):DelS L (SentR ab n m gb b' A sb T' x3) b w lv x':=by
 obtain⟨h1,h2,base,tv,h3,h4⟩:=h;exact⟨h1.below hb,h2.below hb,base,tv,h3,h4.kb (Kb.of_below (S:=[]) hb) (by simp) (by simp)⟩
def RsK (st gs:Nat) (out:ByteArray) (D:Value->World->Prop):Kp:=fun p v x=>∃ad n c,v=YL st gs out (.slice ad n c)/\(p=2->D (.slice ad n c) x)
def PhY (D:Value->World->Prop) (b st gs:Nat) (out:ByteArray) (w:World):Nat->World->Prop
 |0,x=>Below w.heap.size w x
 |1,x=>Below w.heap.size w x
 |2,x=>∃lv,D lv x
 |_,x=>∃lv y,D lv y/\Below (yk y b st gs out lv).heap.size (yk y b st gs out lv) x
theorem zkO {D:Value->World->Prop} {b st gs:Nat} {out:ByteArray} {w x:World} {k:Nat} (h:PhY D b st gs out w k x) (hk:k<=1):Below w.heap.size w x:=by
 match k,hk,h with
 |0,_,h=>exact h
 |1,_,h=>exact h
theorem phy_bel {L:List LogE} {ab n m gb b' b st gs:Nat} {out:ByteArray} {A:Nat->Acc} {sb:Nat->Value} {T':TS} {w x3:World} (k:Nat) (x x':World) (h:PhY (DelS L (SentR ab n m gb b' A sb T' x3) b w) b st gs out w k x) (hb:Below x.heap.size x x'):PhY (DelS L (SentR ab n m gb b' A sb T' x3) b w) b st gs out w k x':=by
 match k,h with
 |0,h=>exact(show Below w.heap.size w x from h).trans (hb.mono (show Below w.heap.size w x from h).size)
 |1,h=>exact(show Below w.heap.size w x from h).trans (hb.mono (show Below w.heap.size w x from h).size)
 |2,⟨lv,h⟩=>exact⟨lv,h.below hb⟩
 |_+3,⟨lv,y,h1,h2⟩=>exact⟨lv,y,h1,h2.trans (hb.mono h2.size)⟩
section
variable {s:Act} {x:World} {pos:String} {af:Array Edge} {gd:Option (Nat×Bool)} {K:Act->World->Prop} {Q:Exit->Act->World->Prop}
theorem zm4 {t d mb fr tt val gas:Nat} {data:ByteArray} {ty:TypeId} (h:s.tmps.getD t undef=.pointer (some ⟨mb,0,none⟩)) (hm:MsgAt x mb fr tt val data gas) (hK:K (s.put (some d) (msgV fr tt val data gas)) x):
  Oper.wp prog ⟨some d,.load 43 (.tmp t),ty,pos,af,gd⟩ s x K Q:=by
 have f3:s.eval (.tmp t)=.pointer (some ⟨mb,0,none⟩):=h;obtain⟨q0,q1,q2,q3,q4,q5,q6,q7,q8,q9,q10,q11,q12,q13⟩:=hm.cells;go_simp;exact hK
theorem zim {t1 t2 b st gs m cp:Nat} {out:ByteArray} {ad:Option Addr} {ty:TypeId} (h1:s.tmps.getD t1 undef=.pointer (some ⟨b,0,none⟩)) (h2:s.tmps.getD t2 undef=YL st gs out (.slice ad m cp)) (hr:ResAt x b 0 0 ⟨#[]⟩ noL) (hK:K (s.put none undef) (yk x b st gs out (.slice ad m cp))):
  Oper.wp prog ⟨none,.store 38 (.tmp t1) (.tmp t2),ty,pos,af,gd⟩ s x K Q:=by
 have e1:s.eval (.tmp t1)=.pointer (some ⟨b,0,none⟩):=h1;have e2:s.eval (.tmp t2)=.agg #[.int .u8 (st:Int),.int .i64 (gs:Int),.string out,.slice ad m cp]:=h2;obtain⟨⟨k0,k1,k2,k3⟩,f0,f1,f2,f3⟩:=hr;go_simp;exact hK
theorem zkf {t1 t2 d tb:Nat} {mv:Value} {ty:TypeId} {Post:Ending->World->Prop} (h1:s.tmps.getD t1 undef=.pointer (some ⟨tb,0,none⟩)) (h2:s.tmps.getD t2 undef=mv) (hc:Calls prog 35 #[.pointer (some ⟨tb,0,none⟩),mv] x Post)
  (hr:∀v x',Post (.returned v) x'->K (s.put (some d) v) x') (hp:∀l x',Post (.panicked l) x'->Q (.panic l) s x') (hn:∀x',¬Post .outgrown x'):
  Oper.wp prog ⟨some d,.call ⟨.value (.func 35),#[.tmp t1,.tmp t2],#[96,43]⟩,ty,pos,af,gd⟩ s x K Q:=by
 have e2:s.eval (.tmp t1)=.pointer (some ⟨tb,0,none⟩):=h1;have e3:s.eval (.tmp t2)=mv:=h2;refine zW (env:=fun _=>none) (fun t c h=>by cases h) hc ?_ hr hp hn;rw[zcv (fun t c h=>by cases h)];go_simp
end
def SendR (gb ab n:Nat) (A:Nat->Acc) (sb:Nat->Value) (low:Bool) (R:Res×TS) (w:World) (e:Ending) (w':World):Prop:=
 if low=true then e=.returned (.tuple #[YL 0 0 ⟨#[]⟩ noL,.int .i64 5])/\HostAt gb ab n A sb w'/\Kb [gb] w w'
 else∃lv base tv n' sb',e=.returned (.tuple #[YL R.1.st R.1.gas R.1.out lv,.int .i64 0])/\HostAt gb ab n' R.2.acc sb' w'/\n'<=n+3400010/\w.heap.size<=base/\Lo w' base lv tv R.2.logs/\(∃S2,Kb (gb::S2) w w'/\∀k∈S2,Zm ab A sb k)/\∀k,Zm ab R.2.acc sb' k->Zm ab A sb k\/w.heap.size<=k
theorem zoI {gb ab n:Nat} {A:Nat->Acc} {sb:Nat->Value} (fr tt val gas:Nat) (data:ByteArray) (w:World) (h:HostAt gb ab n A sb w) (hd:data.size<=500) (hg:gas<=100000) (hA:GoodT (T0 A)) (hn:n+3400010<800000000000):
  Calls prog 13 #[.pointer (some ⟨gb,0,none⟩),msgV fr tt val data gas] w (SendR gb ab n A sb (decide (ZZ (A fr).bal val<0)) (ZO (T0 A) fr tt val data gas) w):=by
 obtain⟨low,hcmp⟩:∃low,decide (ZZ (A fr).bal val<0)=low:=⟨_,rfl⟩;rw[hcmp];have HDEL0:Hid (∀tb pb base x,Tr base tb (T0 A) (V0 ab pb n sb) x->Calls prog 35 #[.pointer (some ⟨tb,0,none⟩),msgV fr tt val data gas] x (DelR base tb (T0 A) (ZO (T0 A) fr tt val data gas).2 (V0 ab pb n sb) (ZO (T0 A) fr tt val data gas).1.st (ZO (T0 A) fr tt val data gas).1.gas (ZO (T0 A) fr tt val data gas).1.out x)):=fun tb pb base x hx=>zh1 fr tt val gas data x hx hg hA (by omega) (by show 0+0<=_;omega) hn
 obtain⟨R,hR⟩:∃R,R=ZO (T0 A) fr tt val data gas:=⟨_,rfl⟩;rw[<-hR] at HDEL0⊢;obtain⟨⟨st,gs,out⟩,T'⟩:=R;dsimp only at HDEL0;clear hR hA;have hB:Below w.heap.size w (s2 w fr tt val data gas):=bal (bal (Below.refl _ w) _) _;have HM:=zb (zht fr tt val gas data hd hg (s2 w fr tt val data gas));have HH:=zb h;have HB:=zb hB;clear h hB
 go_enter_defers func13,ntmps13
 go_wp2_with fail
 refine HM.out.mono ?_;rintro e w1 ⟨rfl,hb1⟩;have hB1:Below w.heap.size w w1:=HB.out.trans (hb1.mono HB.out.size);have hr1:=zg HH.out.row hB1;have l0:=hr1.cell (i:=0) (by decide);have lz:=hr1.frozen 0;rw[show zeW ab 0=.int .i32 0 from rfl] at l0;have HLK:=zb (lock_free zjf ⟨gb,0,none⟩ w1 l0 lz);have hm1:MsgAt w1 w.heap.size fr tt val data gas:=zg (zg (zlB w fr tt val data gas) (bal (Below.refl _ _) _)) hb1
 have hrs1:ResAt w1 (w.heap.size+1) 0 0 ⟨#[]⟩ noL:=by
  have h0:ResAt (s2 w fr tt val data gas) (w.heap.size+1) 0 0 ⟨#[]⟩ noL:=by unfold ResAt;simp[go_sem]
  exact h0.below hb1
 have HX:=zb (And.intro hB1 (And.intro hm1 hrs1));clear hb1 hB1 hr1 l0 lz hm1 hrs1 HM;go_wp2_with fail
 refine HLK.out.mono ?_;rintro e w2 ⟨rfl,rfl⟩;have HH1:=zg HH.out.row HX.out.1;have hgl:gb<w1.heap.size:=HH1.lt;have hgw:gb<w.heap.size:=HH.out.row.lt;have hk2:Kb [gb] w1 (w1.setCell ⟨gb,0,none⟩ (.int .i32 1)):=(Kb.refl [gb] w1).setCell (Or.inl (by simp)) _;have hr2:(w1.setCell ⟨gb,0,none⟩ (.int .i32 1)).rowIs gb 91 3 (fun i=>if i=0 then .int .i32 1 else zeW ab i):=HH1.set 0 _;have hacc1:=HH.out.acc.kb (Kb.of_below (S:=[]) HX.out.1) (by simp);have hacc2:=hacc1.kb hk2 (fun k hk hf=>ZN HH1 (hacc1.isMap hf) (List.mem_singleton.1 hk).symm);have hz1:=HH.out.zr.below HX.out.1
 have hz2:Zr (w1.setCell ⟨gb,0,none⟩ (.int .i32 1)):=hz1.kb hk2 (fun hm=>by
  have e:(0:Nat)=gb:=by simpa using hm
  have h1:=HH1.cell (i:=0) (by decide);rw[<-e,hz1.1.1] at h1;cases h1)
 have hm2:MsgAt (w1.setCell ⟨gb,0,none⟩ (.int .i32 1)) w.heap.size fr tt val data gas:=hk2.row HX.out.2.1 (by simp;omega);have hs2:=HX.out.2.2.kb hk2 (by simp;omega);go_wp2;generalize w1.setCell ⟨gb,0,none⟩ (.int .i32 1)=x2 at*;obtain⟨f,hf,hf'⟩:=hacc2.map;obtain⟨sv,e1,e3,e4,e5⟩:=hacc2.read fr hf';obtain⟨om,rfl⟩:=e3.is;have c2:=hr2.cell (i:=2) (by decide);refine send_r5 (mb:=w.heap.size) (ab:=ab) (bl:=(A fr).bal) (code:=(A fr).code) (o:=om) (val:=val) _ x2 hr2.lt c2 hm2 (fun x hx=> ?_) (Below.refl _ _).drew rfl rfl rfl ?_
 ·have:=(hf.kb (Kb.of_below (S:=[]) hx) (by simp)).look Yr Yk fr;rw[e1] at this;exact this
 intro x3 hx3;have hx3:Below x2.heap.size x2 x3:=hx3;simp only[zF,List.foldl_cons,List.foldl_nil,Act.put];simp only[sx9];rw[hcmp];have hr3:=zg hr2 hx3;have hacc3:=hacc2.kb (Kb.of_below (S:=[]) hx3) (by simp);have hz3:=hz2.below hx3;have hm3:=zg hm2 hx3;have hs3:=hs2.below hx3;have c3:=hr3.cell (i:=2) (by decide);have hb1:w.heap.size<=w1.heap.size:=HX.out.1.size;have hb3:w.heap.size<=x3.heap.size:=Nat.le_trans hb1 (Nat.le_trans hk2.size hx3.size)
 -- behind the end:the mutex is given back
 have HHEND:Hid (∀(z:World) (n':Nat) (A':Nat->Acc) (sb':Nat->Value) (S2:List Nat),z.rowIs gb 91 3 (fun i=>if i=0 then .int .i32 1 else zeW ab i)->Accs ab n' A' sb' z->Zr z->Kb S2 x3 z->HostAt gb ab n' A' sb' (z.setCell ⟨gb,0,none⟩ (.int .i32 0))/\Kb (gb::S2) w (z.setCell ⟨gb,0,none⟩ (.int .i32 0))):=by
  intro z n' A' sb' S2 hrp hap hzp hkz3;have hkz:Kb [gb] z (z.setCell ⟨gb,0,none⟩ (.int .i32 0)):=(Kb.refl [gb] z).setCell (Or.inl (by simp)) _;refine⟨⟨?_,hap.kb hkz (fun k hk hf=>ZN hrp (hap.isMap hf) (List.mem_singleton.1 hk).symm),hzp.kb hkz (fun hm=> ?_)⟩, ?_⟩
  ·refine(hrp.set 0 (.int .i32 0)).congr fun i hi=> ?_
   by_cases e:i=0
   ·subst e;rfl
   ·simp only[if_neg e]
  ·have e:(0:Nat)=gb:=by simpa using hm
   have u0:=hrp.cell (i:=0) (by decide);rw[<-e,hzp.1.1] at u0;cases u0
  ·have b1:Kb (gb::S2) w w1:=Kb.of_below HX.out.1;have b2:=b1.trans hk2 (fun i hi=>Or.inl (by simp at hi;simp[hi]));have b3:=b2.trans (Kb.of_below (S:=[]) hx3) (by simp);have b4:=b3.trans hkz3 (fun i hi=>Or.inl (List.mem_cons_of_mem _ hi));exact b4.trans hkz (fun i hi=>Or.inl (by simp at hi;simp[hi]))
 clear c2 e1 e3 e4 e5 hf hf' hr2 hacc2 hz2 hm2 hs2;cases low with
 |true=>
  have hkp:Kb [w.heap.size+1] x3 (yk x3 (w.heap.size+1) 0 0 ⟨#[]⟩ noL):=YC (Kb.refl _ x3) (Or.inl (by simp));have hrp:=hkp.row hr3 (by simp;omega)
  have hnb:∀k∈[w.heap.size+1],¬Zm ab A sb k:=fun k hk hf=>by
   obtain rfl:k=w.heap.size+1:=by simpa using hk
   obtain⟨es,cl,q7⟩:=hacc3.isMap hf;have h0:=hs3.1.1;simp[World.cell?,q7] at h0
  have hbl:w.heap.size+1<x3.heap.size:=zaV hs3.1.1;have HE:=zb (HHEND.out (yk x3 (w.heap.size+1) 0 0 ⟨#[]⟩ noL) n A sb [w.heap.size+1] hrp (hacc3.kb hkp hnb) (hz3.kb hkp (by simp)) hkp);obtain⟨⟨y0,y1,y2,y3⟩,_⟩:=hs3.put (st:=0) (gs:=0) (out:=⟨#[]⟩) (lv:=noL);obtain⟨⟨k0,k1,k2,k3⟩,f0,f1,f2,f3⟩:=hs3;have u0:=hrp.cell (i:=0) (by decide);have uz:=hrp.frozen 0;simp only[if_true] at u0;have hbg:w.heap.size+1≠gb:=by omega
  clear hrp hkp hnb hacc3 hz3 hm3 hr3 c3 HHEND HDEL0;go_wp2;refine leaves_cons (f:=32) (args:=#[.pointer (some ⟨gb,0,none⟩)]) (by simp) (by simp[go_sem]) ?_;refine(unlock_deferred zjf ⟨gb,0,none⟩ .returning (yk x3 (w.heap.size+1) 0 0 ⟨#[]⟩ noL) u0 uz).mono ?_;rintro e u' w'' ⟨rfl,rfl,rfl⟩;have hkz:Kb [gb] (yk x3 (w.heap.size+1) 0 0 ⟨#[]⟩ noL) ((yk x3 (w.heap.size+1) 0 0 ⟨#[]⟩ noL).setCell ⟨gb,0,none⟩ (.int .i32 0)):=(Kb.refl [gb] _).setCell (Or.inl (by simp)) _;have hlp:w.heap.size+1<(yk x3 (w.heap.size+1) 0 0 ⟨#[]⟩ noL).heap.size:=zaV y0;generalize yk x3 (w.heap.size+1) 0 0 ⟨#[]⟩ noL=z at*;have e:=hkz.block (w.heap.size+1) hlp (by simp;omega);have j0:=(World.cell?_of_block e).trans y0;have j1:=(World.cell?_of_block e).trans y1;have j2:=(World.cell?_of_block e).trans y2;have j3:=(World.cell?_of_block e).trans y3;refine⟨.tuple #[YL 0 0 ⟨#[]⟩ noL,.int .i64 5],by simp[results,results13,go_sem,j0,j1,j2,j3],rfl,HE.out.1,(Kb.refl [gb] w).trans HE.out.2 (fun i hi=> ?_)⟩;rcases List.mem_cons.1 hi with e|e
  ·exact Or.inl (by simp[e])
  ·exact Or.inr (by simp at e;omega)
 |false=>
  go_wp2;have HDEL:Hid (∀tb pb base x,Below x3.heap.size x3 x->Tr base tb (T0 A) (V0 ab pb n sb) x->tb=base+1->pb=base->x3.heap.size<=base->Calls prog 35 #[.pointer (some ⟨tb,0,none⟩),msgV fr tt val data gas] x (DelR base tb (T0 A) T' (V0 ab pb n sb) st gs out x)):=fun tb pb base x _ hT _ _ _=>HDEL0.out tb pb base x hT
  have hnotA:∀b T N (f:Nat->Value),x3.rowIs b T N f->∀k,Zm ab A sb k->b≠k:=fun b T N f hr k hk=>ZN hr (hacc3.isMap hk)
  refine zq (PhY (DelS (T'.logs) (SentR ab n 3400010 gb (w.heap.size+1) A sb T' x3) (w.heap.size+1) x3) (w.heap.size+1) st gs out x3) (fun _ _ _=>True) [(0,(.pointer (some ⟨gb,0,none⟩))),(3,(.pointer (some ⟨w.heap.size,0,none⟩))),(4,(.pointer (some ⟨w.heap.size+1,0,none⟩)))] [(some 30,.v (.pointer (some ⟨gb,0,none⟩))),(some 31,.v (.pointer (some ⟨gb,0,none⟩))),(some 32,.v (.pointer (some ⟨gb,2,none⟩))),(some 33,.v (.map (some ab))),(some 34,.l (TrK A ab n sb x3)),(some 35,.v (msgV fr tt val data gas)),(some 36,.l (RsK st gs out (DelS (T'.logs) (SentR ab n 3400010 gb (w.heap.size+1) A sb T' x3) (w.heap.size+1) x3))),(none,.v undef),(some 5,.v (.int .i64 0))] [4,6,7] [3,5] (by kernel_rfl) (by rfl) (by rfl) (by kernel_rfl) ((Below.refl _ _).drew) (phy_bel)
    (zf _ _ _ rfl rfl
    (fun s x hph hdf hv hl K hK=>by
     have hx:Below x3.heap.size x3 x:=hph;refine zW (Post:=fun e w'=>e=.returned (.pointer (some ⟨x.heap.size+1,0,none⟩))/\Below x.heap.size x w'/\Tr x.heap.size (x.heap.size+1) (T0 A) (V0 ab x.heap.size n sb) w') hv (zhp x (hacc3.kb (Kb.of_below (S:=[]) hx) (by simp)) (hz3.below hx)) (by kernel_rfl) (fun v x' h=> ?_) (fun l x' h=>by cases h.1) (fun x' h=>by cases h.1);obtain⟨h1,h2,h3⟩:=h;obtain rfl:=Ending.returned.inj h1;exact hK _ x' (hx.trans (h2.mono hx.size)) trivial nn1 ⟨_,_,_,rfl,fun _=>⟨h3,rfl,rfl,hx.size⟩⟩)
    (zf _ _ _ rfl rfl
    (fun s x hph hdf hv hl K hK=>by
     have hx:Below x3.heap.size x3 x:=hph;obtain⟨tb,pb,base,e1,e2⟩:=hl 34 _ rfl;obtain⟨e2,e3,e4,e5⟩:=e2 rfl;refine zkf (tb:=tb) e1 (hv 35 _ rfl) (HDEL.out tb pb base x hx e2 e3 e4 e5) ?_ (fun l x' h=>by obtain⟨_,_,h1,_⟩:=h;cases h1) (fun x' h=>by obtain⟨_,_,h1,_⟩:=h;cases h1);rintro v x' ⟨lv,tv,h1,h2,h3⟩;obtain rfl:=Ending.returned.inj h1;obtain⟨ad,cp,e⟩:=Zk h3.2.1;have h6:=zoT (gb:=gb) (b:=w.heap.size+1) hx hacc3 e3 e4 e5 h2
     have h9:DelS (T'.logs) (SentR ab n 3400010 gb (w.heap.size+1) A sb T' x3) (w.heap.size+1) x3 lv x':=by
      refine⟨h6, ?_,base,tv,e5,h3⟩;obtain⟨V',S2,_,_,q1,q2,_⟩:=h6;refine hs3.kb q1 fun hm=> ?_
      obtain⟨⟨h0,_⟩,_⟩:=hs3;obtain⟨es,cl,q3⟩:=hacc3.isMap (q2 _ hm);simp[World.cell?,q3] at h0
     exact hK _ x' ⟨lv,h9⟩ trivial nn1 ⟨ad,_,cp,by rw[e],fun _=>e▸h9⟩)
    (zf _ _ _ rfl rfl
    (fun s x hph hdf hv hl K hK=>by
     obtain⟨ad,m,cp,e1,e2⟩:=hl 36 _ rfl;have e2:=e2 rfl;exact zim (hv 4 _ rfl) e1 e2.2.1 (hK _ _ ⟨_,x,e2,Below.refl _ _⟩ trivial (fun _=>rfl) rfl))
    True.intro)))
    (zf _ _ _ rfl rfl
    (fun k s x hk hlo hhi hph hdf hv hl K hK=>by
     have hx:Below x3.heap.size x3 x:=zkO hph (by have:=hhi 0 4 rfl (by kernel_rfl);omega);exact zv (v:=.map (some ab)) (fun w=>by kernel_rfl) (hv 32 _ rfl) ((hx.cell hr3.lt).trans c3) (hK _ x (Below.refl _ _) nn1 rfl))
    (zf _ _ _ rfl rfl
    (fun k s x hk hlo hhi hph hdf hv hl K hK=>by
     have hx:Below x3.heap.size x3 x:=zkO hph (by have:=hhi 1 6 rfl (by kernel_rfl);omega);exact zm4 (hv 3 _ rfl) (show MsgAt x w.heap.size fr tt val data gas from zg hm3 hx) (hK _ x (Below.refl _ _) nn1 rfl))
    True.intro))
    (fun i d T9 he p v x x' hne hp hph hrel hT=>by
     rcases ltq9 (show i<9 from(List.getElem?_eq_some_iff.1 he).1) with rfl|rfl|rfl|rfl|rfl|rfl|rfl|rfl|rfl
     ·cases he
     ·cases he
     ·cases he
     ·cases he
     ·obtain rfl:=Sum.inr.inj (Prod.mk.inj (Option.some.inj he)).2;obtain⟨tb,pb,base,e,h1⟩:=hT;have hp0:p≠0:=fun e2=>hne (by rw[e2];rfl)
      exact⟨tb,pb,base,e,fun h2=>absurd h2 (by omega)⟩
     ·cases he
     ·obtain rfl:=Sum.inr.inj (Prod.mk.inj (Option.some.inj he)).2;obtain⟨ad,m,cp,e,h1⟩:=hT;have hp0:p≠1:=fun e2=>hne (by rw[e2];rfl)
      exact⟨ad,m,cp,e,fun h2=>absurd h2 (by omega)⟩
     ·cases he
     ·cases he) (fun i d T9 he p v x x' hph hb hT=>by
     have hm:=List.mem_of_getElem? he;simp only[List.mem_cons,Prod.mk.injEq,reduceCtorEq,and_false,false_or,or_false,List.not_mem_nil,En.l.injEq] at hm;rcases hm with⟨-,rfl⟩|⟨-,rfl⟩
     ·obtain⟨tb,pb,base,e,h1⟩:=hT;exact⟨tb,pb,base,e,fun h2=>by obtain⟨g1,g2⟩:=h1 h2;exact⟨g1.below hb,g2⟩⟩
     ·obtain⟨ad,m,cp,e,h1⟩:=hT;exact⟨ad,m,cp,e,fun h2=>(h1 h2).below hb⟩) ?_
  intro gg z hz hgv;obtain⟨lv,y,⟨hR,hRs,base,tv,hbase,hlo⟩,hzy⟩:PhY (DelS (T'.logs) (SentR ab n 3400010 gb (w.heap.size+1) A sb T' x3) (w.heap.size+1) x3) (w.heap.size+1) st gs out x3 3 z:=hz;obtain⟨V',S2,q1,q2,q3,q4,q5,q6⟩:=hR;obtain⟨ad,cp,hsl⟩:=Zk hlo.2.1;subst hsl;have hry:=q3.row hr3 (fun hm=>hnotA _ _ _ _ hr3 _ (q4 _ hm) rfl);have hbg:w.heap.size+1≠gb:=by omega
  have hkp:Kb [w.heap.size+1] y z:=(YC (Kb.refl _ y) (Or.inl (by simp))).below hzy;have hrp:=hkp.row hry (by simp;omega);have hbl:w.heap.size+1<x3.heap.size:=zaV hs3.1.1
  have hnb:∀k∈[w.heap.size+1],¬Zm ab T'.acc V'.sb k:=fun k hk hf=>by
   obtain rfl:k=w.heap.size+1:=by simpa using hk
   obtain⟨es,cl,q7⟩:=q1.isMap hf;have h0:=hRs.1.1;simp[World.cell?,q7] at h0
  have hlz:Lo z base (.slice ad T'.logs.length cp) tv T'.logs:=by
   refine hlo.kb hkp (fun k hk hm=> ?_) (fun t ht k hk hm=> ?_)
   ·have h1:=(hlo.2.1.lt k hk).1;simp at hm;omega
   ·obtain⟨i,hi⟩:=List.getElem?_of_mem ht;have hl:i<T'.logs.length:=by rw[<-hlo.1];exact(List.getElem?_eq_some_iff.1 hi).1
    have h1:=((hlo.2.2 i T'.logs[i] t (List.getElem?_eq_getElem hl) hi).lt k hk).1;simp at hm;omega
  have HE:=zb (HHEND.out z V'.n T'.acc V'.sb (S2++[w.heap.size+1]) hrp (q1.kb hkp hnb) (q5.kb hkp (by simp)) ((q3.mono (fun i hi=>List.mem_append_left _ hi)).trans hkp (fun i hi=>Or.inl (List.mem_append_right _ hi))));obtain⟨⟨y0,y1,y2,y3⟩,_⟩:=(hRs.put (st:=st) (gs:=gs) (out:=out) (lv:=.slice ad T'.logs.length cp)).below hzy;have u0:=hrp.cell (i:=0) (by decide);have uz:=hrp.frozen 0;simp only[if_true] at u0;have hkz:Kb [gb] z (z.setCell ⟨gb,0,none⟩ (.int .i32 0)):=(Kb.refl [gb] z).setCell (Or.inl (by simp)) _
  have HZC:Hid ((z.setCell ⟨gb,0,none⟩ (.int .i32 0)).cell? ⟨w.heap.size+1,0,none⟩=some (.int .u8 (st:Int))/\(z.setCell ⟨gb,0,none⟩ (.int .i32 0)).cell? ⟨w.heap.size+1,1,none⟩=some (.int .i64 (gs:Int))/\(z.setCell ⟨gb,0,none⟩ (.int .i32 0)).cell? ⟨w.heap.size+1,2,none⟩=some (.string out)/\(z.setCell ⟨gb,0,none⟩ (.int .i32 0)).cell? ⟨w.heap.size+1,3,none⟩=some (.slice ad T'.logs.length cp)):=by
   have e:=hkz.block (w.heap.size+1) (zaV y0) (by simp;omega);exact⟨(World.cell?_of_block e).trans y0,(World.cell?_of_block e).trans y1,(World.cell?_of_block e).trans y2,(World.cell?_of_block e).trans y3⟩
  have HLZ:Hid (Lo (z.setCell ⟨gb,0,none⟩ (.int .i32 0)) base (.slice ad T'.logs.length cp) tv T'.logs):=by
   refine hlz.kb hkz (fun k hk hm=> ?_) (fun t ht k hk hm=> ?_)
   ·have h1:=(hlz.2.1.lt k hk).1;simp at hm;omega
   ·obtain⟨i,hi⟩:=List.getElem?_of_mem ht;have hl:i<T'.logs.length:=by rw[<-hlz.1];exact(List.getElem?_eq_some_iff.1 hi).1
    have h1:=((hlz.2.2 i T'.logs[i] t (List.getElem?_eq_getElem hl) hi).lt k hk).1;simp at hm;omega
  have HQ:=zb (And.intro q2 (And.intro q4 q6));clear hrp hkp hnb hacc3 hz3 hm3 hr3 c3 HHEND HDEL0 q1 q2 q3 q4 q5 q6 hRs hlo hlz hry hkz hzy HDEL hs3;simp only[yy,yw,yx,Zg,zF,List.foldl_cons,List.foldl_nil,Act.put];simp only[sx9];go_wp2;refine leaves_cons (f:=32) (args:=#[.pointer (some ⟨gb,0,none⟩)]) (by simp) (by simp[go_sem]) ?_;refine(unlock_deferred zjf ⟨gb,0,none⟩ .returning z u0 uz).mono ?_;rintro e u' w'' ⟨rfl,rfl,rfl⟩;obtain⟨k0,k1,k2,k3⟩:=HZC.out;refine⟨.tuple #[YL st gs out (.slice ad T'.logs.length cp),.int .i64 0],by simp[results,results13,go_sem,k0,k1,k2,k3], ?_⟩;obtain⟨q2,q4,q6⟩:=HQ.out;refine⟨_,base,tv,V'.n,V'.sb,rfl,HE.out.1,q2,Nat.le_trans hb3 hbase,HLZ.out,⟨S2,(Kb.refl (gb::S2) w).trans HE.out.2 (fun i hi=> ?_),q4⟩,fun k hk=>(q6 k hk).imp id (fun h=>Nat.le_trans hb3 h)⟩;rcases List.mem_cons.1 hi with e|e
  ·exact Or.inl (by simp[e])
  ·rcases List.mem_append.1 e with e|e
   ·exact Or.inl (List.mem_cons_of_mem _ e)
   ·exact Or.inr (by simp at e;omega)
end
section
open Go.Maps
def msgI (fr tt val:Nat) (data:ByteArray) (g:Int):Value:=.agg #[.int .u64 (za fr 0),.int .u64 (za fr 1),.int .u64 (za fr 2),.int .u64 (za fr 3),.int .u64 (za tt 0),.int .u64 (za tt 1),.int .u64 (za tt 2),.int .u64 (za tt 3),.int .u64 (za val 0),.int .u64 (za val 1),.int .u64 (za val 2),.int .u64 (za val 3),.string data,.int .i64 g]
theorem zgz (fr tt val:Nat) (data:ByteArray) (g:Int) (h:¬(data.size<=500/\0<=g/\g<=100000)) (w:World):
  Calls prog 30 #[msgI fr tt val data g] w fun e w'=>e=.returned (.bool false)/\Below w.heap.size w w':=by
 unfold msgI;by_cases h1:data.size<=500
 ·have hd1:decide ((data.size:Int)<=500)=true:=decide_eq_true (by omega);by_cases h2:0<=g
  ·have hd2:decide (0<=g)=true:=decide_eq_true h2;have hd3:decide (g<=100000)=false:=decide_eq_false (by omega);have h4:¬g<=100000:=by omega
   clear h;go_enter func30,ntmps30;go_wp2;exact bodyPost_ret (v:=.bool false) (by simp[results,results30,go_sem]) rfl ⟨rfl,bal (Below.refl _ w) _⟩
  ·have hd2:decide (0<=g)=false:=decide_eq_false h2;clear h;go_enter func30,ntmps30;go_wp2;exact bodyPost_ret (v:=.bool false) (by simp[results,results30,go_sem]) rfl ⟨rfl,bal (Below.refl _ w) _⟩
 ·have hd1:decide ((data.size:Int)<=500)=false:=decide_eq_false (by omega);clear h;go_enter func30,ntmps30;go_wp2;exact bodyPost_ret (v:=.bool false) (by simp[results,results30,go_sem]) rfl ⟨rfl,bal (Below.refl _ w) _⟩
theorem send_no {gb:Nat} (fr tt val:Nat) (data:ByteArray) (g:Int) (h:¬(data.size<=500/\0<=g/\g<=100000)) (w:World):
  Calls prog 13 #[.pointer (some ⟨gb,0,none⟩),msgI fr tt val data g] w fun e w'=>e=.returned (.tuple #[YL 0 0 ⟨#[]⟩ noL,.int .i64 1])/\Below w.heap.size w w':=by
 have HM:=zb (fun w=>zgz fr tt val data g h w);clear h;unfold msgI at HM⊢;go_enter func13,ntmps13;go_wp2_with fail
 refine(HM.out _).mono ?_;rintro e x ⟨rfl,hb⟩;obtain⟨⟨k0,k1,k2,k3⟩,f0,f1,f2,f3⟩:ResAt x (w.heap.size+1) 0 0 ⟨#[]⟩ noL:=ResAt.below (by unfold ResAt;simp[go_sem]) hb;have HB:Hid (Below w.heap.size w x):=(bal (bal (Below.refl _ w) _) _).trans (hb.mono (by simp;omega));unfold noL at k3;clear hb;have HR:=zb (show ResAt x (w.heap.size+1) 0 0 ⟨#[]⟩ noL from⟨⟨k0,k1,k2,k3⟩,f0,f1,f2,f3⟩);go_wp2;have hb2:Below w.heap.size w (yk x (w.heap.size+1) 0 0 ⟨#[]⟩ noL):=bset (bset (bset (bset HB.out (by simp) _) (by simp) _) (by simp) _) (by simp) _;obtain⟨⟨q0,q1,q2,q3⟩,_⟩:=HR.out.put (st:=0) (gs:=0) (out:=⟨#[]⟩) (lv:=noL);change bodyPost _ _ _ _ _ (yk x (w.heap.size+1) 0 0 ⟨#[]⟩ noL);generalize yk x (w.heap.size+1) 0 0 ⟨#[]⟩ noL=y at*;exact bodyPost_ret (v:=.tuple #[YL 0 0 ⟨#[]⟩ noL,.int .i64 1]) (by simp[results,results13,go_sem,YL,noL,q0,q1,q2,q3]) rfl ⟨rfl,hb2⟩
end
section
open Go.Maps
structure EqW (T T':TS):Prop where
 bal:∀a,(T'.acc a).bal%M=(T.acc a).bal%M
 code:∀a,(T'.acc a).code=(T.acc a).code
 slot:∀a k,(T'.acc a).slots k%M=(T.acc a).slots k%M
theorem EqW.refl (T:TS):EqW T T:=⟨fun _=>rfl,fun _=>rfl,fun _ _=>rfl⟩
theorem EqW.trans {T U V:TS} (h:EqW T U) (k:EqW U V):EqW T V:=⟨fun a=>(k.bal a).trans (h.bal a),fun a=>(k.code a).trans (h.code a),fun a b=>(k.slot a b).trans (h.slot a b)⟩
structure RoT (T T':TS):Prop where
 eq:EqW T T'
 ch:∃l,T'.ch=T.ch++l/\∀c∈l,c.kind=0/\c.old%M=(T.acc c.at').bal%M
 lo:T'.logs=T.logs
theorem call_to {wk:Wk} {op:Nat} {F F':Fz} {T T':TS} (h:Yl wk op F T=some (T',F')):T'=T\/∃asked tt v data G,Fx F G/\G.gas<=F.gas/\data.size<=65536/\zal G T v=true/\(F.ro=true->v%M=0)/\T'=(wk (zN op asked tt v data G T) T v G.self tt).2:=by
 unfold Yl at h;obtain⟨r1,h⟩:=Zj h;obtain⟨r2,h⟩:=Zj h;obtain⟨r3,h⟩:=Zj h;obtain⟨r4,h⟩:=Zj h;obtain⟨r5,h⟩:=Zj h;obtain⟨r6,h⟩:=Zj h;obtain⟨r7,h⟩:=Zj h;have hp:P5 F (zE (zE (F3w op F))):=((Zf F).next r1).trans (((Zf _).next r2).trans (((zkL op _).next r3).trans (((Zf _).next r4).trans (((Zf _).next r5).trans (((Zf _).next r6).trans ((Zf _).next r7))))));generalize zE (zE (F3w op F))=F7 at*;unfold zcC at h;cases hv:zcl (zA (Zt op (zE F))) F7 with
 |none=>rw[hv] at h;cases h
 |some y=>
  obtain⟨u,F8⟩:=y;rw[hv] at h
  have hz:F.ro=true->zA (Zt op (zE F))%M=0:=fun hro=>by
   unfold zcl at hv;split at hv
   ·assumption
   ·rw[if_pos (hp.fx.ro.trans hro)] at hv;cases hv
  have hp8:P5 F F8:=by
   refine hp.trans ?_;unfold zcl at hv;split at hv
   ·exact PF5.self F7 () _ _ hv
   ·split at hv
    ·cases hv
    ·exact zgN _ F7 _ _ hv
  dsimp only at h;unfold zaC at h;split at h
  ·cases h
  ·rename_i a b F9 h9;split at h
   ·cases h
   ·rename_i c d F10 h10;have hpG:P5 F F10:=hp8.trans ((yo _ _ _ _ _ h9).trans (yo _ _ _ _ _ h10));have hds:(ya (zP F9.mem a b)).size<=65536:=Nat.le_trans (zeO _ _ _) (zdy h9);have hfx:=hpG.fx;unfold zbe at h;split at h
    ·rename_i hmay;refine Or.inr ⟨zY F,Zh F,zA (Zt op (zE F)),ya (zP F9.mem a b),{F10 with ret:=⟨#[]⟩},⟨hfx.code,hfx.data,hfx.depth,hfx.self,hfx.caller,hfx.value,hfx.ro⟩,hpG.more.1,hds,hmay,hz, ?_⟩
     match yQ {({F10 with ret:=⟨#[]⟩}:Fz) with gas:=F10.gas - Ze {F10 with ret:=⟨#[]⟩} (zY F)} (wk (zN op (zY F) (Zh F) (zA (Zt op (zE F))) (ya (zP F9.mem a b)) {F10 with ret:=⟨#[]⟩} T) T (zA (Zt op (zE F))) F10.self (Zh F)).1.st (wk (zN op (zY F) (Zh F) (zA (Zt op (zE F))) (ya (zP F9.mem a b)) {F10 with ret:=⟨#[]⟩} T) T (zA (Zt op (zE F))) F10.self (Zh F)).1.gas (wk (zN op (zY F) (Zh F) (zA (Zt op (zE F))) (ya (zP F9.mem a b)) {F10 with ret:=⟨#[]⟩} T) T (zA (Zt op (zE F))) F10.self (Zh F)).1.out c d,h with
     |none,h=>cases h
     |some y,h=>exact((Prod.mk.inj (Option.some.inj h)).1).symm
    ·refine Or.inl ?_
     match zl 0 {F10 with ret:=⟨#[]⟩},h with
     |none,h=>cases h
     |some y,h=>exact((Prod.mk.inj (Option.some.inj h)).1).symm
theorem zlA {wk:Wk} {F F':Fz} {T T':TS} (h:Z6 wk F T=some (F',T')):T'=T\/(F.ro=false/\((∃kd c,(kd=1\/kd=2)/\(kd=1->opF F=85)/\T'=yY T kd F.self (zY (Zc F c)) (Zh (Zc F c)))\/∃L,T'={T with logs:=T.logs++[L]}/\L.at'=F.self))\/∃asked tt v data G,Fx F G/\G.gas+100<=F.gas/\data.size<=65536/\zal G T v=true/\(F.ro=true->v%M=0)/\T'=(wk (zN (opF F) asked tt v data G T) T v G.self tt).2:=by
 unfold Z6 at h;cases hc:ZA (opF F) with
 |none=>rw[hc] at h;cases h
 |some c=>
  rw[hc] at h;dsimp only at h;split at h
  ·cases h
  rename_i hg;have hg:c<=F.gas:=by omega
  unfold doM at h
  have hst:∀kd,(kd=1\/kd=2)->(kd=1->opF F=85)->yK kd (Zc F c) T=some (F',T')->(F.ro=false/\((∃kd c,(kd=1\/kd=2)/\(kd=1->opF F=85)/\T'=yY T kd F.self (zY (Zc F c)) (Zh (Zc F c)))\/∃L,T'={T with logs:=T.logs++[L]}/\L.at'=F.self)):=by
   intro kd hkd h85 h;unfold yK at h;split at h
   ·cases h
   ·rename_i hro;have hro:¬F.ro=true:=hro;have hro:F.ro=false:=by simpa using hro
    refine⟨hro,Or.inl ⟨kd,c,hkd,h85, ?_⟩⟩
    match zK (zi (Zc F c)) (zK (zi (zh (zi (Zc F c)))) (some ((),zE (Zc F c)))),h with
    |none,h=>cases h
    |some y,h=>exact((Prod.mk.inj (Option.some.inj h)).2).symm
  split at h
  ·exact Or.inl (ZD h).2
  split at h
  ·exact Or.inl (ZD h).2
  split at h
  ·exact Or.inl (ZD h).2
  split at h
  ·unfold ze1 at h;split at h
   ·rename_i e85;exact Or.inr (Or.inl (hst 1 (Or.inl rfl) (fun _=>e85) h))
   split at h
   ·exact Or.inr (Or.inl (hst 2 (Or.inr rfl) (fun e=>by cases e) h))
   ·exact Or.inl (ZD h).2
  split at h
  ·exact Or.inl (ZD h).2
  split at h
  ·exact Or.inl (ZD h).2
  split at h
  ·exact Or.inl (ZD h).2
  split at h
  ·have h:=zcU h;unfold zdF at h;split at h
   ·cases h
   ·rename_i hro;have hro:¬F.ro=true:=hro;have hro:F.ro=false:=by simpa using hro
    refine Or.inr (Or.inl ⟨hro,Or.inr ?_⟩);obtain⟨r1,h⟩:=Zj h;obtain⟨r2,h⟩:=Zj h;have hp:P5 (Zc F c) (zE (Zc F c)):=((Zf _).next r1).trans ((Zf _).next r2);unfold zfM at h;split at h
    ·cases h
    ·rename_i ts F1 h1;unfold zhz at h;split at h
     ·cases h
     ·rename_i a b F2 h2;split at h
      ·cases h
      ·obtain⟨rfl,rfl⟩:=Prod.mk.inj (Option.some.inj h);have hp2:=hp.trans (zd9 _ _ _ _ h1);exact⟨_,rfl,hp2.fx.self⟩
  split at h
  ·rename_i hop
   have hcc:c=100:=by
    rcases hop with e|e|e<;>(rw[e] at hc;exact(Option.some.inj hc).symm)
   rcases call_to (zcU h) with e|⟨asked,tt,v,data,G,h1,h2,h3,h4,h5,h6⟩
   ·exact Or.inl e
   ·have h2:G.gas<=F.gas - c:=h2;exact Or.inr (Or.inr ⟨asked,tt,v,data,G,⟨h1.code,h1.data,h1.depth,h1.self,h1.caller,h1.value,h1.ro⟩,by omega,h3,h4,h5,h6⟩)
  ·exact Or.inl (ZD h).2
def RoAll (wk:Wk) (dep:Nat):Prop:=∀G T v fr tt,RunF G->dep<G.depth->G.gas<=100000->GoodT T->T.ch.length+T.logs.length+2+G.gas<=1000000->G.ro=true->v%M=0->RoT T (wk G T v fr tt).2
end
section
open Go.Maps
def Wfr (c:ByteArray) (fr val:Nat) (data:ByteArray) (g:Nat) (st:List Nat) (nx pc:Nat) (mem:List UInt8):Fz:={Yh c fr 1 val data g with st:=st,nx:=nx,pc:=pc,mem:=mem}
theorem zlV {wk:Wk} {n:Nat} {F F':Fz} {T T':TS} (he:F.ended=false) (h:Z6 wk F T=some (F',T')):zJ wk (n+1) F T=zJ wk n F' T':=by
 rw[zJ,if_neg (by rw[he];exact Bool.false_ne_true),h]
theorem st_n {wk:Wk} {F:Fz} {T:TS} {op c:Nat} {r:Option (Fz×TS)} (hop:opF F=op) (hc:ZA op=some c) (hg:c<=F.gas) (hd:doM wk op (Zc F c) T=r):Z6 wk F T=r:=by
 unfold Z6;rw[hop,hc];show(if F.gas<c then none else doM wk op (Zc F c) T)=r;rw[if_neg (by omega)];exact hd
section
variable {wk:Wk} {c:ByteArray} {fr val:Nat} {data:ByteArray} {g:Nat} {st:List Nat} {nx pc:Nat} {mem:List UInt8} {T:TS}
theorem M_big:1000000<M:=by unfold M;omega
end
def ownR:ByteArray:=⟨#[95,95,54,95,95,55,54,95,96,2,90,250,0]⟩
section
variable {data:ByteArray} {T:TS} {g fr:Nat}
def RfF (fr:Nat) (data:ByteArray) (g:Nat) (mem:List UInt8):Fz:={Wfr ownR fr 0 data g [] 12 11 mem with ret:=⟨#[]⟩}
end
end
section
open Go.Maps
theorem ziW:∀(l l':List Chg) (T:TS),yv (l++l') T=yv l (yv l' T)
 |[],_,_=>rfl
 |c::r,l',T=>by
  show yN (yv (r++l') T) c.kind c.at' c.key c.old=yN (yv r (yv l' T)) c.kind c.at' c.key c.old;rw[ziW r l' T]
structure UnT (T T':TS):Prop where
 un:∃l,T'.ch=T.ch++l/\∀U,EqW T' U->ZF U->EqW T (yv l U)
theorem UnT.refl (T:TS):UnT T T:=⟨⟨[],by simp,fun U h _=>h⟩⟩
theorem UnT.trans {T U V:TS} (h:UnT T U) (k:UnT U V):UnT T V:=by
 obtain⟨l,h1,h2⟩:=h.un;obtain⟨l',k1,k2⟩:=k.un;refine⟨⟨l++l',by rw[k1,h1,List.append_assoc],fun X hX hc=> ?_⟩⟩;rw[ziW];exact h2 _ (k2 X hX hc) (zdl hc l').2
def ZX (T:TS):Prop:=∀a q q',q%M=q'%M->(T.acc a).slots q%M=(T.acc a).slots q'%M
theorem zfT {T:TS} (h:ZX T) (k a key v:Nat):ZX (yN T k a key v):=by
 intro m q q' e;unfold yN;split
 ·show(zO T.acc a {T.acc a with bal:=v} m).slots q%M=(zO T.acc a {T.acc a with bal:=v} m).slots q'%M;by_cases e1:m%M=a%M
  ·rw[Zx e1];exact h a q q' e
  ·rw[Za e1];exact h m q q' e
 ·split
  ·show(zO T.acc a {T.acc a with slots:=yi (T.acc a).slots key v} m).slots q%M=(zO T.acc a {T.acc a with slots:=yi (T.acc a).slots key v} m).slots q'%M;by_cases e1:m%M=a%M
   ·rw[Zx e1];show yi (T.acc a).slots key v q%M=yi (T.acc a).slots key v q'%M;unfold yi;rw[e];by_cases e2:q'%M=key%M
    ·rw[if_pos e2,if_pos e2]
    ·rw[if_neg e2,if_neg e2];exact h a q q' e
   ·rw[Za e1];exact h m q q' e
  ·exact h m q q' e
theorem zeG {T:TS} (h:ZX T):∀l:List Chg,ZX (yv l T)
 |[]=>h
 |c::r=>zfT (zeG h r) _ _ _ _
theorem zm5 {T U:TS} (hT:ZF T) (hS:ZX T) (k a key v:Nat) (h:EqW (yN T k a key v) U):EqW T (yN U k a key (zeA T k a key)):=by
 have hb:=h.bal;have hc:=h.code;have hs:=h.slot;unfold yN at hb hc hs;unfold yN zeA;by_cases k0:k=0
 ·simp only[k0,if_true] at hb hc hs⊢;refine⟨fun m=> ?_,fun m=> ?_,fun m q=> ?_⟩
  ·show(zO U.acc a {U.acc a with bal:=(T.acc a).bal} m).bal%M=_;by_cases e:m%M=a%M
   ·rw[Zx e,hT m a e]
   ·rw[Za e,hb m,Za e]
  ·show(zO U.acc a {U.acc a with bal:=(T.acc a).bal} m).code=_;by_cases e:m%M=a%M
   ·rw[Zx e];show(U.acc a).code=_;rw[hc a,Zx rfl,hT m a e]
   ·rw[Za e,hc m,Za e]
  ·show(zO U.acc a {U.acc a with bal:=(T.acc a).bal} m).slots q%M=_;by_cases e:m%M=a%M
   ·rw[Zx e];show(U.acc a).slots q%M=_;rw[hs a q,Zx rfl,hT m a e]
   ·rw[Za e,hs m q,Za e]
 ·simp only[if_neg k0] at hb hc hs⊢;by_cases k1:k=1
  ·simp only[k1,if_true] at hb hc hs⊢;refine⟨fun m=> ?_,fun m=> ?_,fun m q=> ?_⟩
   ·show(zO U.acc a {U.acc a with slots:=yi (U.acc a).slots key ((T.acc a).slots key)} m).bal%M=_;by_cases e:m%M=a%M
    ·rw[Zx e];show(U.acc a).bal%M=_;rw[hb a,Zx rfl,hT m a e]
    ·rw[Za e,hb m,Za e]
   ·show(zO U.acc a {U.acc a with slots:=yi (U.acc a).slots key ((T.acc a).slots key)} m).code=_;by_cases e:m%M=a%M
    ·rw[Zx e];show(U.acc a).code=_;rw[hc a,Zx rfl,hT m a e]
    ·rw[Za e,hc m,Za e]
   ·show(zO U.acc a {U.acc a with slots:=yi (U.acc a).slots key ((T.acc a).slots key)} m).slots q%M=_;by_cases e:m%M=a%M
    ·rw[Zx e,hT m a e];show yi (U.acc a).slots key ((T.acc a).slots key) q%M=_;unfold yi;by_cases e2:q%M=key%M
     ·rw[if_pos e2];exact hS a key q e2.symm
     ·rw[if_neg e2,hs a q,Zx rfl];show yi (T.acc a).slots key v q%M=_;unfold yi;rw[if_neg e2]
    ·rw[Za e,hs m q,Za e]
  ·simp only[if_neg k1] at hb hc hs⊢;exact⟨fun m=>hb m,fun m=>hc m,fun m q=>hs m q⟩
theorem zjB {T:TS} (hT:ZF T) (hS:ZX T) (k a key v:Nat):UnT T (yY T k a key v)/\ZX (yY T k a key v):=by
 have hT':ZF {T with ch:=T.ch++[⟨k,a,key,zeA T k a key⟩]}:=hT;have hS':ZX {T with ch:=T.ch++[⟨k,a,key,zeA T k a key⟩]}:=hS;refine⟨⟨⟨[⟨k,a,key,zeA T k a key⟩],(zbF _ k a key v).1,fun U hU _=> ?_⟩⟩,zfT hS' k a key v⟩;have h:=zm5 hT' hS' k a key v hU;exact⟨h.bal,h.code,h.slot⟩
theorem zgD {T:TS} (hT:ZF T) (hS:ZX T) (amt fr tt:Nat):UnT T (zM T amt fr tt)/\ZX (zM T amt fr tt):=by
 unfold zM moveB;have h1:=zjB hT hS 0 fr 0 (zU 3 ((T.acc fr).bal%M) (amt%M) 0);have c1:ZF (yB T amt fr):=(zc6 hT 0 fr 0 (zU 3 ((T.acc fr).bal%M) (amt%M) 0) (by omega)).2;have h2:=zjB c1 h1.2 0 tt 0 (zU 1 (((yB T amt fr).acc tt).bal%M) (amt%M) 0);exact⟨h1.1.trans h2.1,h2.2⟩
theorem back_un {T T':TS} (hT:ZF T') (h:UnT T T') (m:Nat):EqW T (zgm T' T.ch.length m):=by
 obtain⟨l,h1,h2⟩:=h.un;have e:T'.ch.drop T.ch.length=l:=by rw[h1];simp
 have hb:zgm T' T.ch.length m={yv l T' with ch:=T'.ch.take T.ch.length,logs:=T'.logs.take m}:=by
  unfold zgm;rw[e]
 have hu:=h2 T' (EqW.refl T') hT;rw[hb];exact⟨hu.bal,hu.code,hu.slot⟩
theorem zg1 {T T':TS} (hT:ZF T') (hS:ZX T') (h:UnT T T') (st:Nat):UnT T (yP T T' st)/\ZX (yP T T' st)/\(st≠0->EqW T (yP T T' st)):=by
 unfold yP;by_cases e:st=0
 ·rw[if_pos e];exact⟨h,hS,fun hn=>absurd e hn⟩
 ·rw[if_neg e];have hq:=back_un hT h T.logs.length;refine⟨⟨⟨[], ?_,fun U hU _=>hq.trans hU⟩⟩, ?_,fun _=>hq⟩
  ·obtain⟨l,h1,_⟩:=h.un;show T'.ch.take T.ch.length=_;rw[h1];simp
  ·exact zeG hS (T'.ch.drop T.ch.length)
end
section
open Go.Maps
def zlf (wk:Wk) (dep:Nat):Prop:=∀G T v fr tt,RunF G->dep<G.depth->G.gas<=100000->GoodT T->T.ch.length+T.logs.length+2+G.gas<=1000000->ZX T->UnT T (wk G T v fr tt).2/\ZX (wk G T v fr tt).2
theorem zlC {wk:Wk} {dep:Nat} {F F':Fz} {T T':TS} (hR:zlf wk dep) (hd:dep<=F.depth) (hg:F.gas<=100000) (hT:GoodT T) (hb:T.ch.length+T.logs.length+F.gas<=1000000) (hS:ZX T) (h:Z6 wk F T=some (F',T')):UnT T T'/\ZX T':=by
 rcases zlA h with rfl|⟨_,⟨kd,c,h1,h2,rfl⟩|⟨L,rfl,_⟩⟩|⟨asked,tt,v,data,G,h1,h2,h3,h4,h5,rfl⟩
 ·exact⟨UnT.refl _,hS⟩
 ·exact zjB hT.cong hS _ _ _ _
 ·exact⟨⟨⟨[],by simp,fun U h _=>⟨h.bal,h.code,h.slot⟩⟩⟩,hS⟩
 ·have hgl:=zcu G asked;exact hR (zN (opF F) asked tt v data G T) T v G.self tt (zde h3 h4 hT) (by show dep<G.depth+1;rw[h1.depth];omega) (by show Ze G asked<=_;omega) hT (by show T.ch.length+T.logs.length+2+Ze G asked<=_;omega) hS
theorem zek {wk:Wk} {A dep:Nat} (hA:2<=A) (hW:zgk wk A dep) (hR:zlf wk dep):∀(n:Nat) (F:Fz) (T:TS),RunF F->dep<=F.depth->F.gas<=100000->GoodT T->T.ch.length+T.logs.length+F.gas<=1000000->ZX T->UnT T (zJ wk n F T).2/\ZX (zJ wk n F T).2
 |0,F,T,_,_,_,_,_,hS=>⟨UnT.refl T,hS⟩
 |n+1,F,T,hr,hd,hg,hT,hb,hS=>by
  rw[zJ];by_cases he:F.ended=true
  ·rw[if_pos he];exact⟨UnT.refl T,hS⟩
  ·rw[if_neg he];obtain⟨s1,s2⟩:=zbN hA hW hr hd hg hT hb;cases hs:Z6 wk F T with
   |none=>exact⟨UnT.refl T,hS⟩
   |some y=>
    obtain⟨F',T'⟩:=y;have h:=s2 F' T' hs;have h1:=zlC hR hd hg hT hb hS hs;dsimp only;have hbud:=h.bud;have hfx:=h.fx;have hgn:F'.gas<=F.gas:=h.gas;by_cases e:F'.ended=true
    ·cases n with
     |zero=>exact h1
     |succ n=>rw[zJ,if_pos e];exact h1
    ·have e:F'.ended=false:=by simpa using e
     have h2:=zek hA hW hR n F' T' ⟨by rw[hfx.code];exact hr.cs,by rw[hfx.data];exact hr.ds,h.rs,by rw[hfx.depth];exact hr.dp,h.nx e,h.pc,h.os,h.st⟩ (by rw[hfx.depth];exact hd) (by omega) (hT.ext h.ext h.cong) (by omega) h1.2;exact⟨h1.1.trans h2.1,h2.2⟩
theorem zhg:∀d,d<=16->zlf (wkM d) (16 - d)
 |0,_=>fun G T v fr tt hr hd=>by have:=hr.dp;omega
 |d+1,h16=>fun G T v fr tt hr hd hg hT hb hS=>by
  have ih:=zhg d (by omega);have iw:=zdt d (by omega);obtain⟨e1,e2,e3,e4⟩:=zbs hT.cong v fr tt;have hTm:=hT.ext e1 e2;have hm:=zgD hT.cong hS v fr tt;have h:=zek (by omega) iw ih (G.gas+2) G (zM T v fr tt) hr (by omega) hg hTm (by rw[e3,e4];omega) hm.2;have hc:=(zfd (by omega) iw (G.gas+2) G (zM T v fr tt) (fun _=>Nat.le_refl _) (by omega) hr (by omega) hg hTm (by rw[e3,e4];omega)).2.2.2.1;have hw:=zg1 hc h.2 (hm.1.trans h.1) (zay (zJ (wkM d) (G.gas+2) G (zM T v fr tt)).1);exact⟨hw.1,hw.2.1⟩
theorem zh0 {A:Nat->Acc} {fr tt val g:Nat} {data:ByteArray} (hT:GoodT (T0 A)) (hS:ZX (T0 A)) (hd:data.size<=500) (hg:g<=100000) (hn:(ZO (T0 A) fr tt val data g).1.st≠0):EqW (T0 A) (ZO (T0 A) fr tt val data g).2/\(ZO (T0 A) fr tt val data g).2.logs=[]:=by
 have hr:RunF (Yh (A tt).code fr tt val data g):=⟨hT.cs tt,(by show data.size<=65536;omega),Nat.zero_le _,(by show 1<=16;omega),Nat.zero_le _,Nat.zero_le _,Nat.zero_le _,Nat.zero_le _⟩;obtain⟨e1,e2,e3,e4⟩:=zbs hT.cong val fr tt;have hTm:=hT.ext e1 e2;have hm:=zgD hT.cong hS val fr tt;have iw:=zdt 15 (by omega)
 have hb:(zM (T0 A) val fr tt).ch.length+(zM (T0 A) val fr tt).logs.length+(Yh (A tt).code fr tt val data g).gas<=1000000:=by
  rw[e3,e4];show 0+2+0+g<=_;omega
 have hd1:16 - 15<=(Yh (A tt).code fr tt val data g).depth:=by show 1<=1;omega
 have h:=zek (by omega) iw (zhg 15 (by omega)) (g+2) (Yh (A tt).code fr tt val data g) (zM (T0 A) val fr tt) hr hd1 hg hTm hb hm.2;have hc:=(zfd (by omega) iw (g+2) (Yh (A tt).code fr tt val data g) (zM (T0 A) val fr tt) (fun _=>Nat.le_refl _) (by omega) hr hd1 hg hTm hb).2.2.2.1;have hw:=zg1 hc h.2 (hm.1.trans h.1) (zay (zJ (wkM 15) (g+2) (Yh (A tt).code fr tt val data g) (zM (T0 A) val fr tt)).1);have hst:zay (zJ (wkM 15) (g+2) (Yh (A tt).code fr tt val data g) (zM (T0 A) val fr tt)).1≠0:=hn;refine⟨hw.2.2 hst, ?_⟩;show(yP (T0 A) (zJ (wkM 15) (g+2) (Yh (A tt).code fr tt val data g) (zM (T0 A) val fr tt)).2 (zay (zJ (wkM 15) (g+2) (Yh (A tt).code fr tt val data g) (zM (T0 A) val fr tt)).1)).logs=[];unfold yP;rw[if_neg hst];rfl
end
section
open Go.Maps
def Z0 (A:Nat->Acc):List Nat->Nat
 |[]=>0
 |k::r=>(A k).bal+Z0 A r
abbrev Apart (U:List Nat):Prop:=U.Pairwise fun a b=>a%M≠b%M
theorem zkt {A B:Nat->Acc}:∀{U:List Nat},(∀u∈U,(B u).bal=(A u).bal)->Z0 B U=Z0 A U
 |[],_=>rfl
 |k::r,h=>by
  show(B k).bal+Z0 B r=(A k).bal+Z0 A r;rw[h k List.mem_cons_self,zkt fun u hu=>h u (List.mem_cons_of_mem _ hu)]
theorem zg6 {A:Nat->Acc} (hA:∀m m',m%M=m'%M->A m=A m') (a v:Nat):∀{U:List Nat},Apart U->(∃u∈U,u%M=a%M)->Z0 (zO A a {A a with bal:=v}) U+(A a).bal=Z0 A U+v
 |[],_,⟨u,hu,_⟩=>by cases hu
 |k::r,hU,⟨u,hu,e⟩=>by
  obtain⟨h1,h2⟩:=List.pairwise_cons.1 hU;show(zO A a {A a with bal:=v} k).bal+Z0 (zO A a {A a with bal:=v}) r+(A a).bal=(A k).bal+Z0 A r+v;by_cases hk:k%M=a%M
  ·have hr:Z0 (zO A a {A a with bal:=v}) r=Z0 A r:=zkt fun u hu=>by rw[Za (fun e=>h1 u hu (hk.trans e.symm))]
   rw[Zx hk,hr,hA k a hk];show v+Z0 A r+(A a).bal=_;omega
  ·rw[Za hk]
   have hr:∃u∈r,u%M=a%M:=by
    rcases List.mem_cons.1 hu with rfl|hu
    ·exact absurd e hk
    ·exact⟨u,hu,e⟩
   have:=zg6 hA a v h2 hr;omega
structure MoT (T T':TS):Prop where
 mo:∃W:List Nat,∀U,Apart U->(∀k∈W,∃u∈U,u%M=k%M)->Z0 T'.acc U%M=Z0 T.acc U%M
theorem MoT.refl (T:TS):MoT T T:=⟨⟨[],fun _ _ _=>rfl⟩⟩
theorem MoT.trans {T U V:TS} (h:MoT T U) (k:MoT U V):MoT T V:=by
 obtain⟨W,h⟩:=h.mo;obtain⟨W',k⟩:=k.mo;exact⟨⟨W++W',fun X hX hw=>(k X hX fun q hq=>hw q (List.mem_append_right _ hq)).trans (h X hX fun q hq=>hw q (List.mem_append_left _ hq))⟩⟩
theorem MoT.of_eq {T T':TS} (h:∀a,(T'.acc a).bal=(T.acc a).bal):MoT T T':=⟨⟨[],fun U _ _=>by rw[zkt fun u _=>h u]⟩⟩
theorem zkR {A B:Nat->Acc} (h:∀a,(B a).bal%M=(A a).bal%M):∀U:List Nat,Z0 B U%M=Z0 A U%M
 |[]=>rfl
 |k::r=>by
  show((B k).bal+Z0 B r)%M=((A k).bal+Z0 A r)%M;rw[Nat.add_mod,h k,zkR h r,<-Nat.add_mod]
theorem MoT.of_eqw {T T':TS} (h:EqW T T'):MoT T T':=⟨⟨[],fun U _ _=>zkR h.bal U⟩⟩
theorem set_mo {T:TS} (hT:ZF T) {k a key v:Nat} (hk:k≠0):MoT T (yY T k a key v):=by
 refine MoT.of_eq fun m=> ?_
 unfold yY yN;rw[if_neg hk];split
 ·show(zO T.acc a {T.acc a with slots:=yi (T.acc a).slots key v} m).bal=_;by_cases e:m%M=a%M
  ·rw[Zx e,hT m a e]
  ·rw[Za e]
 ·rfl
theorem zoe (b x:Nat):∃q,zU 3 (b%M) (x%M) 0+x%M+M*q=b%M+M:=by
 have hx:=Nat.mod_lt x (show 0<M by have:=M_big;omega);refine⟨(b%M+(M - x%M))/M, ?_⟩
 have e:zU 3 (b%M) (x%M) 0=(b%M+(M - x%M))%M:=by
  unfold zU zfo;rw[if_neg (by decide),if_neg (by decide),if_pos rfl]
 rw[e];have:=Nat.mod_add_div (b%M+(M - x%M)) M;omega
theorem znD (b x:Nat):∃q,zU 1 (b%M) (x%M) 0+M*q=b%M+x%M:=by
 refine⟨(b%M+x%M)/M, ?_⟩
 have e:zU 1 (b%M) (x%M) 0=(b%M+x%M)%M:=by
  unfold zU zfD;rw[if_pos rfl]
 rw[e];exact Nat.mod_add_div _ _
theorem move_mo {T:TS} (hT:ZF T) (amt fr tt:Nat):MoT T (zM T amt fr tt):=by
 refine⟨⟨[fr,tt],fun U hU hw=> ?_⟩⟩;have c1:ZF (yB T amt fr):=(zc6 hT 0 fr 0 (zU 3 ((T.acc fr).bal%M) (amt%M) 0) (by omega)).2;have s1:=zg6 hT fr (zU 3 ((T.acc fr).bal%M) (amt%M) 0) hU (hw fr (by simp));have s2:=zg6 c1 tt (zU 1 (((yB T amt fr).acc tt).bal%M) (amt%M) 0) hU (hw tt (by simp));have e1:Z0 (yB T amt fr).acc U=Z0 (zO T.acc fr {T.acc fr with bal:=zU 3 ((T.acc fr).bal%M) (amt%M) 0}) U:=rfl;have e2:Z0 (zM T amt fr tt).acc U=Z0 (zO (yB T amt fr).acc tt {(yB T amt fr).acc tt with bal:=zU 1 (((yB T amt fr).acc tt).bal%M) (amt%M) 0}) U:=rfl;rw[<-e1] at s1;rw[<-e2] at s2;obtain⟨q1,h1⟩:=zoe (T.acc fr).bal amt;obtain⟨q2,h2⟩:=znD ((yB T amt fr).acc tt).bal amt;have d1:=Nat.mod_add_div (T.acc fr).bal M;have d2:=Nat.mod_add_div ((yB T amt fr).acc tt).bal M
 have key:Z0 (zM T amt fr tt).acc U+M*(q1+q2+(T.acc fr).bal/M+((yB T amt fr).acc tt).bal/M)=Z0 T.acc U+M*1:=by
  simp only[Nat.mul_add,Nat.mul_one];omega
 rw[<-Nat.add_mul_mod_self_left (Z0 (zM T amt fr tt).acc U) M,key,Nat.add_mul_mod_self_left]
end
section
open Go.Maps
def MoAll (wk:Wk) (dep:Nat):Prop:=∀G T v fr tt,RunF G->dep<G.depth->G.gas<=100000->GoodT T->T.ch.length+T.logs.length+2+G.gas<=1000000->ZX T->MoT T (wk G T v fr tt).2
theorem step_mo {wk:Wk} {dep:Nat} {F F':Fz} {T T':TS} (hR:MoAll wk dep) (hd:dep<=F.depth) (hg:F.gas<=100000) (hT:GoodT T) (hb:T.ch.length+T.logs.length+F.gas<=1000000) (hS:ZX T) (h:Z6 wk F T=some (F',T')):MoT T T':=by
 rcases zlA h with rfl|⟨_,⟨kd,c,h1,h2,rfl⟩|⟨L,rfl,_⟩⟩|⟨asked,tt,v,data,G,h1,h2,h3,h4,h5,rfl⟩
 ·exact MoT.refl _
 ·exact set_mo hT.cong (by omega)
 ·exact MoT.of_eq fun _=>rfl
 ·have hgl:=zcu G asked;exact hR (zN (opF F) asked tt v data G T) T v G.self tt (zde h3 h4 hT) (by show dep<G.depth+1;rw[h1.depth];omega) (by show Ze G asked<=_;omega) hT (by show T.ch.length+T.logs.length+2+Ze G asked<=_;omega) hS
theorem zkG {wk:Wk} {A dep:Nat} (hA:2<=A) (hW:zgk wk A dep) (hU:zlf wk dep) (hR:MoAll wk dep):∀(n:Nat) (F:Fz) (T:TS),RunF F->dep<=F.depth->F.gas<=100000->GoodT T->T.ch.length+T.logs.length+F.gas<=1000000->ZX T->MoT T (zJ wk n F T).2
 |0,F,T,_,_,_,_,_,_=>MoT.refl T
 |n+1,F,T,hr,hd,hg,hT,hb,hS=>by
  rw[zJ];by_cases he:F.ended=true
  ·rw[if_pos he];exact MoT.refl T
  ·rw[if_neg he];obtain⟨s1,s2⟩:=zbN hA hW hr hd hg hT hb;cases hs:Z6 wk F T with
   |none=>exact MoT.refl T
   |some y=>
    obtain⟨F',T'⟩:=y;have h:=s2 F' T' hs;have h1:=step_mo hR hd hg hT hb hS hs;have hS':=(zlC hU hd hg hT hb hS hs).2;dsimp only;have hbud:=h.bud;have hfx:=h.fx;have hgn:F'.gas<=F.gas:=h.gas;by_cases e:F'.ended=true
    ·cases n with
     |zero=>exact h1
     |succ n=>rw[zJ,if_pos e];exact h1
    ·have e:F'.ended=false:=by simpa using e
     exact h1.trans (zkG hA hW hU hR n F' T' ⟨by rw[hfx.code];exact hr.cs,by rw[hfx.data];exact hr.ds,h.rs,by rw[hfx.depth];exact hr.dp,h.nx e,h.pc,h.os,h.st⟩ (by rw[hfx.depth];exact hd) (by omega) (hT.ext h.ext h.cong) (by omega) hS')
theorem zpt:∀d,d<=16->MoAll (wkM d) (16 - d)
 |0,_=>fun G T v fr tt hr hd=>by have:=hr.dp;omega
 |d+1,h16=>fun G T v fr tt hr hd hg hT hb hS=>by
  have ih:=zpt d (by omega);have iu:=zhg d (by omega);have iw:=zdt d (by omega);obtain⟨e1,e2,e3,e4⟩:=zbs hT.cong v fr tt;have hTm:=hT.ext e1 e2;have hm:=zgD hT.cong hS v fr tt;have h:=zek (by omega) iw iu (G.gas+2) G (zM T v fr tt) hr (by omega) hg hTm (by rw[e3,e4];omega) hm.2;have ho:=zkG (by omega) iw iu ih (G.gas+2) G (zM T v fr tt) hr (by omega) hg hTm (by rw[e3,e4];omega) hm.2;have hc:=(zfd (by omega) iw (G.gas+2) G (zM T v fr tt) (fun _=>Nat.le_refl _) (by omega) hr (by omega) hg hTm (by rw[e3,e4];omega)).2.2.2.1;have hw:=zg1 hc h.2 (hm.1.trans h.1) (zay (zJ (wkM d) (G.gas+2) G (zM T v fr tt)).1);show MoT T (yP T (zJ (wkM d) (G.gas+2) G (zM T v fr tt)).2 (zay (zJ (wkM d) (G.gas+2) G (zM T v fr tt)).1));by_cases hst:zay (zJ (wkM d) (G.gas+2) G (zM T v fr tt)).1=0
  ·unfold yP;rw[if_pos hst];exact(move_mo hT.cong v fr tt).trans ho
  ·exact MoT.of_eqw (hw.2.2 hst)
theorem zeq {A:Nat->Acc} {fr tt val g:Nat} {data:ByteArray} (hT:GoodT (T0 A)) (hS:ZX (T0 A)) (hd:data.size<=500) (hg:g<=100000):MoT (T0 A) (ZO (T0 A) fr tt val data g).2/\ZX (ZO (T0 A) fr tt val data g).2:=by
 have hr:RunF (Yh (A tt).code fr tt val data g):=⟨hT.cs tt,(by show data.size<=65536;omega),Nat.zero_le _,(by show 1<=16;omega),Nat.zero_le _,Nat.zero_le _,Nat.zero_le _,Nat.zero_le _⟩;exact⟨zpt 16 (by omega) _ (T0 A) val fr tt hr (by show 0<1;omega) hg hT (by show 0+0+2+g<=_;omega) hS,(zhg 16 (by omega) _ (T0 A) val fr tt hr (by show 0<1;omega) hg hT (by show 0+0+2+g<=_;omega) hS).2⟩
end
section
open Go.RowKit Go.Maps Go.Sort Go.Shelf
def zb4 (f:Nat->Option Value) (ss:List Nat):Prop:=ss.Nodup/\∀m,m∈ss↔m<M/\(f m).isSome=true
def CollW (D:DataW Value) (left:Lit->Bool) (ss:List Nat):Prop:=ss.Nodup/\∀m,m∈ss↔m<M/\∀kl,keyOf prog 24 (wv m)=some kl->has D kl=true/\left kl=false
theorem CollW.start (D:DataW Value):CollW D (has D) []:=by
 refine⟨List.nodup_nil,fun m=>Iff.intro (fun h=>absurd h (by simp)) (fun h=> ?_)⟩;obtain⟨l,hl⟩:=zcj m;have:=h.2 l hl;rw[this.1] at this;cases this.2
theorem CollW.step {D:DataW Value} {left:Lit->Bool} {ss:List Nat} (h:CollW D left ss) {x:Nat} (hx:x<M) {kl:Lit} {y:DataW Value} (hk:keyOf prog 24 (wv x)=some kl) (hlk:left kl=true) (hat:∀zd,D.atKey kl zd=y):CollW D (fun z=>left z&& !z.sameKey kl) (ss++[x]):=by
 have hhas:has D kl=true:=has_true_of_atKey hat
 have hnew:x∉ss:=fun hm=>by
  have:=(((h.2 x).1 hm).2 kl hk).2;rw[hlk] at this;cases this
 refine⟨List.nodup_append.2 ⟨h.1,by simp,fun a ha b hb=>by simp at hb;subst hb;exact fun e=>hnew (e▸ha)⟩,fun m=> ?_⟩;by_cases hy:m=x
 ·subst hy;refine⟨fun _=>⟨hx,fun l hl=> ?_⟩,fun _=>by simp⟩;obtain rfl:l=kl:=Option.some.inj (hl.symm.trans hk);exact⟨hhas,by simp[WideAt.sameKey_self (wd_keyed.key hk)]⟩
 ·rw[List.mem_append];refine⟨fun hm=> ?_,fun hm=>Or.inl ((h.2 m).2 ⟨hm.1,fun l hl=> ?_⟩)⟩
  ·rcases hm with hm|hm
   ·obtain⟨h1,h2⟩:=(h.2 m).1 hm;exact⟨h1,fun l hl=>⟨(h2 l hl).1,by show(left l&&_)=false;rw[(h2 l hl).2];rfl⟩⟩
   ·exact absurd (by simpa using hm) hy
  ·obtain⟨h1,h2⟩:=hm.2 l hl;refine⟨h1, ?_⟩
   have hne:l≠kl:=fun e=>hy (by
    have:=zeK (wd_keyed.inj (e▸hl) hk);rw[Nat.mod_eq_of_lt hm.1,Nat.mod_eq_of_lt hx] at this;exact this)
   have h2:(left l&& !l.sameKey kl)=false:=h2;rw[sameKey_ne hne] at h2;simpa using h2
theorem CollW.done {D:DataW Value} {left:Lit->Bool} {ss:List Nat} {g:Value->Option Value} {f:Nat->Option Value} (h:CollW D left ss) (hl:∀kl,left kl=false) (hg:∀v l,keyOf prog 24 v=some l->has D l=(g v).isSome) (hf:∀m,g (wv m)=f m):zb4 f ss:=by
 refine⟨h.1,fun m=> ?_⟩;rw[h.2 m];refine and_congr Iff.rfl ⟨fun h2=> ?_,fun h2 kl hk=>⟨by rw[hg _ _ hk,hf];exact h2,hl kl⟩⟩;obtain⟨kl,hk⟩:=zcj m;have:=(h2 kl hk).1;rw[hg _ _ hk,hf] at this;exact this
abbrev FA:Fence:={fn:=fun _=>True}
theorem grownBy_alloc (w:World) (o:Obj):w.grownBy (w.alloc o) none:=⟨rfl,rfl,rfl,by simp,fun k hk _=>Below.heap_alloc _ _ k hk⟩
theorem mod_M (x:Nat):x%M<M:=Nat.mod_lt _ (by unfold M;omega)
theorem keys1_a (n:Nat) (hn:1<=n) (l Bm b nn:Nat) (f:Nat->Option Value) (J:List Nat->World->Prop)
  (hY:∀pre x W,J pre W->pre.length<nn->YieldAt FA (n - 1) prog l #[wv x] W fun e W'=>e=.returned (.bool true)/\J (pre++[x]) W'/\KeepsWalks W W')
  (W:World) (hJ:AbidesFrom W.heap.size J) (hm:W.cell? ⟨Bm,0,none⟩=some (.map (some b))) (ha:AM W b nn f) (h0:J [] W):
  CallsIn FA n prog 136 #[.func (.yield l) #[] #[],.pointer (some ⟨Bm,0,none⟩)] W fun e W'=>(∃v,e=.returned v)/\∃ss:List Nat,zb4 f ss/\J ss W':=by
 obtain⟨g,⟨D0,hown,hD⟩,hf⟩:=ha;have hsl:=hown.size_le;refine callsIn_of_wp func136 rfl trivial ?_ rfl;simp only[ntmps136,List.size_toArray,List.length_cons,List.length_nil,Nat.reduceAdd,Nat.reduceSub,Array.replicate_succ,Array.replicate_zero,List.push_toArray,List.append_toArray,List.nil_append,List.cons_append]
 gi_wp2_with (first
  |(gi_at_range;refine wpListIn_range_own _ rfl _ 89 rfl 24 95 wd_keyed (by kernel_rfl) _ b nn _ rfl hown ?_;intro w0 hrg0 hg0 hs0)
  |gi_in)
 go_frame
 gi_loopw [3] (fun _ wr=>∃(left:Lit->Bool) (cnt:Nat) (ss:List Nat),wr.ranges prog 24 zfz b W.heap.size nn D0 left cnt/\ss.length+cnt<=Maps.size D0/\CollW D0 left ss/\J ss wr)
  (fun _ wr=>wr.rangeLeft b W.heap.size)
 case atStart=>
  exact⟨_,_,[],hrg0,by simp,CollW.start D0,hJ [] W w0 none h0 hg0 (fun r e=>by cases e)⟩
 case round=>
  obtain⟨left,cnt,ss,hrg,hcs,hC,hJs⟩:=hrel
  gi_wp2_with (first
   |(gi_at_next;refine wpListIn_next_ranges _ rfl _ rfl 24 wd_keyed zfz wv id (fun key kl hk=>zcd hk) (fun v _ _=>⟨v,rfl⟩) b W.heap.size nn _ _ _ rfl hrg ?_ ?_)
   |gi_in)
  ·intro hc0 hl0
   gi_wp2
   go_end0;exact⟨⟨_,rfl⟩,ss,hC.done hl0 (fun v l hl=>(hD v l hl).1) hf,hJs⟩
  ·intro x c kl yd yp w2 cnt2 hkey hlk hv hat hrg2 hlt hg2 hs2 hen;obtain⟨x',hx',ex⟩:∃x',x'<M/\wv x=wv x':=⟨x%M,mod_M x,yl (Nat.mod_mod x M).symm⟩;rw[ex] at hkey hen;have hC2:=hC.step hx' hkey hlk hat;have hJ2:J ss w2:=hJ ss wr w2 (some W.heap.size) hJs hg2 (fun r e=>by cases e;exact⟨Nat.le_refl _,hrg.iter_walk⟩);clear hs2;rw[ex];have hJ3:J ss (w2.alloc (.cells #[.int .u64 (za x' 0),.int .u64 (za x' 1),.int .u64 (za x' 2),.int .u64 (za x' 3)] 24)):=hJ ss w2 _ none hJ2 (grownBy_alloc _ _) (fun r e=>by cases e);have hrg3:=hrg2.of_walks (KeepsWalks.alloc w2 (.cells #[.int .u64 (za x' 0),.int .u64 (za x' 1),.int .u64 (za x' 2),.int .u64 (za x' 3)] 24));obtain⟨fn,tmps,assign,body,hy,hR⟩:=hY ss x' _ hJ3 (by omega);have hy:(Instr.yield l #[.agg #[.int .u64 (za x' 0),.int .u64 (za x' 1),.int .u64 (za x' 2),.int .u64 (za x' 3)]]).run prog (w2.alloc (.cells #[.int .u64 (za x' 0),.int .u64 (za x' 1),.int .u64 (za x' 2),.int .u64 (za x' 3)] 24))=.ok (.round l fn tmps assign body) (w2.alloc (.cells #[.int .u64 (za x' 0),.int .u64 (za x' 1),.int .u64 (za x' 2),.int .u64 (za x' 3)] 24)):=hy
   gi_wp2
   refine hR.mono ?_;rintro e W3 ⟨rfl,hJ4,hk4⟩
   gi_wp2
   have hrg4:=hrg3.of_walks hk4
   go_roundw
   case rel=>exact⟨_,cnt2,ss++[x'],hrg4,by simp;omega,hC2,hJ4⟩
   case measure=>rw[hrg4.left_eq,hrg.left_eq];exact hlt
theorem keys_a (mb:Option Nat) (w:World):
  Calls prog 75 #[.map mb] w fun e w'=>e=.returned (.func (.func 136) #[] #[.pointer (some ⟨w.heap.size,0,none⟩)])/\w'=w.alloc (.cells #[.map mb] 89):=by
 have hmf:∀(fn:Fn) (first cap:Array Value) (w:World),(Instr.makeFunc fn first cap).run prog w=.ok (.func fn first cap) w:=fun _ _ _ _=>rfl
 go_enter func75,ntmps75;go_wp2;go_ret;exact⟨rfl,rfl⟩
theorem gives_a (n:Nat) (hn:1<=n) (Bm b nn:Nat) (f:Nat->Option Value) (w:World) (hBm:Bm<w.heap.size) (hm:w.cell? ⟨Bm,0,none⟩=some (.map (some b))) (ha:AM w b nn f):
  SeqGives FA n prog 136 #[.pointer (some ⟨Bm,0,none⟩)] wv (zb4 f) nn w:=fun l J W hW hJ hY h0=>
 keys1_a n hn l Bm b nn f J hY W hJ ((hW.cell (p:=⟨Bm,0,none⟩) hBm).trans hm) (ha.block (hW.block b ha.lt)) h0
theorem keys1_s (n:Nat) (hn:1<=n) (l Bm b nn:Nat) (f:Nat->Option Value) (J:List Nat->World->Prop)
  (hY:∀pre x W,J pre W->pre.length<nn->YieldAt FA (n - 1) prog l #[wv x] W fun e W'=>e=.returned (.bool true)/\J (pre++[x]) W'/\KeepsWalks W W')
  (W:World) (hJ:AbidesFrom W.heap.size J) (hm:W.cell? ⟨Bm,0,none⟩=some (.map (some b))) (ha:AM W b nn f) (h0:J [] W):
  CallsIn FA n prog 193 #[.func (.yield l) #[] #[],.pointer (some ⟨Bm,0,none⟩)] W fun e W'=>(∃v,e=.returned v)/\∃ss:List Nat,zb4 f ss/\J ss W':=by
 obtain⟨g,⟨D0,hown,hD⟩,hf⟩:=ha;have hsl:=hown.size_le;refine callsIn_of_wp func193 rfl trivial ?_ rfl;simp only[ntmps193,List.size_toArray,List.length_cons,List.length_nil,Nat.reduceAdd,Nat.reduceSub,Array.replicate_succ,Array.replicate_zero,List.push_toArray,List.append_toArray,List.nil_append,List.cons_append]
 gi_wp2_with (first
  |(gi_at_range;refine wpListIn_range_own _ rfl _ 93 rfl 24 24 wd_keyed (by kernel_rfl) _ b nn _ rfl hown ?_;intro w0 hrg0 hg0 hs0)
  |gi_in)
 go_frame
 gi_loopw [3] (fun _ wr=>∃(left:Lit->Bool) (cnt:Nat) (ss:List Nat),wr.ranges prog 24 zfz b W.heap.size nn D0 left cnt/\ss.length+cnt<=Maps.size D0/\CollW D0 left ss/\J ss wr)
  (fun _ wr=>wr.rangeLeft b W.heap.size)
 case atStart=>
  exact⟨_,_,[],hrg0,by simp,CollW.start D0,hJ [] W w0 none h0 hg0 (fun r e=>by cases e)⟩
 case round=>
  obtain⟨left,cnt,ss,hrg,hcs,hC,hJs⟩:=hrel
  gi_wp2_with (first
   |(gi_at_next;refine wpListIn_next_ranges _ rfl _ rfl 24 wd_keyed zfz wv id (fun key kl hk=>zcd hk) (fun v _ _=>⟨v,rfl⟩) b W.heap.size nn _ _ _ rfl hrg ?_ ?_)
   |gi_in)
  ·intro hc0 hl0
   gi_wp2
   go_end0;exact⟨⟨_,rfl⟩,ss,hC.done hl0 (fun v l hl=>(hD v l hl).1) hf,hJs⟩
  ·intro x c kl yd yp w2 cnt2 hkey hlk hv hat hrg2 hlt hg2 hs2 hen;obtain⟨x',hx',ex⟩:∃x',x'<M/\wv x=wv x':=⟨x%M,mod_M x,yl (Nat.mod_mod x M).symm⟩;rw[ex] at hkey hen;have hC2:=hC.step hx' hkey hlk hat;have hJ2:J ss w2:=hJ ss wr w2 (some W.heap.size) hJs hg2 (fun r e=>by cases e;exact⟨Nat.le_refl _,hrg.iter_walk⟩);clear hs2;rw[ex];have hJ3:J ss (w2.alloc (.cells #[.int .u64 (za x' 0),.int .u64 (za x' 1),.int .u64 (za x' 2),.int .u64 (za x' 3)] 24)):=hJ ss w2 _ none hJ2 (grownBy_alloc _ _) (fun r e=>by cases e);have hrg3:=hrg2.of_walks (KeepsWalks.alloc w2 (.cells #[.int .u64 (za x' 0),.int .u64 (za x' 1),.int .u64 (za x' 2),.int .u64 (za x' 3)] 24));obtain⟨fn,tmps,assign,body,hy,hR⟩:=hY ss x' _ hJ3 (by omega);have hy:(Instr.yield l #[.agg #[.int .u64 (za x' 0),.int .u64 (za x' 1),.int .u64 (za x' 2),.int .u64 (za x' 3)]]).run prog (w2.alloc (.cells #[.int .u64 (za x' 0),.int .u64 (za x' 1),.int .u64 (za x' 2),.int .u64 (za x' 3)] 24))=.ok (.round l fn tmps assign body) (w2.alloc (.cells #[.int .u64 (za x' 0),.int .u64 (za x' 1),.int .u64 (za x' 2),.int .u64 (za x' 3)] 24)):=hy
   gi_wp2
   refine hR.mono ?_;rintro e W3 ⟨rfl,hJ4,hk4⟩
   gi_wp2
   have hrg4:=hrg3.of_walks hk4
   go_roundw
   case rel=>exact⟨_,cnt2,ss++[x'],hrg4,by simp;omega,hC2,hJ4⟩
   case measure=>rw[hrg4.left_eq,hrg.left_eq];exact hlt
theorem keys_s (mb:Option Nat) (w:World):
  Calls prog 137 #[.map mb] w fun e w'=>e=.returned (.func (.func 193) #[] #[.pointer (some ⟨w.heap.size,0,none⟩)])/\w'=w.alloc (.cells #[.map mb] 93):=by
 have hmf:∀(fn:Fn) (first cap:Array Value) (w:World),(Instr.makeFunc fn first cap).run prog w=.ok (.func fn first cap) w:=fun _ _ _ _=>rfl
 go_enter func137,ntmps137;go_wp2;go_ret;exact⟨rfl,rfl⟩
theorem gives_s (n:Nat) (hn:1<=n) (Bm b nn:Nat) (f:Nat->Option Value) (w:World) (hBm:Bm<w.heap.size) (hm:w.cell? ⟨Bm,0,none⟩=some (.map (some b))) (ha:AM w b nn f):
  SeqGives FA n prog 193 #[.pointer (some ⟨Bm,0,none⟩)] wv (zb4 f) nn w:=fun l J W hW hJ hY h0=>
 keys1_s n hn l Bm b nn f J hY W hJ ((hW.cell (p:=⟨Bm,0,none⟩) hBm).trans hm) (ha.block (hW.block b ha.lt)) h0
end
section
open Go.RowKit Go.Maps Go.Sort Go.Shelf
def zeR:Code:=(Code.region 2 #[⟨some 5,.alloc 24,0,"iter.go:51",#[],none⟩,⟨none,.store 24 (.tmp 5) (.tmp 7),0,"iter.go:51",#[⟨0,.data⟩,⟨0,.phase⟩],none⟩] false)
def zj3:Code:=(Code.block 1 (Code.region 3 #[⟨some 8,.load 110 (.tmp 2),110,"iter.go:52",#[],none⟩,⟨some 9,.load 24 (.tmp 5),24,"iter.go:52",#[],none⟩,⟨some 10,.buildSlice 110 1 #[(0,.tmp 9)],110,"iter.go:52",#[⟨1,.data⟩],none⟩,⟨some 11,.call ⟨.builtin Builtin.append,#[.tmp 8,.tmp 10],#[110,110]⟩,110,"iter.go:52",#[⟨0,.data⟩,⟨2,.data⟩],none⟩,⟨none,.store 110 (.tmp 2) (.tmp 11),0,"iter.go:52",#[⟨3,.data⟩,⟨3,.chain⟩,⟨0,.phase⟩,⟨1,.phase⟩,⟨2,.phase⟩,⟨3,.phase⟩],none⟩] false))
def zbj (fn:FuncId) (sv:Value) (Bs D:Nat) (st:LoopState) (pend:Option Code):Loop:=
 {state:=st,pending:=pend,fn,tmps:=#[.slice none 0 0,sv,.pointer (some ⟨Bs,0,none⟩),undef,.slice none 0 0,undef,sv,undef,undef,undef,undef,undef,undef],params:=#[7],assign:=zeR,body:=zj3,defers:=D}
structure ApAt (w0:World) (fn:FuncId) (sv:Value) (Bs l D:Nat) (ss:List Nat) (W:World):Prop where
 box:∃v,W.heap[Bs]? =some (.cells #[v] 110 (0,0))/\W.ownsRow w0.heap.size 24 4 v ss.length (Zv ss)
 L:W.heap[l]? =some (.loop (zbj fn sv Bs D .ready none))
 K:W.heap[D]? =some (.deferred (some []))
 below:Below w0.heap.size w0 W
theorem zfU (w0:World) (fn:FuncId) (sv:Value) (Bs l D B:Nat) (hB:w0.heap.size<=B):AbidesFrom B (ApAt w0 fn sv Bs l D):=fun s W W' row h hg hrow=>by
 have hrow':∀r,row=some r->∃o:Obj,W.heap[r]? =some o/\o.isWalk=true:=fun r e=>(hrow r e).2
 obtain⟨v,hv,hr⟩:=h.box
 exact⟨⟨v,(grownBy_keeps hg hrow' hv rfl).trans hv,ownsRow_abides_a hr hg hrow'⟩,(grownBy_keeps hg hrow' h.L rfl).trans h.L,(grownBy_keeps hg hrow' h.K rfl).trans h.K,
  h.below.grown hg h.below.size (fun k e=>Nat.le_trans hB (hrow k e).1)⟩
theorem zb8 {F:Fence} {n:Nat} {P:Program} (w:World) {ops:Array Oper} {rest:List Oper} {o:Oper} {a:Act} {Q:Exit->Act->World->Prop} (hg:o.guard=none) (s x:Operand) (t:TypeId) (hop:o.op=Op.call {callee:=Callee.builtin Builtin.append,args:=#[s,x],argTypes:=#[t,t]})
  (vs vx:Value) (hs:a.eval s=vs) (hx:a.eval x=vx) (v':Value) (w':World) (hrun:(Builtin.append_ #[t,t] o.type #[vs,vx]).run P w=.ok v' w') (hK:wpListIn F n P ops Q rest (a.put o.dst v') w'):wpListIn F n P ops Q (o::rest) a w:=by
 refine wpListIn_plain hg fun K hK'=> ?_
 unfold Oper.wpIn;refine⟨?_, ?_⟩
 ·simp[Oper.about,hop,resolve,Target.leads,Sem.run_pure]
 ·rw[Oper.semAt_plain F _ _ (by rw[hop];intro c hc';cases hc')];simp[execOp,hop,resolve,invoke,builtin,hs,hx,hrun,Result.andThen];exact hK' _ _ hK
theorem t_ne:(110:TypeId)≠24:=by decide
theorem apYield (m:Nat) (w0:World) (fn:FuncId) (sv:Value) (Bs l D:Nat) (hBl:Bs≠l) (hDl:D≠l) (hDB:D≠Bs) (h0B:w0.heap.size<=Bs) (h0l:w0.heap.size<=l)
  (N:Nat) (hN:N<=1000000000000) (ss:List Nat) (x:Nat) (W:World) (h:ApAt w0 fn sv Bs l D ss W) (hlen:ss.length<N):
  YieldAt FA m prog l #[wv x] W fun e W'=>e=.returned (.bool true)/\ApAt w0 fn sv Bs l D (ss++[x]) W'/\KeepsWalks W W':=by
 have hne:=t_ne;obtain⟨i0,hi0,hz0,hz1,hz2⟩:=info_parts zg8;refine⟨fn,#[.slice none 0 0,sv,.pointer (some ⟨Bs,0,none⟩),undef,.slice none 0 0,undef,sv,wv x,undef,undef,undef,undef,undef],zeR,zj3,by simpa[zbj] using run_yield (P:=prog) (args:=#[wv x]) h.L rfl,roundIn_of_wpIn trivial ?_⟩;have hlw:l<W.heap.size:=(Array.getElem?_eq_some_iff.1 h.L).1;obtain⟨Wa,hWa⟩:∃Wa,W.alloc (.cells #[.int .u64 (za x 0),.int .u64 (za x 1),.int .u64 (za x 2),.int .u64 (za x 3)] 24)=Wa:=⟨_,rfl⟩;have hsa:Wa.heap.size=W.heap.size+1:=by rw[<-hWa];simp
 have hxa:Wa.cell? ⟨W.heap.size,0,none⟩=some (.int .u64 (za x 0))/\Wa.cell? ⟨W.heap.size,1,none⟩=some (.int .u64 (za x 1))/\Wa.cell? ⟨W.heap.size,2,none⟩=some (.int .u64 (za x 2))/\Wa.cell? ⟨W.heap.size,3,none⟩=some (.int .u64 (za x 3)):=by
  rw[<-hWa];refine⟨?_, ?_, ?_, ?_⟩<;>simp[go_sem]
 have hka:KeepsWalks W Wa:=by rw[<-hWa];exact KeepsWalks.alloc _ _
 have h:ApAt w0 fn sv Bs l D ss Wa:=by
  rw[<-hWa];exact zfU w0 fn sv Bs l D w0.heap.size (Nat.le_refl _) ss W _ none h (grownBy_alloc W _) (fun r e=>by cases e)
 obtain⟨v,hv,hrow⟩:=h.box;have hl:l<Wa.heap.size:=(Array.getElem?_eq_some_iff.1 h.L).1;have hbr:=run_beginRound (P:=prog) h.L rfl;obtain⟨W2,hW2⟩:∃W2,Wa.putObj l (.loop {zbj fn sv Bs D .ready none with state:=.busy})=W2:=⟨_,rfl⟩;rw[hW2] at hbr;have hg2:Wa.grownBy W2 (some l):=by rw[<-hW2];exact grownBy_putObj_a _ _ _
 have hk2:KeepsWalks Wa W2:=by rw[<-hW2];exact KeepsWalks.putObj _ h.L rfl
 have hv2:W2.heap[Bs]? =some (.cells #[v] 110 (0,0)):=by rw[<-hW2];exact(World.putObj_heap_other hBl).trans hv
 have hK2:W2.heap[D]? =some (.deferred (some [])):=by rw[<-hW2];exact(World.putObj_heap_other hDl).trans h.K
 have hL2:W2.heap[l]? =some (.loop {zbj fn sv Bs D .ready none with state:=.busy}):=by rw[<-hW2];exact World.putObj_heap_same hl
 have hrow2:W2.ownsRow w0.heap.size 24 4 v ss.length (Zv ss):=hrow.kept hg2 (ownsRow_ne_a hrow h.L (fun cur e=>by first|cases e|exact hne (Obj.cells.inj e).2.1));have hb2:Below w0.heap.size w0 W2:=h.below.grown hg2 h.below.size (fun k e=>by cases e;exact h0l);have hBlt:Bs<W2.heap.size:=(Array.getElem?_eq_some_iff.1 hv2).1;have hl2:l<W2.heap.size:=(Array.getElem?_eq_some_iff.1 hL2).1;have hDlt:D<W2.heap.size:=(Array.getElem?_eq_some_iff.1 hK2).1
 have ne_of:∀{j:Nat} {o:Obj},W2.heap[j]? =some o->(∀cur,o≠.cells cur 24 (0,0))->some j≠v.ownBlock:=fun hj hno=>by
  rcases ownsRow_ne_a hrow2 hj hno with e|e
  ·rw[e];simp
  ·exact fun e'=>e e'.symm
 have hbk:W2.heap[W.heap.size]? =Wa.heap[W.heap.size]? :=hg2.block _ (by omega) (fun e=>by cases e;omega);obtain⟨x0,x1,x2,x3⟩:=hxa;have x0:=(World.cell?_of_block (a:=⟨W.heap.size,0,none⟩) hbk).trans x0;have x1:=(World.cell?_of_block (a:=⟨W.heap.size,1,none⟩) hbk).trans x1;have x2:=(World.cell?_of_block (a:=⟨W.heap.size,2,none⟩) hbk).trans x2;have x3:=(World.cell?_of_block (a:=⟨W.heap.size,3,none⟩) hbk).trans x3;obtain⟨hc2,hf2⟩:=cell_of_box_a hv2;obtain⟨v',w3,hrun,hown',hg3,hfre⟩:=yI (P:=prog) (W2.alloc (.cells #[.int .u64 (za x 0),.int .u64 (za x 1),.int .u64 (za x 2),.int .u64 (za x 3)] 24)) w0.heap.size 110 110 24 i0 (.agg #[.int .u64 0,.int .u64 0,.int .u64 0,.int .u64 0]) 4 32 (by kernel_rfl) hi0 hz0 hz1 hz2 rfl (by decide) v ss.length (Zv ss) (zm hrow2 (bal (Below.refl _ W2) _)) ⟨W2.heap.size,0,none⟩ 1 1 [.int .u64 (za x 0),.int .u64 (za x 1),.int .u64 (za x 2),.int .u64 (za x 3)] rfl (Z8 W2 #[.int .u64 (za x 0),.int .u64 (za x 1),.int .u64 (za x 2),.int .u64 (za x 3)] 24) (by intro u hu;simp at hu;rcases hu with rfl|rfl|rfl|rfl<;>rfl) (by unfold maxLen;omega) (by omega) (by have:=hb2.size;simp;omega);have hv3:w3.heap[Bs]? =some (.cells #[v] 110 (0,0)):=(hg3.block Bs (by simp;omega) (ne_of hv2 (fun cur e=>by first|cases e|exact hne (Obj.cells.inj e).2.1))).trans ((Below.heap_alloc _ _ Bs (by omega)).trans hv2);obtain⟨hc3,hf3⟩:=cell_of_box_a hv3;obtain⟨ad',cp',hsl'⟩:=Zk hown';subst hsl';have HRUN:=zb hrun;have HOWN:=zb hown';have HG3:=zb hg3;clear hrun hown' hg3 hfre;unfold zeR
 gi_wp2_with gi_round_op_a
 unfold zj3
 gi_wp2_with (first
  |(gi_at_builtin;refine zb8 _ rfl _ _ _ rfl _ _ rfl rfl _ _ HRUN.out ?_;go_frame)
  |gi_round_op_a)
 have hown':=HOWN.out;have hg3':=HG3.out;have hL3:w3.heap[l]? =some (.loop {zbj fn sv Bs D .ready none with state:=.busy}):=(hg3'.block l (by simp;omega) (ne_of hL2 (fun cur e=>by first|cases e|exact hne (Obj.cells.inj e).2.1))).trans ((Below.heap_alloc _ _ l hl2).trans hL2);have hK3:w3.heap[D]? =some (.deferred (some [])):=(hg3'.block D (by simp;omega) (ne_of hK2 (fun cur e=>by first|cases e|exact hne (Obj.cells.inj e).2.1))).trans ((Below.heap_alloc _ _ D hDlt).trans hK2);obtain⟨w4,hw4⟩:∃w4,w3.setCell ⟨Bs,0,none⟩ (.slice ad' (ss.length+1) cp')=w4:=⟨_,rfl⟩;rw[hw4];have hg4:w3.grownBy w4 (some Bs):=by rw[<-hw4];exact grownBy_setCell0_a _ _ _
 have hv4:w4.heap[Bs]? =some (.cells #[.slice ad' (ss.length+1) cp'] 110 (0,0)):=by rw[<-hw4];exact heap_setCell_box_a _ hv3
 have hL4:w4.heap[l]? =some (.loop {zbj fn sv Bs D .ready none with state:=.busy}):=(hg4.block l (Array.getElem?_eq_some_iff.1 hL3).1 (fun e=>hBl (by cases e;rfl))).trans hL3;have hK4:w4.heap[D]? =some (.deferred (some [])):=(hg4.block D (Array.getElem?_eq_some_iff.1 hK3).1 (fun e=>hDB (by cases e;rfl))).trans hK3;have hrow4:=hown'.kept hg4 (ownsRow_ne_a hown' hv3 (fun cur e=>by first|cases e|exact hne (Obj.cells.inj e).2.1));have hl4:l<w4.heap.size:=(Array.getElem?_eq_some_iff.1 hL4).1;have hb3:Below w0.heap.size w0 w3:=(hb2.alloc hb2.size _).grown hg3' (by have:=hb2.size;simp;omega) (fun k e=>(hrow2.lt k e).1);have hb4:Below w0.heap.size w0 w4:=hb3.grown hg4 hb3.size (fun k e=>by cases e;exact h0B);have hk4:KeepsWalks W w4:=(((hka.trans hk2).trans (KeepsWalks.alloc _ _)).trans (KeepsWalks.of_grownBy hg3' (ownsRow_not_walk_a (hrow2.alloc _)))).trans (by rw[<-hw4];exact KeepsWalks.setCell _ _ _);clear hw4;refine⟨_,_,run_endRound none hL4,rfl,⟨⟨_,(World.putObj_heap_other hBl).trans hv4, ?_⟩,World.putObj_heap_same hl4,(World.putObj_heap_other hDl).trans hK4,hb4.grown (grownBy_putObj_a _ _ _) hb4.size (fun k e=>by cases e;exact h0l)⟩,hk4.trans (KeepsWalks.putObj _ hL4 rfl)⟩;have:=hrow4.kept (grownBy_putObj_a w4 l (.loop {{zbj fn sv Bs D .ready none with state:=.busy} with state:=if (none:Option Code).isNone then .ready else .done,pending:=none})) (ownsRow_ne_a hrow4 hL4 (fun cur e=>by first|cases e|exact hne (Obj.cells.inj e).2.1));rw[zbk,List.length_append];exact this
theorem zh3 (n:Nat) (hn:2<=n) (g:Nat) (lb:Array Value) (eg:∀args w,(callFunc g args).run prog w=.ok (.enter g args) w)
  (S:List Nat->Prop) (N:Nat) (hN:N<=1000000000000) (w:World) (hseq:SeqGives FA (n - 1) prog g lb wv S N w):
  CallsIn FA n prog 190 #[.slice none 0 0,.func (.func g) #[] lb] w fun e w'=>∃(v:Value) (ss:List Nat),e=.returned v/\S ss/\w'.ownsRow w.heap.size 24 4 v ss.length (Zv ss)/\Below w.heap.size w w':=by
 have h1:1<=n:=by omega
 have hne:=t_ne;refine callsIn_of_wp_marks func190 rfl trivial ?_ rfl;simp only[ntmps190,List.size_toArray,List.length_cons,List.length_nil,Nat.reduceAdd,Nat.reduceSub,Array.replicate_succ,Array.replicate_zero,List.push_toArray,List.append_toArray,List.nil_append,List.cons_append]
 gi_wp2
 refine wpIn_rangeFunc ?_;intro fn hfn;rw[show FA.round=none from rfl];obtain⟨W0,hW0⟩:∃W0,w.alloc (.cells #[.slice none 0 0] 110)=W0:=⟨_,rfl⟩;have hs0:W0.heap.size=w.heap.size+1:=by rw[<-hW0];simp
 have hv0:W0.heap[w.heap.size]? =some (.cells #[.slice none 0 0] 110 (0,0)):=by rw[<-hW0];exact World.alloc_heap_new w _
 have hb0:Below w.heap.size w W0:=by rw[<-hW0];exact(Below.refl _ w).alloc (Nat.le_refl _) _
 rw[hW0];obtain⟨W1,hW1⟩:∃W1,(W0.alloc (.deferred (some []))).alloc (.loop (zbj fn (.func (.func g) #[] lb) w.heap.size W0.heap.size .ready none))=W1:=⟨_,rfl⟩
 have hold:∀k,k<W0.heap.size->W1.heap[k]? =W0.heap[k]? :=fun k hk=>by
  rw[<-hW1];exact(Below.heap_alloc _ _ k (by simp;omega)).trans (Below.heap_alloc _ _ k hk)
 have hb1:Below w.heap.size w W1:=by rw[<-hW1];exact(hb0.alloc hb0.size _).alloc (by have:=hb0.size;simp;omega) _
 have hs1:W1.heap.size=W0.heap.size+2:=by rw[<-hW1];simp
 have hM:ApAt w fn (.func (.func g) #[] lb) w.heap.size (W0.heap.size+1) W0.heap.size [] W1:=
  ⟨⟨_,(hold w.heap.size (by omega)).trans hv0,⟨rfl,.inl ⟨rfl,rfl⟩⟩⟩,
   by rw[<-hW1];have:=World.alloc_heap_new (W0.alloc (.deferred (some []))) (.loop (zbj fn (.func (.func g) #[] lb) w.heap.size W0.heap.size .ready none));rwa[World.size_alloc] at this,
   by rw[<-hW1];exact(Below.heap_alloc _ _ _ (by simp)).trans (World.alloc_heap_new W0 _),hb1⟩
 refine⟨W0.heap.size+1,[{target:=.collected W0.heap.size,args:=#[]}],W1,{target:=.fn (.func g) lb,args:=#[.func (.yield (W0.heap.size+1)) #[] #[]]},W1,g,
  #[.func (.yield (W0.heap.size+1)) #[] #[]]++lb,W1, ?_, ?_, ?_, ?_,fun _=>h1, ?_⟩
 ·rw[<-hW1];exact run_enterLoop_outer _ _ _ _ _
 ·simp[resolve,go_sem]
 ·intro f' hf';exact trivial
 ·simp[invoke,go_sem,eg]
 ·refine(hseq (W0.heap.size+1) (ApAt w fn (.func (.func g) #[] lb) w.heap.size (W0.heap.size+1) W0.heap.size) W1 hb1 (zfU _ _ _ _ _ _ _ hb1.size)
   (fun pre x W hJ hl=>apYield (n - 1 - 1) w fn _ w.heap.size (W0.heap.size+1) W0.heap.size (by omega) (by omega) (by omega) (Nat.le_refl _) (by omega) N hN pre x W hJ hl) hM).mono ?_
  rintro e W2 ⟨⟨v0,rfl⟩,ss,hS,h2⟩;obtain⟨v,hv,hrow⟩:=h2.box;have hend:=run_endLoop (P:=prog) h2.L (by simp[zbj]);obtain⟨W3,hW3⟩:∃W3,W2.putObj (W0.heap.size+1) (.loop {zbj fn (.func (.func g) #[] lb) w.heap.size W0.heap.size .ready none with state:=.exhausted})=W3:=⟨_,rfl⟩;rw[hW3] at hend;have hg3:W2.grownBy W3 (some (W0.heap.size+1)):=by rw[<-hW3];exact grownBy_putObj_a _ _ _
  have hv3:W3.heap[w.heap.size]? =some (.cells #[v] 110 (0,0)):=by rw[<-hW3];exact(World.putObj_heap_other (by omega)).trans hv
  have hK3:W3.heap[W0.heap.size]? =some (.deferred (some [])):=by rw[<-hW3];exact(World.putObj_heap_other (by omega)).trans h2.K
  have hrow3:=hrow.kept hg3 (ownsRow_ne_a hrow h2.L (fun cur e=>by first|cases e|exact hne (Obj.cells.inj e).2.1));have hb3:Below w.heap.size w W3:=h2.below.grown hg3 h2.below.size (fun k e=>by cases e;omega);obtain⟨hc3,hf3⟩:=cell_of_box_a hv3;clear hW3;refine⟨none,W3,hend, ?_⟩
  gi_wp2
  rw[<-hs0];refine⟨by simp,.inl ⟨_,_,rfl,run_takeDeferred hK3, ?_⟩⟩;exact⟨_,results_tmp rfl _ _ _,v,ss,rfl,hS,hrow3.kept (grownBy_putObj_a _ _ _) (ownsRow_ne_a hrow3 hK3 (fun cur e=>by first|cases e|exact hne (Obj.cells.inj e).2.1)),hb3.grown (grownBy_putObj_a _ _ _) hb3.size (fun k e=>by cases e;omega)⟩
theorem zl0 (n:Nat) (hn:3<=n) (g:Nat) (lb:Array Value) (eg:∀args w,(callFunc g args).run prog w=.ok (.enter g args) w)
  (S:List Nat->Prop) (N:Nat) (hN:N<=1000000000000) (w:World) (hseq:SeqGives FA (n - 1 - 1) prog g lb wv S N w):
  CallsIn FA n prog 134 #[.func (.func g) #[] lb] w fun e w'=>∃(v:Value) (ss:List Nat),e=.returned v/\S ss/\w'.ownsRow w.heap.size 24 4 v ss.length (Zv ss)/\Below w.heap.size w w':=by
 have h1:1<=n:=by omega
 refine callsIn_of_wp func134 rfl trivial ?_ rfl;simp only[ntmps134,List.size_toArray,List.length_cons,List.length_nil,Nat.reduceAdd,Nat.reduceSub,Array.replicate_succ,Array.replicate_zero,List.push_toArray,List.append_toArray,List.nil_append,List.cons_append]
 gi_wp2_with (gi_at_call 190;refine(zh3 (n - 1) (by omega) g lb eg S N hN _ hseq).mono ?_;rintro e w' ⟨v,ss,rfl,hS,hrow,hb⟩)
 go_ret;exact⟨v,ss,rfl,hS,hrow,hb⟩
theorem zpa (n l Bm:Nat) (J:List Nat->World->Prop) (W:World) (hJ:AbidesFrom W.heap.size J) (hm:W.cell? ⟨Bm,0,none⟩=some (.map none)) (h0:J [] W):
  CallsIn FA n prog 193 #[.func (.yield l) #[] #[],.pointer (some ⟨Bm,0,none⟩)] W fun e W'=>(∃v,e=.returned v)/\∃ss:List Nat,ss=[]/\J ss W':=by
 refine callsIn_of_wp func193 rfl trivial ?_ rfl;simp only[ntmps193,List.size_toArray,List.length_cons,List.length_nil,Nat.reduceAdd,Nat.reduceSub,Array.replicate_succ,Array.replicate_zero,List.push_toArray,List.append_toArray,List.nil_append,List.cons_append];have hrg:=run_range_nilMap (P:=prog) W 93 24 24 (by kernel_rfl);have hnx:∀ty,(Instr.next (.pointer (some ⟨W.heap.size,0,none⟩)) false ty).run prog (W.alloc (.mapIter none 0 #[] 0))=_:=fun ty=>run_next_nilMap _ ty 0 0 #[]
 gi_wp2
 refine wpIn_loop_rounds 1 ?_;rw[roundsIn_succ]
 gi_wp2
 go_end0;exact⟨⟨_,rfl⟩,[],rfl,hJ [] W _ none h0 (World.grownBy_alloc W _ none) (fun r e=>by cases e)⟩
theorem zn0 (n nn Bm:Nat) (w:World) (hBm:Bm<w.heap.size) (hm:w.cell? ⟨Bm,0,none⟩=some (.map none)):
  SeqGives FA n prog 193 #[.pointer (some ⟨Bm,0,none⟩)] wv (zb4 (fun _=>none)) nn w:=fun l J W hW hJ _ h0=>by
 refine(zpa n l Bm J W hJ ((hW.cell (p:=⟨Bm,0,none⟩) hBm).trans hm) h0).mono ?_;rintro e W' ⟨h1,ss,rfl,h2⟩;exact⟨h1,[],⟨List.nodup_nil,fun m=>by simp⟩,h2⟩
end
section
open Go.RowKit Go.Maps Go.Sort Go.Shelf
abbrev cpW (w:World) (a b:Nat):World:=(w.alloc (.cells #[.int .u64 (za a 0),.int .u64 (za a 1),.int .u64 (za a 2),.int .u64 (za a 3)] 24)).alloc (.cells #[.int .u64 (za b 0),.int .u64 (za b 1),.int .u64 (za b 2),.int .u64 (za b 3)] 24)
theorem zmK {w x:World} (h:∃q,x=w.drewN q):∃q,x.drew=w.drewN q:=by
 obtain⟨q,rfl⟩:=h;exact⟨q+1,rfl⟩
theorem zgn {w x:World} {a b:Nat} (h:∃q,x=(cpW w a b).drewN q):∃q os,x=grow (w.drewN q) os:=by
 obtain⟨q,rfl⟩:=h;refine⟨q,#[.cells #[.int .u64 (za a 0),.int .u64 (za a 1),.int .u64 (za a 2),.int .u64 (za a 3)] 24]++#[.cells #[.int .u64 (za b 0),.int .u64 (za b 1),.int .u64 (za b 2),.int .u64 (za b 3)] 24], ?_⟩;show(cpW w a b).drewN q=_;unfold cpW;rw[alloc_eq_grow,alloc_eq_grow,grow_grow];rfl
theorem zfC {w x:World} (h:∃q os,x=grow (w.drewN q) os):∃q os,x.drew=grow (w.drewN q) os:=by
 obtain⟨q,os,rfl⟩:=h;exact⟨q+1,os,rfl⟩
theorem zhm (a b:Nat) (w:World):Calls prog 33 #[wv a,wv b] w fun e w'=>e=.returned (.int .i64 (ZZ a b))/\∃q os',w'=grow (w.drewN q) os':=by
 go_enter func33,ntmps33;go_wp2
 go_loopw [5] (fun t5 wr=>∃k:Nat,k<=3/\t5=.int .i64 k/\Hid (∀j,k<j->j<4->za a j=za b j)/\
   wr.rowIs w.heap.size 24 4 (zu (za a))/\wr.rowIs (w.heap.size+1) 24 4 (zu (za b))/\Hid (∃q,wr=(cpW w a b).drewN q))
   (fun t5 _=>(RowKit.intOf t5).toNat)
 case atStart=>
  refine⟨3,by omega,rfl,fun j h1 h2=>by omega, ?_, ?_,⟨0,rfl⟩⟩
  ·exact(zj _ rfl rfl rfl rfl rfl).alloc _
  ·exact zj (za b) (by simp) rfl rfl rfl rfl
 case round=>
  obtain⟨k,hk,rfl,HE,hra,hrb,hbel⟩:=hrel;have c0:=hra.cell (i:=0) (by omega);have d0:=hrb.cell (i:=0) (by omega);have c1:=hra.cell (i:=k) (by omega);have c2:=hrb.cell (i:=k) (by omega);simp only[zu] at c0 d0 c1 c2;by_cases hlt:0<k
  ·have t1:decide ((0:Int)<(k:Int))=true:=decide_eq_true (by omega);by_cases hne:za a k=za b k
   ·have t2:(za a k !=za b k)=false:=by simp[hne]
    have HN:Hid (∀j,k - 1<j->j<4->za a j=za b j):=fun j h1 h2=>by
     by_cases e:j=k
     ·rw[e];exact hne
     ·exact HE.out j (by omega) h2
    clear hne;go_wp2
    go_region
    all_goals go_wp2
    all_goals go_roundw
    case rel=>exact⟨k - 1,by omega,by go_num,HN,hra.drew,hrb.drew,zb (zmK hbel.out)⟩
    case measure=>simp[RowKit.intOf];omega
   ·have t2:(za a k !=za b k)=true:=by simp[hne]
    have HR:Hid (zi2 (za a k) (za b k)=ZZ a b):=zbS a b k (by omega) HE.out (Or.inl hne);clear hne;go_wp2
    go_region
    all_goals go_wp2
    all_goals go_region_with (go_at_call 59;refine(zcF _ _ _).mono ?_;rintro e w1 ⟨rfl,rfl⟩)
    all_goals go_wp2
    all_goals go_ret
    all_goals exact⟨congrArg (fun z=>Ending.returned (Value.int .i64 z)) HR.out,by repeat' (first|exact zgn hbel.out|refine zfC ?_)⟩
  ·obtain rfl:k=0:=by omega
   have HR:Hid (zi2 (za a 0) (za b 0)=ZZ a b):=zbS a b 0 (by omega) HE.out (Or.inr rfl);go_wp2_with (go_at_call 59;refine(zcF _ _ _).mono ?_;rintro e w1 ⟨rfl,rfl⟩)
   go_ret;exact⟨congrArg (fun z=>Ending.returned (Value.int .i64 z)) HR.out,by repeat' (first|exact zgn hbel.out|refine zfC ?_)⟩
end
section
open Go.RowKit Go.Maps Go.Sort Go.Shelf
open Go.Proofs
def sortW_ren:Go.Shelf.Ren:=⟨fun|6=>135|15=>192|14=>191|28=>225|29=>211|20=>217|21=>218|22=>219|23=>220|24=>221|25=>222|26=>223|27=>224|46=>250|47=>251|48=>252|49=>253|50=>254|57=>281|n=>n,fun|22=>110|24=>24|25=>92|3=>3|39=>173|0=>0|53=>83|55=>22|4=>4|46=>267|45=>266|50=>114|5=>5|9=>9|66=>278|70=>282|76=>295|77=>241|n=>n,fun|n=>n⟩
theorem sortW:Go.Proofs.SlLaysF0.n6 prog sortW_ren:={
 mixed:=by kernel_rfl
 f6:=⟨f135.name,by decide,func135.trans (congrArg some (by kernel_rfl))⟩
 f14:=⟨f191.name,by decide,func191.trans (congrArg some (by kernel_rfl))⟩
 f15:=func192.trans (congrArg some (by kernel_rfl))
 f20:=⟨f217.name,by decide,func217.trans (congrArg some (by kernel_rfl))⟩
 f21:=⟨f218.name,by decide,func218.trans (congrArg some (by kernel_rfl))⟩
 f22:=⟨f219.name,by decide,func219.trans (congrArg some (by kernel_rfl))⟩
 f23:=⟨f220.name,by decide,func220.trans (congrArg some (by kernel_rfl))⟩
 f24:=⟨f221.name,by decide,func221.trans (congrArg some (by kernel_rfl))⟩
 f25:=⟨f222.name,by decide,func222.trans (congrArg some (by kernel_rfl))⟩
 f26:=⟨f223.name,by decide,func223.trans (congrArg some (by kernel_rfl))⟩
 f27:=⟨f224.name,by decide,func224.trans (congrArg some (by kernel_rfl))⟩
 f28:=func225.trans (congrArg some (by kernel_rfl))
 f29:=func211.trans (congrArg some (by kernel_rfl))
 f46:=⟨f250.name,by decide,func250.trans (congrArg some (by kernel_rfl))⟩
 f47:=func251.trans (congrArg some (by kernel_rfl))
 f48:=func252.trans (congrArg some (by kernel_rfl))
 f49:=⟨f253.name,by decide,func253.trans (congrArg some (by kernel_rfl))⟩
 f50:=⟨f254.name,by decide,func254.trans (congrArg some (by kernel_rfl))⟩
 f57:=⟨f281.name,by decide,func281.trans (congrArg some (by kernel_rfl))⟩
 t0:=underlying0
 a0:=isAgg0
 z0:=sizeOf0
 v0:=zeroValue0
 t3:=underlying3
 a3:=isAgg3
 z3:=sizeOf3
 v3:=zeroValue3
 t4:=underlying4
 a4:=isAgg4
 z4:=sizeOf4
 v4:=zeroValue4
 t5:=underlying5
 a5:=isAgg5
 z5:=sizeOf5
 v5:=zeroValue5
 t9:=underlying9
 a9:=isAgg9
 z9:=sizeOf9
 v9:=zeroValue9
 t22:=underlying110
 a22:=isAgg110
 z22:=sizeOf110
 v22:=zeroValue110
 t25:=underlying92
 a25:=isAgg92
 z25:=sizeOf92
 v25:=zeroValue92
 t39:=underlying173
 a39:=isAgg173
 z39:=sizeOf173
 v39:=zeroValue173
 t45:=underlying266
 a45:=isAgg266
 z45:=sizeOf266
 v45:=zeroValue266
 t46:=underlying267
 a46:=isAgg267
 z46:=sizeOf267
 v46:=zeroValue267
 t50:=underlying114
 a50:=isAgg114
 z50:=sizeOf114
 v50:=zeroValue114
 t53:=underlying83
 a53:=isAgg83
 z53:=sizeOf83
 v53:=zeroValue83
 t55:=underlying22
 a55:=isAgg22
 z55:=sizeOf22
 v55:=zeroValue22
 t66:=underlying278
 a66:=isAgg278
 z66:=sizeOf278
 v66:=zeroValue278
 t70:=underlying282
 a70:=isAgg282
 z70:=sizeOf282
 v70:=zeroValue282
 t76:=underlying295
 a76:=isAgg295
 z76:=sizeOf295
 v76:=zeroValue295
 t77:=underlying241
 a77:=isAgg241
 z77:=sizeOf241
 v77:=zeroValue241}
def ZH (n:Nat):List Value:=[.int .u64 (za n 0),.int .u64 (za n 1),.int .u64 (za n 2),.int .u64 (za n 3)]
theorem zeh (a b:Nat):ltOf ZZ a b=decide (a%M<b%M):=by
 unfold ltOf ZZ;by_cases h1:a%M<b%M
 ·simp[h1]
 ·by_cases h2:b%M<a%M<;>simp[h1,h2]
theorem znA:SWO (ltOf ZZ) where
 irrefl x:=by rw[zeh];simp
 trans x y z h1 h2:=by rw[zeh] at*;simp at*;omega
 ntrans x y z h1 h2:=by rw[zeh] at*;simp at*;omega
theorem za1:∀(l:List Nat) (j:Nat),j<l.length*4->(Zv l)[j]? =some ((ZH l[j/4]!)[j%4]!)
 |[],j,h=>by simp at h
 |n::r,j,h=>by
  show(ZH n++Zv r)[j]? =_;by_cases hj:j<4
  ·rw[List.getElem?_append_left (by simpa[ZH] using hj)];rcases ltq4 hj with rfl|rfl|rfl|rfl<;>rfl
  ·rw[List.getElem?_append_right (by simp[ZH];omega)];have e:(ZH n).length=4:=rfl;rw[e,za1 r (j - 4) (by simp at h;omega)];have e1:j/4=(j - 4)/4+1:=by omega
   have e2:j%4=(j - 4)%4:=by omega
   rw[e1,e2];rfl
theorem flat_w (d:Array Nat):(flatK ZH 4 d).toList=Zv d.toList:=by
 refine List.ext_getElem? fun j=> ?_
 by_cases hj:j<d.size*4
 ·rw[za1 _ j (by simpa using hj),Array.getElem?_toList,Array.getElem?_eq_getElem (by simpa using hj),<-getElem!_pos _ j (by simpa using hj),get_flatK _ _ _ _ hj]
  have e:d.toList[j/4]! =d[j/4]! :=by
   have hl:j/4<d.size:=by omega
   rw[getElem!_pos d.toList _ (by simpa using hl),getElem!_pos d _ hl];rfl
  rw[e]
 ·rw[List.getElem?_eq_none (by simp;omega),List.getElem?_eq_none (by rw[Yu];simp;omega)]
theorem zdz {w:World} {base e size n:Nat} {v:Value} {xs:List Value} (h:w.ownsRow base e size v n xs) {g cap:Nat} (hv:v=.slice (some ⟨g,0,none⟩) n cap):∃cur,w.heap[g]? =some (.cells cur e (0,0))/\base<=g/\n<=cap/\cap<=maxLen/\cur.size=cap*size/\cur.toList.take (n*size)=xs:=by
 rcases h.2 with⟨rfl,_⟩|⟨g',cap',cur,rfl,h2,h3,h4,h5,h6,h7⟩
 ·cases hv
 ·cases hv;exact⟨cur,h3,h2,h4,h5,h6,h7⟩
theorem holds_w {w:World} {base g cap:Nat} {ss:List Nat} (h:w.ownsRow base 24 4 (.slice (some ⟨g,0,none⟩) ss.length cap) ss.length (Zv ss)):HoldsK ZH 4 w g 0 ss.toArray:=by
 obtain⟨cur,h3,h2,h4,h5,h6,h7⟩:=zdz h rfl;intro j hj;have hj:j<ss.length*4:=by simpa using hj
 refine⟨?_,by simp[World.frozen?,h3]⟩;rw[Nat.zero_add,h.cellAt j hj,za1 ss j hj];show _=some ((flatK ZH 4 ss.toArray)[j]!);rw[get_flatK _ _ _ _ (by simpa using hj)];simp
theorem zjA {w:World} {g n:Nat} {os:Array Obj} {cur:Array Value} {e:TypeId} {fr:Nat×Nat} (d:Array Nat) (hb:w.heap[g]? =some (.cells cur e fr)):
  (sortWorldK ZH 4 w g 0 n d os).heap[g]? =some (.cells (putCells id 0 (flatK ZH 4 d) cur) e fr):=by
 have hg:g<w.heap.size:=(Array.getElem?_eq_some_iff.1 hb).1;unfold sortWorldK putRowK;rw[heap_grow_old _ _ (by simpa using hg)];simp[putRow,mapBlock,Sort.ahead,Array.getElem?_modify,hb,onCells]
theorem zl8 {w:World} {base g cap n:Nat} {os:Array Obj} {ss:List Nat} (h:w.ownsRow base 24 4 (.slice (some ⟨g,0,none⟩) ss.length cap) ss.length (Zv ss)) (d:Array Nat) (hd:d.size=ss.length):
  (sortWorldK ZH 4 w g 0 n d os).ownsRow base 24 4 (.slice (some ⟨g,0,none⟩) ss.length cap) ss.length (Zv d.toList):=by
 obtain⟨cur,h3,h2,h4,h5,h6,h7⟩:=zdz h rfl;refine⟨by rw[Yu];simp[hd],Or.inr ⟨g,cap,_,rfl,h2,zjA d h3,h4,h5,by simp[putCells,h6], ?_⟩⟩;refine List.ext_getElem? fun j=> ?_
 by_cases hj:j<ss.length*4
 ·have hjc:j<cur.size:=by rw[h6];omega
  rw[List.getElem?_take_of_lt hj,Array.getElem?_toList];rw[<-flat_w,Array.getElem?_toList];have hjd:j<(flatK ZH 4 d).size:=by rw[size_flatK,hd];exact hj
  unfold putCells;rw[Array.getElem?_mapIdx,Array.getElem?_eq_getElem hjc,Array.getElem?_eq_getElem hjd];simp only[Option.map_some];rw[if_pos ⟨Nat.zero_le _,by rw[Nat.zero_add];exact hjd⟩];show some (id (flatK ZH 4 d)[j - 0]!)=_;rw[Nat.sub_zero,getElem!_pos _ j hjd];rfl
 ·rw[List.getElem?_take_eq_none (by omega),List.getElem?_eq_none (by rw[Yu];simp[hd];omega)]
theorem zie {w0 w:World} {base g n:Nat} {os:Array Obj} (d:Array Nat) (hb:Below base w0 w) (hg:base<=g) (hs:base<=w.heap.size):Below base w0 (sortWorldK ZH 4 w g 0 n d os):=by
 refine hb.grown (row:=some g) ⟨rfl,rfl,rfl, ?_,fun k hk hne=> ?_⟩ hs (fun k e=>by cases e;exact hg)
 ·unfold sortWorldK putRowK;simp[grow,putRow,mapBlock,Sort.ahead]
 ·unfold sortWorldK putRowK;rw[heap_grow_old _ _ (by simpa using hk)];have:g≠k:=fun e=>hne (by rw[e])
  simp[putRow,mapBlock,Sort.ahead,Array.getElem?_modify,this]
def SortedKeys (f:Nat->Option Value) (ts:List Nat):Prop:=ts.Pairwise (·<·)/\∀m,m∈ts↔m<M/\(f m).isSome=true
theorem zb1 {f:Nat->Option Value} {ss ts:List Nat} (h:zb4 f ss) (hp:ts.Perm ss) (hs:ts.Pairwise (fun a b=>ltOf ZZ b a=false)):SortedKeys f ts:=by
 have hm:∀m,m∈ts↔m<M/\(f m).isSome=true:=fun m=>(hp.mem_iff).trans (h.2 m)
 refine⟨?_,hm⟩;have hnd:ts.Nodup:=hp.nodup_iff.2 h.1;refine List.Pairwise.imp_of_mem ?_ (hs.and hnd);intro a b ha hb hab;have h1:=hab.1;rw[zeh,Nat.mod_eq_of_lt ((hm b).1 hb).1,Nat.mod_eq_of_lt ((hm a).1 ha).1] at h1;have h1:¬b<a:=of_decide_eq_false h1;have h2:a≠b:=hab.2;omega
theorem zb3 {ts us:List Nat} (h1:ts.Pairwise (·<·)) (h2:us.Pairwise (·<·)) (h:∀m,m∈ts↔m∈us):ts=us:=by
 have hp:ts.Perm us:=(List.perm_ext_iff_of_nodup (h1.imp fun h=>Nat.ne_of_lt h) (h2.imp fun h=>Nat.ne_of_lt h)).2 h;exact hp.eq_of_pairwise (le:=fun a b=>a<b) (fun a b _ _ h3 h4=>absurd h3 (by omega)) h1 h2
theorem SortedKeys.unique {f g:Nat->Option Value} {ts us:List Nat} (h1:SortedKeys f ts) (h2:SortedKeys g us) (h:∀m,m<M->(f m).isSome=(g m).isSome):ts=us:=
 zb3 h1.1 h2.1 fun m=>by
  rw[h1.2,h2.2];exact and_congr_right fun hm=>by rw[h m hm]
end
section
open Go.RowKit Go.Maps Go.Sort Go.Shelf
theorem zeN (p:Option Addr) (cap:Nat) (fv:Value) (w:World):
  Calls prog 217 #[.slice p 0 cap,.int .i64 0,.int .i64 0,fv] w fun e w'=>e=.returned (.tuple #[])/\w'=w:=by
 go_enter func217,ntmps217;go_wp2;refine wp_loop_rounds 1 ?_;rw[rounds_succ];go_wp2;go_end0;exact⟨rfl,rfl⟩
theorem zo8 (p:Option Addr) (cap:Nat) (lim:Int) (fv:Value) (w:World):
  Calls prog 191 #[.slice p 0 cap,.int .i64 0,.int .i64 0,.int .i64 lim,fv] w fun e w'=>e=.returned (.tuple #[])/\w'=w:=by
 have hi:=fun W=>zeN p cap fv W
 go_enter func191,ntmps191;go_wp2;refine wp_loop_rounds 1 ?_;rw[rounds_succ];go_wp2_with (go_at_call 217;refine(hi _).mono ?_;rintro e w' ⟨rfl,rfl⟩)
 (try simp only[Exit.inBlock,Exit.then]);refine bodyPost_ret (results_none rfl _ _ _) rfl ?_
 exact⟨rfl,rfl⟩
theorem len_W (n:Nat) (hn:n<9223372036854775808) (w:World):Calls prog (sortW_ren.f 15) #[.int .u64 (n:Int)] w fun e w'=>e=.returned (.int .i64 (Lib.bitLen n:Nat))/\w'=w:=by
 have h:=Any.bits_Len (SlLaysF0.n15.bits (P:=prog) (ρ:=sortW_ren) {sortW with}) (n:Int) w (by omega) (by omega);rwa[Int.toNat_natCast] at h
theorem zfI (p:Option Addr) (cap:Nat) (fv:Value) (w:World):
  Calls prog 135 #[.slice p 0 cap,fv] w fun e w'=>e=.returned (.tuple #[])/\w'=w:=by
 have hp:=fun lim W=>zo8 p cap lim fv W
 have hl:=len_W 0 (by omega);change ∀W,Calls prog 192 #[.int .u64 0] W _ at hl;go_enter func135,ntmps135;go_wp2_with (first|(go_at_call 192;refine(hl _).mono ?_;rintro e w' ⟨rfl,rfl⟩)|(go_at_call 191;refine(hp _ _).mono ?_;rintro e w' ⟨rfl,rfl⟩))
 go_end0;exact⟨rfl,rfl⟩
theorem zio {F:Fence} {n g N:Nat} {lb:Array Value} {S:List Nat->Prop} {w:World} (h:SeqGives F n prog g lb wv S N w):SeqGives F n prog g lb wv (fun ss=>S ss/\ss.length<=N) N w:=fun l J W hW hJ hY h0=>by
 refine(h l (fun ss W=>J ss W/\ss.length<=N) W hW (fun s W1 W2 row hs hg hr=>⟨hJ s W1 W2 row hs.1 hg hr,hs.2⟩) (fun pre x W1 hp hl=> ?_) ⟨h0,Nat.zero_le _⟩).mono ?_
 ·obtain⟨fn,tmps,asn,bd,h1,h2⟩:=hY pre x W1 hp.1 hl;exact⟨fn,tmps,asn,bd,h1,h2.mono fun e W' ⟨e1,e2,e3⟩=>⟨e1,⟨e2,by simp;omega⟩,e3⟩⟩
 ·rintro e W' ⟨h1,xs,h2,h3,h4⟩;exact⟨h1,xs,⟨h2,h4⟩,h3⟩
theorem zfy {w:World} {base e size n:Nat} {v:Value} {xs:List Value} (h:w.ownsRow base e size v n xs) (hn:0<n):∃g cap,v=.slice (some ⟨g,0,none⟩) n cap/\base<=g:=by
 rcases h.2 with⟨_,h0⟩|⟨g,cap,cur,hv,hb,_⟩
 ·omega
 ·exact⟨g,cap,hv,hb⟩
theorem znX (blk size:Nat) (w:World):CmpLays prog 33 #[] ZH 4 ZZ blk 0 size w:=fun m os dk hd x y=>zhm x y _
theorem zjy {base g cap:Nat} {ss:List Nat} (w:World) (h:w.ownsRow base 24 4 (.slice (some ⟨g,0,none⟩) ss.length cap) ss.length (Zv ss)) (hl:ss.length<4611686018427387904):
  Calls prog 135 #[.slice (some ⟨g,0,none⟩) ss.length cap,.func (.func 33) #[] #[]] w fun e w'=>e=.returned (.tuple #[])/\∃(ts:List Nat) (n:Nat) (os:Array Obj),ts.Perm ss/\ts.Pairwise (fun a b=>ltOf ZZ b a=false)/\w'=sortWorldK ZH 4 w g 0 n ts.toArray os:=by
 obtain⟨cur,h3,h2,h4,h5,h6,h7⟩:=zdz h rfl;have eg:∀args w,(callFunc 33 args).run prog w=.ok (.enter 33 args) w:=enters_of func33 (by kernel_rfl) rfl;have hcon:=AnyQ.slices_SortFunc sortW 4 isAgg24 sizeOf24 ZH (fun _=>rfl) (fun x v hv=>by simp[ZH] at hv;rcases hv with rfl|rfl|rfl|rfl<;>rfl) ZZ znA 33 #[] g 0 cap ss.toArray w eg (znX g _ w) (holds_w h) (Array.getElem?_eq_some_iff.1 h3).1 (by simpa using hl);rw[show ss.toArray.size=ss.length by simp] at hcon;refine hcon.mono ?_;rintro e w' ⟨rfl,d',n,os,⟨hp1,hp2,hp3⟩,hs,rfl⟩;have hsz:d'.size=ss.length:=by rw[hp1];simp
 refine⟨rfl,d'.toList,n,os, ?_, ?_,rfl⟩
 ·have e1:d'.extract 0 ss.length=d':=by rw[<-hsz];exact Array.extract_size
  have e2:ss.toArray.extract 0 ss.length=ss.toArray:=by rw[show ss.length=ss.toArray.size by simp];exact Array.extract_size
  rw[e1,e2] at hp3;exact hp3
 ·refine List.pairwise_iff_getElem.2 fun i j hi hj hij=> ?_
  have:=hs i j (Nat.zero_le _) hij (by rw[<-hsz];simpa using hj);rw[getElem!_pos d' j (by simpa using hj),getElem!_pos d' i (by simpa using hi)] at this;exact this
theorem zda (n:Nat) (hn:3<=n) (g:Nat) (lb:Array Value) (eg:∀args w,(callFunc g args).run prog w=.ok (.enter g args) w) (f:Nat->Option Value) (N:Nat) (hN:N<=1000000000000) (w:World) (hseq:SeqGives FA (n - 1 - 1) prog g lb wv (zb4 f) N w):
  Calls prog 74 #[.func (.func g) #[] lb,.func (.func 33) #[] #[]] w fun e w'=>∃(v:Value) (ts:List Nat),e=.returned v/\ts.length<=N/\SortedKeys f ts/\w'.ownsRow w.heap.size 24 4 v ts.length (Zv ts)/\Below w.heap.size w w':=by
 have HC:=zb ((zl0 n hn g lb eg _ N hN w (zio hseq)).calls (fun _ _ h=>by cases h));clear hseq;go_enter func74,ntmps74;go_wp2_with fail
 refine HC.out.mono ?_;rintro e W ⟨v,ss,rfl,⟨hS,hlen⟩,hrow,hb⟩;by_cases h0:ss=[]
 ·subst h0;obtain⟨ad,cp,rfl⟩:=Zk hrow;have HN:=zb (zfI ad cp (.func (.func 33) #[] #[]) W);have HX:=zb (And.intro hrow (And.intro hb hS));clear hrow hb hS HC;go_wp2_with (go_at_call 135;refine HN.out.mono ?_;rintro e w' ⟨rfl,rfl⟩)
  go_ret;obtain⟨hrow,hb,hS⟩:=HX.out;exact⟨_,[],rfl,Nat.zero_le _,zb1 hS (List.Perm.refl _) List.Pairwise.nil,hrow,hb⟩
 ·obtain⟨g,cap,rfl,hg⟩:=zfy hrow (List.length_pos_iff.2 h0);have HN:=zb (zjy W hrow (by omega));have HX:=zb (And.intro hrow (And.intro hb hS));clear hrow hb hS HC;go_wp2_with (go_at_call 135;refine HN.out.mono ?_;rintro e w' ⟨rfl,ts,n,os,hp,hs,rfl⟩)
  go_ret;obtain⟨hrow,hb,hS⟩:=HX.out;have hl:=hp.length_eq;refine⟨_,ts,rfl,by omega,zb1 hS hp hs, ?_,zie _ hb hg hb.size⟩;have:=zl8 (n:=n) (os:=os) hrow ts.toArray (by simpa using hl);rw[hl];exact this
end
section
open Go.RowKit Go.Maps Go.Sort Go.Shelf
def slC (s:Nat->Nat) (ts:List Nat):List Value:=ts.flatMap fun k=>ZH k++ZH (s k)
theorem zo4 (s:Nat->Nat) (ts:List Nat) (k:Nat):slC s (ts++[k])=slC s ts++(ZH k++ZH (s k)):=by simp[slC]
theorem zc1 {w:World} {b b' e size n:Nat} {v:Value} {xs:List Value} (h:w.ownsRow b e size v n xs) (hb:b'<=b):w.ownsRow b' e size v n xs:=by
 refine⟨h.1,h.2.imp id ?_⟩;rintro⟨g,cap,cur,h1,h2,h3⟩;exact⟨g,cap,cur,h1,Nat.le_trans hb h2,h3⟩
theorem ziq (k:Nat):∀u∈ZH k,u.oneCell'=true:=by
 intro u hu;simp[ZH] at hu;rcases hu with rfl|rfl|rfl|rfl<;>rfl
theorem zji {w:World} {base g cap:Nat} {ts:List Nat} (h:w.ownsRow base 24 4 (.slice (some ⟨g,0,none⟩) ts.length cap) ts.length (Zv ts)) (i:Nat) (hi:i<ts.length):w.cell? ⟨g,i*4,none⟩=some (.int .u64 (za ts[i] 0))/\w.cell? ⟨g,i*4+1,none⟩=some (.int .u64 (za ts[i] 1))/\w.cell? ⟨g,i*4+2,none⟩=some (.int .u64 (za ts[i] 2))/\w.cell? ⟨g,i*4+3,none⟩=some (.int .u64 (za ts[i] 3)):=by
 have key:∀j,j<4->w.cell? ⟨g,i*4+j,none⟩=some ((ZH ts[i])[j]!):=fun j hj=>by
  rw[h.cellAt (i*4+j) (by omega),za1 _ _ (by omega)];rw[show(i*4+j)/4=i by omega,show(i*4+j)%4=j by omega,getElem!_pos ts i hi]
 exact⟨key 0 (by omega),key 1 (by omega),key 2 (by omega),key 3 (by omega)⟩
theorem info_sl:(prog.info? 54).map (fun i=>(i.zero,i.size,i.bytes))=some (some (.agg #[.int .u64 0,.int .u64 0,.int .u64 0,.int .u64 0,.int .u64 0,.int .u64 0,.int .u64 0,.int .u64 0]),8,64):=by kernel_rfl
def PhG (w3 wr:World):Nat->World->Prop
 |0,x=>Below wr.heap.size wr x
 |_,x=>Below w3.heap.size w3 x
theorem zcJ {w3 wr x:World} {k:Nat} (h:PhG w3 wr k x) (hk:k<=0):Below wr.heap.size wr x:=by
 obtain rfl:k=0:=by omega
 exact h
theorem phg_bel {w3 wr:World} (hb3:Below w3.heap.size w3 wr) (k:Nat) (x x':World) (h:PhG w3 wr k x) (hb:Below x.heap.size x x'):PhG w3 wr k x':=by
 match k,h with
 |0,h=>exact(show Below wr.heap.size wr x from h).trans (hb.mono (show Below wr.heap.size wr x from h).size)
 |_+1,h=>exact(show Below w3.heap.size w3 x from h).trans (hb.mono (show Below w3.heap.size w3 x from h).size)
def OneE (cs:Array Value):Kp:=fun p v x=>∃q,v=.slice (some ⟨q,0,none⟩) 1 1/\(p<=0->q<x.heap.size/\∀(j:Nat) u,cs.toList[j]? =some u->x.cell? ((⟨q,0,none⟩:Addr).add j)=some u)
def NewE (base e size n:Nat) (xs:List Value):Kp:=fun p v x=>p≠0/\x.ownsRow base e size v n xs
theorem zga {s:Act} {x:World} {pos:String} {af:Array Edge} {gd:Option (Nat×Bool)} {K:Act->World->Prop} {Q:Exit->Act->World->Prop} {n m t d:Nat} {ty:TypeId} (he:s.tmps.getD t undef=.agg #[.int .u64 (za n 0),.int .u64 (za n 1),.int .u64 (za n 2),.int .u64 (za n 3),.int .u64 (za m 0),.int .u64 (za m 1),.int .u64 (za m 2),.int .u64 (za m 3)]) (hK:K (s.put (some d) (.slice (some ⟨x.heap.size,0,none⟩) 1 1)) (x.alloc (.cells #[.int .u64 (za n 0),.int .u64 (za n 1),.int .u64 (za n 2),.int .u64 (za n 3),.int .u64 (za m 0),.int .u64 (za m 1),.int .u64 (za m 2),.int .u64 (za m 3)] 54))):
  Oper.wp prog ⟨some d,.buildSlice 32 1 #[(0,.tmp t)],ty,pos,af,gd⟩ s x K Q:=by
 have he2:s.eval (.tmp t)=.agg #[.int .u64 (za n 0),.int .u64 (za n 1),.int .u64 (za n 2),.int .u64 (za n 3),.int .u64 (za m 0),.int .u64 (za m 1),.int .u64 (za m 2),.int .u64 (za m 3)]:=he;have he3:s.tmps[t]?.getD undef=.agg #[.int .u64 (za n 0),.int .u64 (za n 1),.int .u64 (za n 2),.int .u64 (za n 3),.int .u64 (za m 0),.int .u64 (za m 1),.int .u64 (za m 2),.int .u64 (za m 3)]:=by rw[<-Array.getD_eq_getD_getElem?];exact he
 go_simp;exact hK
structure SLr (w3:World) (s:Nat->Nat) (ts:List Nat) (i:Nat) (v:Value) (wr:World):Prop where
 own:wr.ownsRow w3.heap.size 54 8 v i (slC s (ts.take i))
 below:Below w3.heap.size w3 wr
theorem zgW {n ab bl:Nat} {code:ByteArray} {sv:Value} {s:Nat->Nat} (w:World) (h:SlotsOk w n ab s sv) (hn:n<=1000000000000):
  Calls prog 76 #[Z1 bl code sv] w fun e w'=>∃(v:Value) (ts:List Nat),e=.returned v/\ts.length<=n/\SortedKeys (Zs s) ts/\w'.ownsRow w.heap.size 54 8 v ts.length (slC s ts)/\Below w.heap.size w w':=by
 obtain⟨o,rfl⟩:=h.is;have eg:∀args w,(callFunc 193 args).run prog w=.ok (.enter 193 args) w:=enters_of func193 (by kernel_rfl) rfl;obtain⟨w1,HW1⟩:∃w1,Hid (w1=w.alloc (.cells #[.int .u64 (za bl 0),.int .u64 (za bl 1),.int .u64 (za bl 2),.int .u64 (za bl 3),.string code,.map o] 95)):=⟨_,rfl⟩;have hB1:Below w.heap.size w w1:=by rw[HW1.out];exact bal (Below.refl _ w) _
 have hs1:w1.heap.size=w.heap.size+1:=by rw[HW1.out];simp
 have a5:w1.cell? ⟨w.heap.size,5,none⟩=some (.map o):=by rw[HW1.out];simp[go_sem]
 have hB2:Below w1.heap.size w1 (w1.alloc (.cells #[.map o] 93)):=bal (Below.refl _ w1) _;have HK:=zb (keys_s o w1)
 have hseq:SeqGives FA 3 prog 193 #[.pointer (some ⟨w1.heap.size,0,none⟩)] wv (zb4 (Zs s)) n (w1.alloc (.cells #[.map o] 93)):=by
  have hc:(w1.alloc (.cells #[.map o] 93)).cell? ⟨w1.heap.size,0,none⟩=some (.map o):=by simp[go_sem]
  rcases h with⟨e,hz⟩|⟨b,e,hb,ha⟩
  ·cases e;have e2:Zs s=fun _=>none:=funext fun k=>if_pos (hz k)
   rw[e2];exact zn0 3 n _ _ (by simp) hc
  ·cases e;exact gives_s 3 (by omega) _ b n _ _ (by simp) hc ((ha.kb (Kb.of_below (S:=[]) hB1) (by simp)).kb (Kb.of_below (S:=[]) hB2) (by simp))
 have HS:=zb (zda 5 (by omega) _ _ eg (Zs s) n hn _ hseq);have HL:Hid (∀x,Below w.heap.size w x->∀k,(Instr.lookup 93 (.map o) (wv k) false).run prog x=.ok (wv (s k)) x):=fun x hx k=>zfV (h.kb (Kb.of_below (S:=[]) hx) (by simp) (Nat.le_refl _)) k
 clear hseq h;go_enter func76,ntmps76;go_wp2_with fail
 rw[<-HW1.out];refine HK.out.mono ?_;rintro e w2 ⟨rfl,rfl⟩;have hB12:=hB1.trans (hB2.mono hB1.size);have hc5:=(hB2.cell (p:=⟨w.heap.size,5,none⟩) (by show w.heap.size<_;omega)).trans a5;generalize w1.alloc (.cells #[.map o] 93)=w2 at*;have hs2:w.heap.size<w2.heap.size:=by have:=hB2.size;omega
 clear HK;rw[hs1] at HS;go_wp2_with fail
 refine HS.out.mono ?_;rintro e w3 ⟨v,ts,rfl,hlen,hts,hrow,hb3⟩;obtain⟨adv,cpv,rfl⟩:=Zk hrow;have HX:=zb (And.intro hts (And.intro hrow hb3));have hB3:Below w.heap.size w w3:=hB12.trans (hb3.mono hB12.size);have hc53:=(hb3.cell (p:=⟨w.heap.size,5,none⟩) hs2).trans hc5;have hs3:w.heap.size<w3.heap.size:=Nat.lt_of_lt_of_le hs2 hb3.size;clear HS hrow hts a5 hB2 hB1 hs1 hc5 hB12 hb3;obtain⟨L,HLL⟩:∃L,Hid (L=ts.length):=⟨_,rfl⟩;rw[<-HLL.out] at hlen⊢;go_wp2
 go_loopw [3,11] (fun t3 t11 wr=>∃(i:Nat) (ad:Option Addr) (cp:Nat),i<=L/\t11=.int .i64 (i:Int)/\t3=.slice ad i cp/\Hid (SLr w3 s ts i (.slice ad i cp) wr)) (fun _ t11 _=>L - (RowKit.intOf t11).toNat)
 case atStart=>exact⟨0,none,0,Nat.zero_le _,rfl,rfl,⟨World.ownsRow_nil _ _ _ _,Below.refl _ _⟩⟩
 case round=>
  obtain⟨i,ad,cp,hi,rfl,rfl,HR⟩:=hrel;by_cases hlt:i<L
  ·have hd:decide ((i:Int)<(L:Int))=true:=decide_eq_true (by omega);obtain⟨hts,hrow,hb3⟩:=HX.out;have hil:i<ts.length:=by rw[<-HLL.out];exact hlt
   obtain⟨kb,cap,he,hkb⟩:=zfy hrow (by omega);obtain⟨rfl,rfl⟩:adv=some ⟨kb,0,none⟩/\cpv=cap:=by injection he with h1 h2 h3;exact⟨h1,h3⟩
   have hkl3:kb<w3.heap.size:=(hrow.lt kb rfl).2;obtain⟨c0,c1,c2,c3⟩:=zji hrow i hil;obtain⟨k9,HK9⟩:∃k9:Nat,Hid (k9=ts[i]):=⟨ts[i],zb rfl⟩;rw[<-HK9.out] at c0 c1 c2 c3;have c0:=(HR.out.below.cell (p:=⟨kb,i*4,none⟩) hkl3).trans c0;have c1:=(HR.out.below.cell (p:=⟨kb,i*4+1,none⟩) hkl3).trans c1;have c2:=(HR.out.below.cell (p:=⟨kb,i*4+2,none⟩) hkl3).trans c2;have c3:=(HR.out.below.cell (p:=⟨kb,i*4+3,none⟩) hkl3).trans c3;clear hrow hts hb3 he;go_wp2;obtain⟨wr9,HW9⟩:∃wr9,Hid (wr9=wr.alloc (.cells #[.int .u64 (za k9 0),.int .u64 (za k9 1),.int .u64 (za k9 2),.int .u64 (za k9 3)] 24)):=⟨_,rfl⟩;rw[<-HW9.out];have hBw:Below wr.heap.size wr wr9:=by rw[HW9.out];exact bal (Below.refl _ wr) _
   obtain⟨kb9,HKB⟩:∃kb9,Hid (kb9=wr.heap.size):=⟨_,rfl⟩
   have hkc:wr9.cell? ⟨kb9,0,none⟩=some (.int .u64 (za k9 0))/\wr9.cell? ⟨kb9,0+1,none⟩=some (.int .u64 (za k9 1))/\wr9.cell? ⟨kb9,0+2,none⟩=some (.int .u64 (za k9 2))/\wr9.cell? ⟨kb9,0+3,none⟩=some (.int .u64 (za k9 3)):=by
    rw[HW9.out,HKB.out];refine⟨?_, ?_, ?_, ?_⟩<;>simp[go_sem]
   have hkl:kb9<wr9.heap.size:=by rw[HW9.out,HKB.out];simp
   rw[<-HKB.out];have hb39:Below w3.heap.size w3 wr9:=HR.out.below.trans (hBw.mono HR.out.below.size);have hown9:=zm HR.out.own hBw;have hal:w.heap.size<wr9.heap.size:=Nat.lt_of_lt_of_le hs3 hb39.size;have ha5:wr9.cell? ⟨w.heap.size,5,none⟩=some (.map o):=(hb39.cell (p:=⟨w.heap.size,5,none⟩) hs3).trans hc53;have hBww:Below w.heap.size w wr9:=hB3.trans (hb39.mono hB3.size);have hlook:∀x,Below wr9.heap.size wr9 x->∀k,(Instr.lookup 93 (.map o) (wv k) false).run prog x=.ok (wv (s k)) x:=fun x hx k=>HL.out x (hBww.trans (hx.mono hBww.size)) k
   clear c0 c1 c2 c3
   refine zq (PhG w3 wr9) (fun _ _ _=>True) [(1,(.pointer (some ⟨w.heap.size,0,none⟩))),(3,(.slice ad i cp)),(5,(.pointer (some ⟨kb9,0,none⟩)))] [(some 15,.v (.slice ad i cp)),(some 16,.v (wv k9)),(some 17,.v (.pointer (some ⟨w.heap.size,5,none⟩))),(some 18,.v (.map o)),(some 19,.v (wv k9)),(some 20,.v (wv (s k9))),(some 21,.v (.agg #[.int .u64 (za k9 0),.int .u64 (za k9 1),.int .u64 (za k9 2),.int .u64 (za k9 3),.int .u64 (za (s k9) 0),.int .u64 (za (s k9) 1),.int .u64 (za (s k9) 2),.int .u64 (za (s k9) 3)])),(some 22,.l (OneE #[.int .u64 (za k9 0),.int .u64 (za k9 1),.int .u64 (za k9 2),.int .u64 (za k9 3),.int .u64 (za (s k9) 0),.int .u64 (za (s k9) 1),.int .u64 (za (s k9) 2),.int .u64 (za (s k9) 3)])),(some 23,.l (NewE w3.heap.size 54 8 (i+1) (slC s (ts.take i)++(ZH k9++ZH (s k9))))),(some 3,.l (NewE w3.heap.size 54 8 (i+1) (slC s (ts.take i)++(ZH k9++ZH (s k9)))))] [8] [1,4,3,5,7,9] (by kernel_rfl) (by rfl) (by rfl) (by kernel_rfl) ((Below.refl _ _).drew) (phg_bel hb39)
     (zf _ _ _ rfl rfl
     (fun s9 x hph hdf hv hl K hK=>by
      have hx:Below wr9.heap.size wr9 x:=hph;obtain⟨q,e1,e2⟩:=hl 22 _ rfl;obtain⟨hq,hcells⟩:=e2 (by omega);obtain⟨i0,hi0,hz0,hz1,hz2⟩:=info_parts info_sl;refine zaR w3.heap.size 54 i0 _ 8 64 (by kernel_rfl) hi0 hz0 hz1 hz2 rfl (by decide) (.slice ad i cp) i (slC s (ts.take i)) (hv 15 _ rfl) (zm hown9 hx) ⟨q,0,none⟩ 1 1 (ZH k9++ZH (s k9)) e1 rfl hcells (fun u hu=>(List.mem_append.1 hu).elim (ziq _ u) (ziq _ u)) (by unfold maxLen;omega) (by omega) (by have:=hb39.size;have:=hx.size;omega) ?_;intro v' y ho hgr hfr;exact hK v' y ((hb39.trans (hx.mono hb39.size)).grown hgr (Nat.le_trans hb39.size hx.size) (fun k hk=>(hown9.lt k hk).1)) trivial nn1 ⟨by omega,ho⟩)
     True.intro)
     (zf _ _ _ rfl rfl
     (fun k s9 x hk hlo hhi hph hdf hv hl K hK=>by
      have hx:Below wr9.heap.size wr9 x:=zcJ hph (hhi 0 8 rfl (by kernel_rfl));obtain⟨q0,q1,q2,q3⟩:=hkc;exact zB (n:=k9) (hv 5 _ rfl) ((hx.cell hkl).trans q0) ((hx.cell hkl).trans q1) ((hx.cell hkl).trans q2) ((hx.cell hkl).trans q3) (hK _ x (Below.refl _ _) nn1 rfl))
     (zf _ _ _ rfl rfl
     (fun k s9 x hk hlo hhi hph hdf hv hl K hK=>by
      have hx:Below wr9.heap.size wr9 x:=zcJ hph (hhi 0 8 rfl (by kernel_rfl));obtain⟨q0,q1,q2,q3⟩:=hkc;exact zB (n:=k9) (hv 5 _ rfl) ((hx.cell hkl).trans q0) ((hx.cell hkl).trans q1) ((hx.cell hkl).trans q2) ((hx.cell hkl).trans q3) (hK _ x (Below.refl _ _) nn1 rfl))
     (zf _ _ _ rfl rfl
     (fun k s9 x hk hlo hhi hph hdf hv hl K hK=>by
      have hx:Below wr9.heap.size wr9 x:=zcJ hph (hhi 0 8 rfl (by kernel_rfl));exact zv (v:=.map o) (fun w=>by kernel_rfl) (hv 17 _ rfl) ((hx.cell hal).trans ha5) (hK _ x (Below.refl _ _) nn1 rfl))
     (zf _ _ _ rfl rfl
     (fun k s9 x hk hlo hhi hph hdf hv hl K hK=>by
      have hx:Below wr9.heap.size wr9 x:=zcJ hph (hhi 0 8 rfl (by kernel_rfl));exact zdH (v:=wv (s k9)) (x':=x) hv (zmw (hlook x hx k9)) (hK _ x (Below.refl _ _) nn1 rfl))
     (zf _ _ _ rfl rfl
     (fun k s9 x hk hlo hhi hph hdf hv hl K hK=>by
      have hx:Below wr9.heap.size wr9 x:=zcJ hph (hhi 0 8 rfl (by kernel_rfl));exact zga (hv 21 _ rfl) (hK _ _ (bal (Below.refl _ x) _) nn1 ⟨x.heap.size,rfl,fun _=>⟨by simp,Z8 x #[.int .u64 (za k9 0),.int .u64 (za k9 1),.int .u64 (za k9 2),.int .u64 (za k9 3),.int .u64 (za (s k9) 0),.int .u64 (za (s k9) 1),.int .u64 (za (s k9) 2),.int .u64 (za (s k9) 3)] 54⟩⟩))
     (zf _ _ _ rfl rfl
     (fun k s9 x hk hlo hhi hph hdf hv hl K hK=>by
      have hp:k≠0:=by have:=hlo 0 8 rfl (by kernel_rfl);omega
      exact zdx 23 3 _ rfl (hK _ x (Below.refl _ _) nn1 (hl 23 _ rfl)))
     True.intro))))))
     (fun i9 d T' he p v x x' hne hp hph hrel hT=>by
      rcases ltq10 (show i9<10 from(List.getElem?_eq_some_iff.1 he).1) with rfl|rfl|rfl|rfl|rfl|rfl|rfl|rfl|rfl|rfl
      all_goals first
       |(cases he;done)
       |(obtain rfl:=Sum.inr.inj (Prod.mk.inj (Option.some.inj he)).2;first|(obtain⟨q,e1,e2⟩:=hT;exact⟨q,e1,fun h=>by omega⟩)|exact absurd (show p=0 by have hp:p<1:=hp;omega) hT.1)) (fun i9 d T' he p v x x' hph hb hT=>by
      rcases ltq10 (show i9<10 from(List.getElem?_eq_some_iff.1 he).1) with rfl|rfl|rfl|rfl|rfl|rfl|rfl|rfl|rfl|rfl
      all_goals first
       |(cases he;done)
       |(obtain rfl:=Sum.inr.inj (Prod.mk.inj (Option.some.inj he)).2;first|(obtain⟨q,e1,e2⟩:=hT;exact⟨q,e1,fun h=>⟨Nat.lt_of_lt_of_le (e2 h).1 hb.size,fun j u hu=>(hb.cell (by rw[zbV];exact(e2 h).1)).trans ((e2 h).2 j u hu)⟩⟩)|exact⟨hT.1,zm hT.2 hb⟩)) ?_
   intro gg z hz hgv;have hn9:NewE w3.heap.size 54 8 (i+1) (slC s (ts.take i)++(ZH k9++ZH (s k9))) 1 (gg 9) z:=hgv 9 _ _ rfl;have hz:Below w3.heap.size w3 z:=hz;have hown2:=hn9.2;obtain⟨ad2,cp2,e9⟩:=Zk hown2
   have HSL:Hid (SLr w3 s ts (i+1) (.slice ad2 (i+1) cp2) z):=by
    refine⟨?_,hz⟩;rw[e9] at hown2;rw[List.take_add_one,List.getElem?_eq_getElem hil,<-HK9.out];show z.ownsRow _ _ _ _ _ (slC s (ts.take i++[k9]));rw[zo4];exact hown2
   clear hn9 hown2 hz hgv hlook hBww ha5 hal hown9 hb39 hkl hkc hBw;simp only[yy,yw,yx,Zg,zF,List.foldl_cons,List.foldl_nil,Act.put];simp only[sx9];rw[e9];go_wp2
   go_roundw
   case rel=>exact⟨i+1,ad2,cp2,by omega,by go_num,rfl,HSL⟩
   case measure=>simp[RowKit.intOf];omega
  ·obtain rfl:i=L:=by omega
   have hd:decide ((i:Int)<(i:Int))=false:=decide_eq_false (by omega);obtain⟨hts,hrow,hb3⟩:=HX.out
   have HE:Hid (∃(v:Value) (ts:List Nat),Ending.returned (.slice ad i cp)=.returned v/\ts.length<=n/\SortedKeys (Zs s) ts/\wr.ownsRow w.heap.size 54 8 v ts.length (slC s ts)/\Below w.heap.size w wr):=by
    refine⟨_,ts,rfl,by rw[<-HLL.out];exact hlen,hts, ?_,hB3.trans (HR.out.below.mono hB3.size)⟩;have:=HR.out.own;rw[HLL.out,List.take_length] at this;rw[HLL.out];exact zc1 this (Nat.le_of_lt hs3)
   clear hts hrow hb3 HR HX;go_wp2;go_ret;exact HE.out
end
end cin
end Go.Proofs.YtohoajjdoihekaaGreatDoor
