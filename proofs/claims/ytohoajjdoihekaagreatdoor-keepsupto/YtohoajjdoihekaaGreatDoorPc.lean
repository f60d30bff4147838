import Derived.Test.YtohoajjdoihekaaGreatDoorNl
import Derived.Deep.MidRow
set_option linter.unusedVariables false
set_option linter.unusedSimpArgs false
namespace Go.Proofs.YtohoajjdoihekaaGreatDoor
namespace cin
open Go.RowKit Go.Proofs.Tryz Tryz
set_option maxRecDepth 100000
set_option maxHeartbeats 8000000
section
open Go.Maps
theorem zgO:Own 60:=fun _ _=>by kernel_rfl
def NF (base tb:Nat) (T:TS) (V:TV) (code:ByteArray) (w:World):Kp:=fun p v x=>p=1/\∃fb jd,v=.pointer (some ⟨fb,0,none⟩)/\w.heap.size<=fb/\Below w.heap.size w x/\FT base fb tb (zch tb code jd) T [fb] (.slice none 0 0) (.slice none 0 0) V x
theorem zke {t d:Nat} {v:Value} {ty:TypeId} {s:Act} {x:World} {pos:String} {af:Array Edge} {g:Option (Nat×Bool)} {K:Act->World->Prop} {Q:Exit->Act->World->Prop} (he:s.tmps.getD t undef=v) (hK:K (s.put (some d) v) x):
  Oper.wp prog ⟨some d,.assign (.tmp t),ty,pos,af,g⟩ s x K Q:=by
 have he2:s.eval (.tmp t)=v:=he;go_simp;exact hK
theorem zjP {base tb mb ab tt bl:Nat} {o:Option Nat} {T:TS} {V:TV} {code:ByteArray} {Q:Exit->Act->World->Prop} (a:Act) (w:World) (h:Tr base tb T V w) (hcs:code.size<=1000) (hlt:tb<w.heap.size) (hab:w.cell? ⟨tb,0,none⟩=some (.map (some ab))) (hto:∀x,Below w.heap.size w x->x.cell? ⟨mb,4,none⟩=some (.int .u64 (za tt 0))/\x.cell? ⟨mb,5,none⟩=some (.int .u64 (za tt 1))/\x.cell? ⟨mb,6,none⟩=some (.int .u64 (za tt 2))/\x.cell? ⟨mb,7,none⟩=some (.int .u64 (za tt 3))) (hlook:∀x,Below w.heap.size w x->(Instr.lookup 89 (.map (some ab)) (wv tt) false).run prog x=.ok (Z1 bl code (.map o)) x) (h0:Below w.heap.size w w.drew) (hsz:([7,8,9,10,11,12,13,14,15,16,5]:List Nat).all (fun d=>decide (d<a.tmps.size))=true) (c0:a.tmps.getD 0 undef=.pointer (some ⟨tb,0,none⟩)) (c3:a.tmps.getD 3 undef=.pointer (some ⟨mb,0,none⟩))
  (hok:∀(x:World) (z9:Value) (z10:Value),(PhO (fun x=>Below w.heap.size w x) w) 1 x->(NF base tb T V code w) 1 z9 x->(NF base tb T V code w) 1 z10 x->Q .normal (zF a [(7,.pointer (some ⟨tb,0,none⟩)),(8,.pointer (some ⟨tb,0,none⟩)),(9,.pointer (some ⟨tb,0,none⟩)),(10,.pointer (some ⟨tb,0,none⟩)),(11,.map (some ab)),(12,.pointer (some ⟨mb,4,none⟩)),(13,wv tt),(14,Z1 bl code (.map o)),(15,.string code),(16,z9),(5,z10)]) x):
  (Code.region 1 #[⟨some 7,.move (.tmp 0),96,"trail.go:111",#[],none⟩,⟨some 8,.move (.tmp 0),96,"trail.go:111",#[],none⟩,⟨some 9,.nilCheck (.tmp 8),0,"trail.go:111",#[⟨1,.data⟩],none⟩,⟨some 10,.fieldAddr 131 (.tmp 9) 0,0,"trail.go:111",#[⟨2,.data⟩],none⟩,⟨some 11,.load 89 (.tmp 10),89,"trail.go:111",#[⟨3,.data⟩],none⟩,⟨some 12,.fieldAddr 43 (.tmp 3) 1,0,"trail.go:111",#[],none⟩,⟨some 13,.load 24 (.tmp 12),24,"trail.go:111",#[⟨5,.data⟩],none⟩,⟨some 14,.lookup 89 (.tmp 11) (.tmp 13) false,95,"trail.go:111",#[⟨4,.data⟩,⟨6,.data⟩],none⟩,⟨some 15,.field 95 (.tmp 14) 1,9,"trail.go:111",#[⟨7,.data⟩],none⟩,⟨some 16,.call ⟨.value (.func 60),#[.tmp 7,.tmp 15],#[96,9]⟩,132,"trail.go:111",#[⟨0,.data⟩,⟨8,.data⟩],none⟩,⟨some 5,.assign (.tmp 16),132,"trail.go:111",#[⟨9,.data⟩,⟨9,.chain⟩,⟨0,.phase⟩,⟨1,.phase⟩,⟨2,.phase⟩,⟨3,.phase⟩,⟨4,.phase⟩,⟨5,.phase⟩,⟨6,.phase⟩,⟨7,.phase⟩,⟨8,.phase⟩,⟨9,.phase⟩],none⟩] true).wp prog Q a w:=by
 refine ZQ (PhO (fun x=>Below w.heap.size w x) w) (fun _ _ _=>True) [(0,.pointer (some ⟨tb,0,none⟩)),(3,.pointer (some ⟨mb,0,none⟩))] [(some 7,.v (.pointer (some ⟨tb,0,none⟩))),(some 8,.v (.pointer (some ⟨tb,0,none⟩))),(some 9,.v (.pointer (some ⟨tb,0,none⟩))),(some 10,.v (.pointer (some ⟨tb,0,none⟩))),(some 11,.v (.map (some ab))),(some 12,.v (.pointer (some ⟨mb,4,none⟩))),(some 13,.v (wv tt)),(some 14,.v (Z1 bl code (.map o))),(some 15,.v (.string code)),(some 16,.l (NF base tb T V code w)),(some 5,.l (NF base tb T V code w))] [9] [4,6,7,8,10] (by kernel_rfl) hsz (Zi c0 (Zi c3 rfl)) (by kernel_rfl) h0
  (zf _ _ _ rfl rfl (fun s x hph hdf hv hl K hK=>by
   have hph:Below w.heap.size w x:=hph;refine ZL zgO (ev2 (hv 7 _ rfl) (hv 15 _ rfl)) (zcD code hcs x (h.below hph)) ?_;rintro e y ⟨fb,jd,rfl,h1,h2,h3⟩;have hB:Below w.heap.size w y:=hph.trans (h2.mono hph.size);exact⟨_,rfl,hK _ y hB trivial nn1 ⟨rfl,fb,jd,rfl,Nat.le_trans hph.size h1,hB,h3⟩⟩
  )
  True.intro)
  (zf _ _ _ rfl rfl (fun k s x hk hlo hhi hph hdf hv hl K hK=>by
   have k0:x.cell? ⟨tb,0,none⟩=some (.map (some ab)):=((Yj hph (by have:=hhi 0 9 rfl (by kernel_rfl);omega)).cell hlt).trans hab;exact zv (fun w=>by kernel_rfl) (hv 10 _ rfl) k0 (hK _ x rfl nn1 rfl)
  )
  (zf _ _ _ rfl rfl (fun k s x hk hlo hhi hph hdf hv hl K hK=>by
   obtain⟨y0,y1,y2,y3⟩:=hto x (Yj hph (by have:=hhi 0 9 rfl (by kernel_rfl);omega));exact zB (n:=tt) (hv 12 _ rfl) y0 y1 y2 y3 (hK _ x rfl nn1 rfl)
  )
  (zf _ _ _ rfl rfl (fun k s x hk hlo hhi hph hdf hv hl K hK=>by
   have hk:=hlook x (Yj hph (by have:=hhi 0 9 rfl (by kernel_rfl);omega));have e11:=hv 11 _ rfl;have f11:s.eval (.tmp 11)=_:=e11;have e13:=hv 13 _ rfl;have f13:s.eval (.tmp 13)=_:=e13;clear hv hl hlo hhi hdf;go_simp;exact(hK _ x rfl nn1 rfl)
  )
  (zf _ _ _ rfl rfl (fun k s x hk hlo hhi hph hdf hv hl K hK=>by
   have hk:=acc_f1 bl code o x;have e14:=hv 14 _ rfl;have f14:s.eval (.tmp 14)=_:=e14;clear hv hl hlo hhi hdf;go_simp;exact(hK _ x rfl nn1 rfl)
  )
  (zf _ _ _ rfl rfl (fun k s x hk hlo hhi hph hdf hv hl K hK=>by
   exact zke rfl (hK _ x rfl nn1 (hl 16 _ rfl))
  )
  True.intro)))))
  (ziH (And.intro (fun p v x x' hne hpl hph hrel ht=>by
   exact absurd ht.1 (by simp at hpl;omega))
  (And.intro (fun p v x x' hne hpl hph hrel ht=>by
   exact absurd ht.1 (by simp at hpl;omega))
  trivial))) ?_
 intro g x hph hT;exact hok x (g 9) (g 10) hph (hT 9 _ _ rfl) (hT 10 _ _ rfl)
end
section
open Go.Maps
theorem Fr.own' {base fb:Nat} {F F':Fz} {S:List Nat} {sv mv:Value} {w w':World} (h:Fr base fb F S sv mv w) (hst:F'.st=F.st) (hme:F'.mem=F.mem) (hjd:F'.jd=F.jd) (hcd:F'.code=F.code) (hg:F'.gas<=100000) (hr:w'.rowIs fb 137 27 (F'.cell sv mv)) (hk:Kb [fb] w w'):Fr base fb F' S sv mv w':=
 ⟨hr,by rw[hst];exact hk.own h.st (fun k hk=>by simpa using h.fs k hk),by rw[hme];exact hk.own h.me (fun k hk=>by simpa using h.fm k hk),h.foot,by rw[hst];exact h.stl,by rw[hme];exact h.mel,hg,Nat.le_trans h.hb hk.size,zcA h.zr hk (fun hm=>h.no0 (by rw[h.foot];simp at hm;simp[hm])) h.hs,h.hb1,h.hfb,by rw[hme];exact h.m32,by rw[hjd,hcd];exact h.jr.kb hk (fun g N f hr hm=>h.bno g N f hr (by rw[h.foot];simp at hm;simp[hm]))⟩
theorem FT.own {base fb tb:Nat} {F F':Fz} {T:TS} {S:List Nat} {sv mv:Value} {V:TV} {w w':World} (h:FT base fb tb F T S sv mv V w) (hst:F'.st=F.st) (hme:F'.mem=F.mem) (hjd:F'.jd=F.jd) (hcd:F'.code=F.code) (htr:F'.trail=F.trail) (hg:F'.gas<=100000) (hr:w'.rowIs fb 137 27 (F'.cell sv mv)) (hk:Kb [fb] w w'):FT base fb tb F' T S sv mv V w':=by
 have hfb:fb∈S:=by rw[h.fr.foot];simp
 refine⟨h.fr.own' hst hme hjd hcd hg hr hk,h.tr.kb hk (fun k hk=> ?_) (fun e=>h.fr.no0 (by simp at e;rw[e];exact hfb)),htr.trans h.ptr,h.dis⟩;obtain rfl:k=fb:=by simpa using hk
 exact h.dis _ hfb
def zje (x:World) (b o n:Nat):World:=(((x.setCell ⟨b,o,none⟩ (.int .u64 (za n 0))).setCell ⟨b,o+1,none⟩ (.int .u64 (za n 1))).setCell ⟨b,o+2,none⟩ (.int .u64 (za n 2))).setCell ⟨b,o+3,none⟩ (.int .u64 (za n 3))
theorem Zb (x:World) (b o n:Nat):Kb [b] x (zje x b o n):=((((Kb.refl [b] x).setCell (Or.inl (by simp)) _).setCell (Or.inl (by simp)) _).setCell (Or.inl (by simp)) _).setCell (Or.inl (by simp)) _
theorem zmu {x:World} {b T N o n:Nat} {f:Nat->Value} (h:x.rowIs b T N f):(zje x b o n).rowIs b T N (fun i=>if i=o+3 then .int .u64 (za n 3) else if i=o+2 then .int .u64 (za n 2) else if i=o+1 then .int .u64 (za n 1) else if i=o then .int .u64 (za n 0) else f i):=
 (((h.set o (.int .u64 (za n 0))).set (o+1) (.int .u64 (za n 1))).set (o+2) (.int .u64 (za n 2))).set (o+3) (.int .u64 (za n 3))
section
variable {s:Act} {x:World} {pos:String} {af:Array Edge} {g:Option (Nat×Bool)} {K:Act->World->Prop} {Q:Exit->Act->World->Prop}
theorem Z2 {t1 t2 b n T N:Nat} {f:Nat->Value} {ty:TypeId} (o:Nat) (h1:s.tmps.getD t1 undef=.pointer (some ⟨b,o,none⟩)) (h2:s.tmps.getD t2 undef=wv n) (hr:x.rowIs b T N f) (ho:o+3<N) (hK:K (s.put none undef) (zje x b o n)):
  Oper.wp prog ⟨none,.store 24 (.tmp t1) (.tmp t2),ty,pos,af,g⟩ s x K Q:=by
 have e1:s.eval (.tmp t1)=.pointer (some ⟨b,o,none⟩):=h1;have e2:s.eval (.tmp t2)=wv n:=h2;have k0:=hr.cell (i:=o) (by omega);have k1:=hr.cell (i:=o+1) (by omega);have k2:=hr.cell (i:=o+2) (by omega);have k3:=hr.cell (i:=o+3) (by omega);have f0:=hr.frozen o;have f1:=hr.frozen (o+1);have f2:=hr.frozen (o+2);have f3:=hr.frozen (o+3);unfold zje at hK;clear hr;go_simp;exact hK
theorem zl3 {t1 t2 b o:Nat} {v:ByteArray} {u:Value} {ty:TypeId} (h1:s.tmps.getD t1 undef=.pointer (some ⟨b,o,none⟩)) (h2:s.tmps.getD t2 undef=.string v) (hc:x.cell? ⟨b,o,none⟩=some u) (hf:x.frozen? ⟨b,o,none⟩=false) (hK:K (s.put none undef) (x.setCell ⟨b,o,none⟩ (.string v))):
  Oper.wp prog ⟨none,.store 9 (.tmp t1) (.tmp t2),ty,pos,af,g⟩ s x K Q:=by
 have e1:s.eval (.tmp t1)=.pointer (some ⟨b,o,none⟩):=h1;have e2:s.eval (.tmp t2)=.string v:=h2;go_simp;exact hK
theorem zdr {t1 t2 b o:Nat} {v:Int} {u:Value} {ty:TypeId} (h1:s.tmps.getD t1 undef=.pointer (some ⟨b,o,none⟩)) (h2:s.tmps.getD t2 undef=.int .i64 v) (hc:x.cell? ⟨b,o,none⟩=some u) (hf:x.frozen? ⟨b,o,none⟩=false) (hK:K (s.put none undef) (x.setCell ⟨b,o,none⟩ (.int .i64 v))):
  Oper.wp prog ⟨none,.store 3 (.tmp t1) (.tmp t2),ty,pos,af,g⟩ s x K Q:=by
 have e1:s.eval (.tmp t1)=.pointer (some ⟨b,o,none⟩):=h1;have e2:s.eval (.tmp t2)=.int .i64 v:=h2;go_simp;exact hK
end
theorem zbH (F:Fz) (sv mv:Value) (n:Nat):(fun i=>if i=3+3 then .int .u64 (za n 3) else if i=3+2 then .int .u64 (za n 2) else if i=3+1 then .int .u64 (za n 1) else if i=3 then .int .u64 (za n 0) else F.cell sv mv i)=({F with self:=n}:Fz).cell sv mv:=by
 funext i;by_cases h3:i=3+3
 ·subst h3;rfl
 by_cases h2:i=3+2
 ·subst h2;rfl
 by_cases h1:i=3+1
 ·subst h1;rfl
 by_cases h0:i=3
 ·subst h0;rfl
 rw[if_neg h3,if_neg h2,if_neg h1,if_neg h0];have h0':¬i=3+0:=h0;simp only[Fz.cell,if_neg h3,if_neg h2,if_neg h1,if_neg h0']
theorem zat (F:Fz) (sv mv:Value) (n:Nat):(fun i=>if i=7+3 then .int .u64 (za n 3) else if i=7+2 then .int .u64 (za n 2) else if i=7+1 then .int .u64 (za n 1) else if i=7 then .int .u64 (za n 0) else F.cell sv mv i)=({F with caller:=n}:Fz).cell sv mv:=by
 funext i;by_cases h3:i=7+3
 ·subst h3;rfl
 by_cases h2:i=7+2
 ·subst h2;rfl
 by_cases h1:i=7+1
 ·subst h1;rfl
 by_cases h0:i=7
 ·subst h0;rfl
 rw[if_neg h3,if_neg h2,if_neg h1,if_neg h0];have h0':¬i=7+0:=h0;simp only[Fz.cell,if_neg h3,if_neg h2,if_neg h1,if_neg h0']
theorem zbb (F:Fz) (sv mv:Value) (n:Nat):(fun i=>if i=11+3 then .int .u64 (za n 3) else if i=11+2 then .int .u64 (za n 2) else if i=11+1 then .int .u64 (za n 1) else if i=11 then .int .u64 (za n 0) else F.cell sv mv i)=({F with value:=n}:Fz).cell sv mv:=by
 funext i;by_cases h3:i=11+3
 ·subst h3;rfl
 by_cases h2:i=11+2
 ·subst h2;rfl
 by_cases h1:i=11+1
 ·subst h1;rfl
 by_cases h0:i=11
 ·subst h0;rfl
 rw[if_neg h3,if_neg h2,if_neg h1,if_neg h0];have h0':¬i=11+0:=h0;simp only[Fz.cell,if_neg h3,if_neg h2,if_neg h1,if_neg h0']
theorem zgg (F:Fz) (sv mv:Value) (v:ByteArray):(fun i=>if i=15 then .string v else F.cell sv mv i)=({F with data:=v}:Fz).cell sv mv:=by
 funext i;by_cases h:i=15
 ·subst h;rfl
 ·simp only[Fz.cell,if_neg h]
theorem ze9 (F:Fz) (sv mv:Value) (n:Nat):(fun i=>if i=18 then .int .i64 (n:Int) else F.cell sv mv i)=({F with depth:=n}:Fz).cell sv mv:=by
 funext i;by_cases h:i=18
 ·subst h;rfl
 ·simp only[Fz.cell,if_neg h]
theorem Yn {w:World} {fb T N:Nat} {f f':Nat->Value} {o:Nat} {v:Value} (h:w.rowIs fb T N f) (e:(fun i=>if i=o then v else f i)=f'):(w.setCell ⟨fb,o,none⟩ v).rowIs fb T N f':=by
 rw[<-e];exact h.set o v
theorem yn {w:World} {fb T N:Nat} {f f':Nat->Value} {o n:Nat} (h:w.rowIs fb T N f) (e:(fun i=>if i=o+3 then .int .u64 (za n 3) else if i=o+2 then .int .u64 (za n 2) else if i=o+1 then .int .u64 (za n 1) else if i=o then .int .u64 (za n 0) else f i)=f'):(zje w fb o n).rowIs fb T N f':=by
 rw[<-e];exact zmu h
def PhD (base fb tb:Nat) (G:Nat->Fz) (T:TS) (S:List Nat) (sv mv:Value) (V:TV) (w:World) (p:Nat) (x:World):Prop:=FT base fb tb (G p) T S sv mv V x/\Kb [fb] w x
theorem zkj {base fb tb mb fr tt val:Nat} {F:Fz} {T:TS} {S:List Nat} {sv mv:Value} {V:TV} {Q:Exit->Act->World->Prop} (a:Act) (w:World) (h:FT base fb tb F T S sv mv V w) (htt:∀x,Kb [fb] w x->x.cell? ⟨mb,4,none⟩=some (.int .u64 (za tt 0))/\x.cell? ⟨mb,5,none⟩=some (.int .u64 (za tt 1))/\x.cell? ⟨mb,6,none⟩=some (.int .u64 (za tt 2))/\x.cell? ⟨mb,7,none⟩=some (.int .u64 (za tt 3))) (hfr:∀x,Kb [fb] w x->x.cell? ⟨mb,0,none⟩=some (.int .u64 (za fr 0))/\x.cell? ⟨mb,1,none⟩=some (.int .u64 (za fr 1))/\x.cell? ⟨mb,2,none⟩=some (.int .u64 (za fr 2))/\x.cell? ⟨mb,3,none⟩=some (.int .u64 (za fr 3))) (hval:∀x,Kb [fb] w x->x.cell? ⟨mb,8,none⟩=some (.int .u64 (za val 0))/\x.cell? ⟨mb,9,none⟩=some (.int .u64 (za val 1))/\x.cell? ⟨mb,10,none⟩=some (.int .u64 (za val 2))/\x.cell? ⟨mb,11,none⟩=some (.int .u64 (za val 3))) (h0:PhD base fb tb (fun p=>match p with|0=>F|1=>{F with self:=tt}|2=>{F with self:=tt,caller:=fr}|_=>{F with self:=tt,caller:=fr,value:=val}) T S sv mv V w 0 w.drew) (hsz:([20,21,22,23,24,25,26,27,28,29,30,31,32,33,34]:List Nat).all (fun d=>decide (d<a.tmps.size))=true) (c3:a.tmps.getD 3 undef=.pointer (some ⟨mb,0,none⟩)) (c5:a.tmps.getD 5 undef=.pointer (some ⟨fb,0,none⟩))
  (hok:∀(x:World),(PhD base fb tb (fun p=>match p with|0=>F|1=>{F with self:=tt}|2=>{F with self:=tt,caller:=fr}|_=>{F with self:=tt,caller:=fr,value:=val}) T S sv mv V w) 3 x->Q .normal (zF a [(20,.pointer (some ⟨fb,0,none⟩)),(21,.pointer (some ⟨fb,0,none⟩)),(22,.pointer (some ⟨fb,0,none⟩)),(23,.pointer (some ⟨mb,4,none⟩)),(24,wv tt),(25,.pointer (some ⟨mb,0,none⟩)),(26,wv fr),(27,.pointer (some ⟨mb,8,none⟩)),(28,wv val),(29,.pointer (some ⟨fb,0,none⟩)),(30,.pointer (some ⟨fb,3,none⟩)),(31,.pointer (some ⟨fb,0,none⟩)),(32,.pointer (some ⟨fb,7,none⟩)),(33,.pointer (some ⟨fb,0,none⟩)),(34,.pointer (some ⟨fb,11,none⟩))]) x):
  (Code.region 3 #[⟨some 20,.move (.tmp 5),132,"trail.go:113",#[],none⟩,⟨some 21,.move (.tmp 5),132,"trail.go:113",#[⟨11,.gcOnly .lateStores⟩],none⟩,⟨some 22,.move (.tmp 5),132,"trail.go:113",#[⟨14,.gcOnly .lateStores⟩],none⟩,⟨some 23,.fieldAddr 43 (.tmp 3) 1,0,"trail.go:113",#[],none⟩,⟨some 24,.load 24 (.tmp 23),24,"trail.go:113",#[⟨3,.data⟩],none⟩,⟨some 25,.fieldAddr 43 (.tmp 3) 0,0,"trail.go:113",#[⟨11,.gcOnly .lateStores⟩],none⟩,⟨some 26,.load 24 (.tmp 25),24,"trail.go:113",#[⟨5,.data⟩,⟨11,.gcOnly .lateStores⟩],none⟩,⟨some 27,.fieldAddr 43 (.tmp 3) 2,0,"trail.go:113",#[⟨14,.gcOnly .lateStores⟩],none⟩,⟨some 28,.load 24 (.tmp 27),24,"trail.go:113",#[⟨7,.data⟩,⟨14,.gcOnly .lateStores⟩],none⟩,⟨some 29,.nilCheck (.tmp 20),0,"trail.go:113",#[⟨0,.data⟩,⟨0,.phase⟩,⟨1,.textOnly .lateStores⟩,⟨2,.textOnly .lateStores⟩,⟨3,.phase⟩,⟨4,.phase⟩,⟨5,.textOnly .lateStores⟩,⟨6,.textOnly .lateStores⟩,⟨7,.textOnly .lateStores⟩,⟨8,.textOnly .lateStores⟩],none⟩,⟨some 30,.fieldAddr 137 (.tmp 29) 3,0,"trail.go:113",#[⟨9,.data⟩,⟨0,.phase⟩,⟨1,.textOnly .lateStores⟩,⟨2,.textOnly .lateStores⟩,⟨3,.phase⟩,⟨4,.phase⟩,⟨5,.textOnly .lateStores⟩,⟨6,.textOnly .lateStores⟩,⟨7,.textOnly .lateStores⟩,⟨8,.textOnly .lateStores⟩],none⟩,⟨none,.store 24 (.tmp 30) (.tmp 24),0,"trail.go:113",#[⟨10,.data⟩,⟨4,.data⟩,⟨0,.phase⟩,⟨1,.textOnly .lateStores⟩,⟨2,.textOnly .lateStores⟩,⟨3,.phase⟩,⟨4,.phase⟩,⟨5,.textOnly .lateStores⟩,⟨6,.textOnly .lateStores⟩,⟨7,.textOnly .lateStores⟩,⟨8,.textOnly .lateStores⟩],none⟩,⟨some 31,.nilCheck (.tmp 21),0,"trail.go:113",#[⟨1,.data⟩,⟨0,.phase⟩,⟨1,.phase⟩,⟨2,.textOnly .lateStores⟩,⟨3,.phase⟩,⟨4,.phase⟩,⟨5,.phase⟩,⟨6,.phase⟩,⟨7,.textOnly .lateStores⟩,⟨8,.textOnly .lateStores⟩,⟨9,.phase⟩,⟨10,.phase⟩,⟨11,.phase⟩],none⟩,⟨some 32,.fieldAddr 137 (.tmp 31) 4,0,"trail.go:113",#[⟨12,.data⟩,⟨0,.phase⟩,⟨1,.phase⟩,⟨2,.textOnly .lateStores⟩,⟨3,.phase⟩,⟨4,.phase⟩,⟨5,.phase⟩,⟨6,.phase⟩,⟨7,.textOnly .lateStores⟩,⟨8,.textOnly .lateStores⟩,⟨9,.phase⟩,⟨10,.phase⟩,⟨11,.phase⟩],none⟩,⟨none,.store 24 (.tmp 32) (.tmp 26),0,"trail.go:113",#[⟨13,.data⟩,⟨6,.data⟩,⟨11,.chain⟩,⟨0,.phase⟩,⟨1,.phase⟩,⟨2,.textOnly .lateStores⟩,⟨3,.phase⟩,⟨4,.phase⟩,⟨5,.phase⟩,⟨6,.phase⟩,⟨7,.textOnly .lateStores⟩,⟨8,.textOnly .lateStores⟩,⟨9,.phase⟩,⟨10,.phase⟩,⟨11,.phase⟩],none⟩,⟨some 33,.nilCheck (.tmp 22),0,"trail.go:113",#[⟨2,.data⟩,⟨0,.phase⟩,⟨1,.phase⟩,⟨2,.phase⟩,⟨3,.phase⟩,⟨4,.phase⟩,⟨5,.phase⟩,⟨6,.phase⟩,⟨7,.phase⟩,⟨8,.phase⟩,⟨9,.phase⟩,⟨10,.phase⟩,⟨11,.phase⟩,⟨12,.phase⟩,⟨13,.phase⟩,⟨14,.phase⟩],none⟩,⟨some 34,.fieldAddr 137 (.tmp 33) 5,0,"trail.go:113",#[⟨15,.data⟩,⟨0,.phase⟩,⟨1,.phase⟩,⟨2,.phase⟩,⟨3,.phase⟩,⟨4,.phase⟩,⟨5,.phase⟩,⟨6,.phase⟩,⟨7,.phase⟩,⟨8,.phase⟩,⟨9,.phase⟩,⟨10,.phase⟩,⟨11,.phase⟩,⟨12,.phase⟩,⟨13,.phase⟩,⟨14,.phase⟩],none⟩,⟨none,.store 24 (.tmp 34) (.tmp 28),0,"trail.go:113",#[⟨16,.data⟩,⟨8,.data⟩,⟨14,.chain⟩,⟨0,.phase⟩,⟨1,.phase⟩,⟨2,.phase⟩,⟨3,.phase⟩,⟨4,.phase⟩,⟨5,.phase⟩,⟨6,.phase⟩,⟨7,.phase⟩,⟨8,.phase⟩,⟨9,.phase⟩,⟨10,.phase⟩,⟨11,.phase⟩,⟨12,.phase⟩,⟨13,.phase⟩,⟨14,.phase⟩],none⟩] true).wp prog Q a w:=by
 refine ZQ (PhD base fb tb (fun p=>match p with|0=>F|1=>{F with self:=tt}|2=>{F with self:=tt,caller:=fr}|_=>{F with self:=tt,caller:=fr,value:=val}) T S sv mv V w) (fun _ _ _=>True) [(3,.pointer (some ⟨mb,0,none⟩)),(5,.pointer (some ⟨fb,0,none⟩))] [(some 20,.v (.pointer (some ⟨fb,0,none⟩))),(some 21,.v (.pointer (some ⟨fb,0,none⟩))),(some 22,.v (.pointer (some ⟨fb,0,none⟩))),(some 23,.v (.pointer (some ⟨mb,4,none⟩))),(some 24,.v (wv tt)),(some 25,.v (.pointer (some ⟨mb,0,none⟩))),(some 26,.v (wv fr)),(some 27,.v (.pointer (some ⟨mb,8,none⟩))),(some 28,.v (wv val)),(some 29,.v (.pointer (some ⟨fb,0,none⟩))),(some 30,.v (.pointer (some ⟨fb,3,none⟩))),(none,.v undef),(some 31,.v (.pointer (some ⟨fb,0,none⟩))),(some 32,.v (.pointer (some ⟨fb,7,none⟩))),(none,.v undef),(some 33,.v (.pointer (some ⟨fb,0,none⟩))),(some 34,.v (.pointer (some ⟨fb,11,none⟩))),(none,.v undef)] [11,14,17] [4,6,8] (by kernel_rfl) hsz (Zi c3 (Zi c5 rfl)) (by kernel_rfl) h0
  (zf _ _ _ rfl rfl (fun s x hph hdf hv hl K hK=>by
   have hr:=hph.1.fr.row;refine Z2 3 (hv 30 _ rfl) (hv 24 _ rfl) hr (by decide) (hK undef _ ⟨hph.1.own rfl rfl rfl rfl rfl hph.1.fr.gal ?_ (Zb _ _ _ _),hph.2.trans (Zb _ _ _ _) (fun i hi=>Or.inl hi)⟩ trivial (fun _=>rfl) rfl);exact yn hr (zbH _ sv mv _)
  )
  (zf _ _ _ rfl rfl (fun s x hph hdf hv hl K hK=>by
   have hr:=hph.1.fr.row;refine Z2 7 (hv 32 _ rfl) (hv 26 _ rfl) hr (by decide) (hK undef _ ⟨hph.1.own rfl rfl rfl rfl rfl hph.1.fr.gal ?_ (Zb _ _ _ _),hph.2.trans (Zb _ _ _ _) (fun i hi=>Or.inl hi)⟩ trivial (fun _=>rfl) rfl);exact yn hr (zat _ sv mv _)
  )
  (zf _ _ _ rfl rfl (fun s x hph hdf hv hl K hK=>by
   have hr:=hph.1.fr.row;refine Z2 11 (hv 34 _ rfl) (hv 28 _ rfl) hr (by decide) (hK undef _ ⟨hph.1.own rfl rfl rfl rfl rfl hph.1.fr.gal ?_ (Zb _ _ _ _),hph.2.trans (Zb _ _ _ _) (fun i hi=>Or.inl hi)⟩ trivial (fun _=>rfl) rfl);exact yn hr (zbb _ sv mv _)
  )
  True.intro)))
  (zf _ _ _ rfl rfl (fun k s x hk hlo hhi hph hdf hv hl K hK=>by
   obtain⟨y0,y1,y2,y3⟩:=htt x hph.2;exact zB (n:=tt) (hv 23 _ rfl) y0 y1 y2 y3 (hK _ x rfl nn1 rfl)
  )
  (zf _ _ _ rfl rfl (fun k s x hk hlo hhi hph hdf hv hl K hK=>by
   obtain⟨y0,y1,y2,y3⟩:=hfr x hph.2;exact zB (n:=fr) (hv 25 _ rfl) y0 y1 y2 y3 (hK _ x rfl nn1 rfl)
  )
  (zf _ _ _ rfl rfl (fun k s x hk hlo hhi hph hdf hv hl K hK=>by
   obtain⟨y0,y1,y2,y3⟩:=hval x hph.2;exact zB (n:=val) (hv 27 _ rfl) y0 y1 y2 y3 (hK _ x rfl nn1 rfl)
  )
  True.intro)))
  (fun _ _ _ h=>(zo rfl h).elim) ?_
 intro g x hph hT;exact hok x hph
theorem zj5 {base fb tb mb gs:Nat} {F:Fz} {data:ByteArray} {T:TS} {S:List Nat} {sv mv:Value} {V:TV} {Q:Exit->Act->World->Prop} (a:Act) (w:World) (h:FT base fb tb F T S sv mv V w) (hgl:gs<=100000) (hdata:∀x,Kb [fb] w x->x.cell? ⟨mb,12,none⟩=some (.string data)) (hgs:∀x,Kb [fb] w x->x.cell? ⟨mb,13,none⟩=some (.int .i64 (gs:Int))) (h0:PhD base fb tb (fun p=>match p with|0=>F|1=>{F with data:=data}|_=>{F with data:=data,gas:=gs}) T S sv mv V w 0 w.drew) (hsz:([35,36,37,38,39,40,41,42,43,44]:List Nat).all (fun d=>decide (d<a.tmps.size))=true) (c3:a.tmps.getD 3 undef=.pointer (some ⟨mb,0,none⟩)) (c5:a.tmps.getD 5 undef=.pointer (some ⟨fb,0,none⟩))
  (hok:∀(x:World),(PhD base fb tb (fun p=>match p with|0=>F|1=>{F with data:=data}|_=>{F with data:=data,gas:=gs}) T S sv mv V w) 2 x->Q .normal (zF a [(35,.pointer (some ⟨fb,0,none⟩)),(36,.pointer (some ⟨fb,0,none⟩)),(37,.pointer (some ⟨mb,12,none⟩)),(38,.string data),(39,.pointer (some ⟨mb,13,none⟩)),(40,.int .i64 (gs:Int)),(41,.pointer (some ⟨fb,0,none⟩)),(42,.pointer (some ⟨fb,15,none⟩)),(43,.pointer (some ⟨fb,0,none⟩)),(44,.pointer (some ⟨fb,16,none⟩))]) x):
  (Code.region 4 #[⟨some 35,.move (.tmp 5),132,"trail.go:114",#[],none⟩,⟨some 36,.move (.tmp 5),132,"trail.go:114",#[⟨8,.gcOnly .lateStores⟩],none⟩,⟨some 37,.fieldAddr 43 (.tmp 3) 3,0,"trail.go:114",#[],none⟩,⟨some 38,.load 9 (.tmp 37),9,"trail.go:114",#[⟨2,.data⟩],none⟩,⟨some 39,.fieldAddr 43 (.tmp 3) 4,0,"trail.go:114",#[⟨8,.gcOnly .lateStores⟩],none⟩,⟨some 40,.load 3 (.tmp 39),3,"trail.go:114",#[⟨4,.data⟩,⟨8,.gcOnly .lateStores⟩],none⟩,⟨some 41,.nilCheck (.tmp 35),0,"trail.go:114",#[⟨0,.data⟩,⟨0,.phase⟩,⟨1,.textOnly .lateStores⟩,⟨2,.phase⟩,⟨3,.phase⟩,⟨4,.textOnly .lateStores⟩,⟨5,.textOnly .lateStores⟩],none⟩,⟨some 42,.fieldAddr 137 (.tmp 41) 6,0,"trail.go:114",#[⟨6,.data⟩,⟨0,.phase⟩,⟨1,.textOnly .lateStores⟩,⟨2,.phase⟩,⟨3,.phase⟩,⟨4,.textOnly .lateStores⟩,⟨5,.textOnly .lateStores⟩],none⟩,⟨none,.store 9 (.tmp 42) (.tmp 38),0,"trail.go:114",#[⟨7,.data⟩,⟨3,.data⟩,⟨0,.phase⟩,⟨1,.textOnly .lateStores⟩,⟨2,.phase⟩,⟨3,.phase⟩,⟨4,.textOnly .lateStores⟩,⟨5,.textOnly .lateStores⟩],none⟩,⟨some 43,.nilCheck (.tmp 36),0,"trail.go:114",#[⟨1,.data⟩,⟨0,.phase⟩,⟨1,.phase⟩,⟨2,.phase⟩,⟨3,.phase⟩,⟨4,.phase⟩,⟨5,.phase⟩,⟨6,.phase⟩,⟨7,.phase⟩,⟨8,.phase⟩],none⟩,⟨some 44,.fieldAddr 137 (.tmp 43) 7,0,"trail.go:114",#[⟨9,.data⟩,⟨0,.phase⟩,⟨1,.phase⟩,⟨2,.phase⟩,⟨3,.phase⟩,⟨4,.phase⟩,⟨5,.phase⟩,⟨6,.phase⟩,⟨7,.phase⟩,⟨8,.phase⟩],none⟩,⟨none,.store 3 (.tmp 44) (.tmp 40),0,"trail.go:114",#[⟨10,.data⟩,⟨5,.data⟩,⟨8,.chain⟩,⟨0,.phase⟩,⟨1,.phase⟩,⟨2,.phase⟩,⟨3,.phase⟩,⟨4,.phase⟩,⟨5,.phase⟩,⟨6,.phase⟩,⟨7,.phase⟩,⟨8,.phase⟩],none⟩] true).wp prog Q a w:=by
 refine ZQ (PhD base fb tb (fun p=>match p with|0=>F|1=>{F with data:=data}|_=>{F with data:=data,gas:=gs}) T S sv mv V w) (fun _ _ _=>True) [(3,.pointer (some ⟨mb,0,none⟩)),(5,.pointer (some ⟨fb,0,none⟩))] [(some 35,.v (.pointer (some ⟨fb,0,none⟩))),(some 36,.v (.pointer (some ⟨fb,0,none⟩))),(some 37,.v (.pointer (some ⟨mb,12,none⟩))),(some 38,.v (.string data)),(some 39,.v (.pointer (some ⟨mb,13,none⟩))),(some 40,.v (.int .i64 (gs:Int))),(some 41,.v (.pointer (some ⟨fb,0,none⟩))),(some 42,.v (.pointer (some ⟨fb,15,none⟩))),(none,.v undef),(some 43,.v (.pointer (some ⟨fb,0,none⟩))),(some 44,.v (.pointer (some ⟨fb,16,none⟩))),(none,.v undef)] [8,11] [3,5] (by kernel_rfl) hsz (Zi c3 (Zi c5 rfl)) (by kernel_rfl) h0
  (zf _ _ _ rfl rfl (fun s x hph hdf hv hl K hK=>by
   have hr:=hph.1.fr.row;exact zl3 (hv 42 _ rfl) (hv 38 _ rfl) (hr.cell (i:=15) (by decide)) (hr.frozen _) (hK undef _ ⟨hph.1.own rfl rfl rfl rfl rfl hph.1.fr.gal (Yn hr (zgg _ sv mv data)) ((Kb.refl [fb] x).setCell (Or.inl (by simp)) _),hph.2.setCell (Or.inl (by simp)) _⟩ trivial (fun _=>rfl) rfl)
  )
  (zf _ _ _ rfl rfl (fun s x hph hdf hv hl K hK=>by
   have hr:=hph.1.fr.row;exact zdr (hv 44 _ rfl) (hv 40 _ rfl) (hr.cell (i:=16) (by decide)) (hr.frozen _) (hK undef _ ⟨hph.1.own rfl rfl rfl rfl rfl hgl (Yn hr (zak _ sv mv gs)) ((Kb.refl [fb] x).setCell (Or.inl (by simp)) _),hph.2.setCell (Or.inl (by simp)) _⟩ trivial (fun _=>rfl) rfl)
  )
  True.intro))
  (zf _ _ _ rfl rfl (fun k s x hk hlo hhi hph hdf hv hl K hK=>by
   have k0:=hdata x hph.2;exact zv (fun w=>by kernel_rfl) (hv 37 _ rfl) k0 (hK _ x rfl nn1 rfl)
  )
  (zf _ _ _ rfl rfl (fun k s x hk hlo hhi hph hdf hv hl K hK=>by
   have k0:=hgs x hph.2;exact zv (fun w=>by kernel_rfl) (hv 39 _ rfl) k0 (hK _ x rfl nn1 rfl)
  )
  True.intro))
  (fun _ _ _ h=>(zo rfl h).elim) ?_
 intro g x hph hT;exact hok x hph
end
section
open Go.Maps
abbrev msgC (fr tt val:Nat) (data:ByteArray) (gas:Nat):Array Value:=#[.int .u64 (za fr 0),.int .u64 (za fr 1),.int .u64 (za fr 2),.int .u64 (za fr 3),.int .u64 (za tt 0),.int .u64 (za tt 1),.int .u64 (za tt 2),.int .u64 (za tt 3),.int .u64 (za val 0),.int .u64 (za val 1),.int .u64 (za val 2),.int .u64 (za val 3),.string data,.int .i64 (gas:Int)]
abbrev msgV (fr tt val:Nat) (data:ByteArray) (gas:Nat):Value:=.agg (msgC fr tt val data gas)
abbrev d2 (w:World) (fr tt val:Nat) (data:ByteArray) (gas:Nat):World:=(w.alloc (.cells (msgC fr tt val data gas) 43)).alloc rc0
def MsgAt (x:World) (b fr tt val:Nat) (data:ByteArray) (gas:Nat):Prop:=x.rowIs b 43 14 (fun i=>(msgC fr tt val data gas).getD i undef)
theorem zlB (w:World) (fr tt val:Nat) (data:ByteArray) (gas:Nat):MsgAt (w.alloc (.cells (msgC fr tt val data gas) 43)) w.heap.size fr tt val data gas:=by
 refine World.rowIs_alloc w _ _ _ fun i hi=> ?_
 rw[Array.getD_eq_getD_getElem?,Array.getElem?_eq_getElem hi];rfl
def msgF (tb:Nat) (code:ByteArray) (jd:Value) (fr tt val:Nat) (data:ByteArray) (gas:Nat):Fz:={zch tb code jd with depth:=1,self:=tt,caller:=fr,value:=val,data:=data,gas:=gas}
end
section
open Go.Maps
def NFk (base tb:Nat) (T:TS) (V:TV) (code:ByteArray) (w0:World):Kp:=fun _ v x=>∃gb jd,v=.pointer (some ⟨gb,0,none⟩)/\w0.heap.size<=gb/\FT base gb tb (zch tb code jd) T [gb] noL noL V x
theorem NFk.below {base tb:Nat} {T:TS} {V:TV} {code:ByteArray} {w0 x x':World} {p:Nat} {v:Value} (h:NFk base tb T V code w0 p v x) (hb:Below x.heap.size x x'):NFk base tb T V code w0 p v x':=by
 obtain⟨gb,jd,h1,h2,h3⟩:=h;exact⟨gb,jd,h1,h2,h3.below hb⟩
theorem zmI {P:Program} {x:World} {T:TypeId} {m k v:Value} (h:(Instr.lookup T m k false).run P x=.ok v x):((do pure (Next.value (<-Instr.lookup T m k false)):Sem Next)).run P x=.ok (.value v) x:=by
 rw[Sem.run_bind,h];rfl
theorem cell_ro (F:Fz) (sv mv:Value) (b:Bool):(fun i=>if i=17 then .bool b else F.cell sv mv i)=({F with ro:=b}:Fz).cell sv mv:=by
 funext i;by_cases h:i=17
 ·subst h;rfl
 ·simp only[Fz.cell,if_neg h]
theorem zhl {base fb tb:Nat} {G:Nat->Fz} {T:TS} {S:List Nat} {sv mv:Value} {V:TV} {w:World} (k:Nat) (x x':World) (h:PhD base fb tb G T S sv mv V w k x) (hb:Below x.heap.size x x'):PhD base fb tb G T S sv mv V w k x':=⟨h.1.below hb,h.2.below hb⟩
def za4 (F:Fz) (tb op tt v:Nat) (code:ByteArray) (jd:Value):Fz:=
 {zch tb code jd with depth:=F.depth+1,ro:=F.ro||op==250,self:=if op=244 then F.self else tt,caller:=if op=244 then F.caller else F.self,value:=if op=244 then F.value else v}
theorem zjV {base fb tb:Nat} {F:Fz} {T:TS} {S:List Nat} {sv mv:Value} {V:TV} (op tt v:Nat) (hop:op<=255) (w:World) (h:FT base fb tb F T S sv mv V w) (hcs:(T.acc tt).code.size<=1000) (hdl:F.depth<=1000):
  Calls prog 278 #[.pointer (some ⟨fb,0,none⟩),.int .u8 (op:Int),wv tt,wv v] w fun e w'=>∃gb jd,e=.returned (.pointer (some ⟨gb,0,none⟩))/\w.heap.size<=gb/\Below w.heap.size w w'/\FT base gb tb (za4 F tb op tt v (T.acc tt).code jd) T [gb] noL noL V w':=by
 have hB:Below w.heap.size w ((w.alloc (wc tt)).alloc (wc v)):=bal (bal (Below.refl _ w) _) _;have hW:=W2.start w tt v;have h2:=h.below hB
 have hrow:∀o,o<27->((w.alloc (wc tt)).alloc (wc v)).cell? ⟨fb,o,none⟩=some (({F with trail:=.pointer (some ⟨tb,0,none⟩)}:Fz).cell sv mv o):=fun o ho=>by
  have e:({F with trail:=.pointer (some ⟨tb,0,none⟩)}:Fz)=F:=by rw[<-h.ptr]
  rw[e];exact h2.fr.row.cell (i:=o) ho
 have hlt:=h2.fr.row.lt;have htlt:=h2.tr.row.lt;have htr:=h2.tr;have hbt:=hW.ra;have hbv:=hW.rb;have c0:=h2.tr.row.cell (i:=0) (by decide);rw[show trC V 0=.map (some V.ab) from rfl] at c0;obtain⟨f,hf,hf'⟩:=h2.tr.acc.map;obtain⟨svv,e1,e3,e4,e5⟩:=h2.tr.acc.read tt hf';obtain⟨om,rfl⟩:=e3.is;obtain⟨w0,HW⟩:∃w0,Hid (w0=(w.alloc (wc tt)).alloc (wc v)):=⟨_,rfl⟩
 have hlook:∀x,Below w0.heap.size w0 x->(Instr.lookup 89 (.map (some V.ab)) (wv tt) false).run prog x=.ok (Z1 (T.acc tt).bal (T.acc tt).code (.map om)) x:=fun x hx=>by
  rw[HW.out] at hx;have:=(hf.kb (Kb.of_below (S:=[]) hx) (by simp)).look Yr Yk tt;rw[e1] at this;exact this
 have HB:=zb hB;rw[<-HW.out] at hrow hlt htlt htr hbt hbv c0 h2 HB;generalize(T.acc tt).bal=bl at*;generalize(T.acc tt).code=code at*;have H2:=zb h2;clear hf hf' e1 e3 e4 e5 h2 hB hW h;go_enter func278,ntmps278;go_wp2;rw[<-HW.out]
 refine zq (fun _ x=>Below w0.heap.size w0 x) (fun _ _ _=>True) [(0,(.pointer (some ⟨fb,0,none⟩))),(6,(.pointer (some ⟨w.heap.size,0,none⟩)))] [(some 10,.v (.pointer (some ⟨fb,0,none⟩))),(some 11,.v (.pointer (some ⟨fb,0,none⟩))),(some 12,.v (.pointer (some ⟨fb,0,none⟩))),(some 13,.v (.pointer (some ⟨tb,0,none⟩))),(some 14,.v (.pointer (some ⟨fb,0,none⟩))),(some 15,.v (.pointer (some ⟨fb,0,none⟩))),(some 16,.v (.pointer (some ⟨fb,0,none⟩))),(some 17,.v (.pointer (some ⟨tb,0,none⟩))),(some 18,.v (.pointer (some ⟨tb,0,none⟩))),(some 19,.v (.pointer (some ⟨tb,0,none⟩))),(some 20,.v (.map (some V.ab))),(some 21,.v (wv tt)),(some 22,.v (Z1 bl code (.map om))),(some 23,.v (.string code)),(some 24,.l (NFk base tb T V code w0)),(some 9,.l (NFk base tb T V code w0))] [] [3,7,10,11,12,14,15] (by kernel_rfl) (by rfl) (by rfl) (by kernel_rfl) ((Below.refl _ _).drew) (fun _ _ _ h hb=>h.trans (hb.mono h.size))
   True.intro
   (zf _ _ _ rfl rfl
   (fun k s x hk hlo hhi hph hdf hv hl K hK=>by
   exact zv (v:=.pointer (some ⟨tb,0,none⟩)) (fun w=>by kernel_rfl) (hv 12 _ rfl) ((hph.cell (by exact hlt)).trans (hrow 0 (by decide))) (hK _ x (Below.refl _ _) nn1 rfl))
   (zf _ _ _ rfl rfl
   (fun k s x hk hlo hhi hph hdf hv hl K hK=>by
   exact zv (v:=.pointer (some ⟨tb,0,none⟩)) (fun w=>by kernel_rfl) (hv 16 _ rfl) ((hph.cell (by exact hlt)).trans (hrow 0 (by decide))) (hK _ x (Below.refl _ _) nn1 rfl))
   (zf _ _ _ rfl rfl
   (fun k s x hk hlo hhi hph hdf hv hl K hK=>by
   exact zv (v:=.map (some V.ab)) (fun w=>by kernel_rfl) (hv 19 _ rfl) ((hph.cell (by exact htlt)).trans c0) (hK _ x (Below.refl _ _) nn1 rfl))
   (zf _ _ _ rfl rfl
   (fun k s x hk hlo hhi hph hdf hv hl K hK=>by
   obtain⟨q0,q1,q2,q3⟩:=ze (zg hbt hph);exact zB (n:=tt) (hv 6 _ rfl) q0 q1 q2 q3 (hK _ x (Below.refl _ _) nn1 rfl))
   (zf _ _ _ rfl rfl
   (fun k s x hk hlo hhi hph hdf hv hl K hK=>by
   exact zdH (v:=Z1 bl code (.map om)) (x':=x) hv (zmI (hlook x hph)) (hK _ x (Below.refl _ _) nn1 rfl))
   (zf _ _ _ rfl rfl
   (fun k s x hk hlo hhi hph hdf hv hl K hK=>by
   refine zW hv (zcD code hcs x (htr.below hph)) (by kernel_rfl) (fun v y h=> ?_) (fun l y h=>by obtain⟨_,_,e,_⟩:=h;cases e) (fun y h=>by obtain⟨_,_,e,_⟩:=h;cases e);obtain⟨gb,jd,e,h1,h2,h3⟩:=h;injection e with e
   subst e;exact hK _ y h2 nn1 ⟨gb,jd,rfl,Nat.le_trans hph.size h1,h3⟩)
   (zf _ _ _ rfl rfl
   (fun k s x hk hlo hhi hph hdf hv hl K hK=>by
   have hT:=hl 24 _ rfl;exact zdH (v:=s.tmps.getD 24 undef) (x':=x) hv rfl (hK _ x (Below.refl _ _) nn1 hT))
   True.intro)))))))
   (fun i d T' he p v x x' _ hp _ _ hT=>absurd hp (by simp)) (fun i d T' he p v x x' _ hb hT=>by
   have hm:=List.mem_of_getElem? he;simp only[List.mem_cons,Prod.mk.injEq,reduceCtorEq,and_false,false_or,or_false,List.not_mem_nil,En.l.injEq] at hm;rcases hm with⟨-,rfl⟩|⟨-,rfl⟩<;>exact NFk.below hT hb) ?_
 intro gg x hph hg;obtain⟨gb,jd,eg,hgb,hft⟩:=hg 15 _ _ rfl;simp only[yy,yw,yx,Zg,zF,List.foldl_cons,List.foldl_nil,Act.put,Nat.reduceAdd];simp only[sx9];rw[eg];generalize gg 14=z14;have hfg:fb<gb:=Nat.lt_of_lt_of_le hlt hgb;have hrowx:∀o,o<27->x.cell? ⟨fb,o,none⟩=some (({F with trail:=.pointer (some ⟨tb,0,none⟩)}:Fz).cell sv mv o):=fun o ho=>(hph.cell (by exact hlt)).trans (hrow o ho)
 have d1:=hrowx 18 (by decide);have d2:=hrowx 17 (by decide);change _=some (Value.int .i64 (F.depth:Int)) at d1;change _=some (Value.bool F.ro) at d2;have k1:=hft.fr.row.cell (i:=18) (by decide);have f1:=hft.fr.row.frozen 18;have k2:=hft.fr.row.cell (i:=17) (by decide);have f2:=hft.fr.row.frozen 17;change _=some (Value.int .i64 0) at k1;change _=some (Value.bool false) at k2;have hne:fb≠gb:=by omega
 have hD1:=zb d1;have hD2:=zb d2;have hK1:=zb k1;have hF1:=zb f1;have hK2:=zb k2;have hF2:=zb f2;obtain⟨ro,HRO⟩:∃ro,Hid (ro=(F.ro||op==250)):=⟨_,rfl⟩;obtain⟨F0,HF0⟩:∃F0:Fz,Hid (F0={zch tb code jd with depth:=F.depth+1,ro:=ro}):=⟨_,rfl⟩;obtain⟨x2,HX2⟩:∃x2,Hid (x2=(x.setCell ⟨gb,18,none⟩ (.int .i64 ((F.depth:Int)+1))).setCell ⟨gb,17,none⟩ (.bool ro)):=⟨_,rfl⟩
 have hkx:Kb [gb] x x2:=by
  rw[HX2.out];exact((Kb.refl [gb] x).setCell (p:=⟨gb,18,none⟩) (Or.inl (by simp)) _).setCell (p:=⟨gb,17,none⟩) (Or.inl (by simp)) _
 have hft2:FT base gb tb F0 T [gb] noL noL V x2:=by
  rw[HX2.out,HF0.out,show(F.depth:Int)+1=((F.depth+1:Nat):Int) by omega];have ha:=hft.own (F':={zch tb code jd with depth:=F.depth+1}) rfl rfl rfl rfl rfl hft.fr.gal (Yn hft.fr.row (ze9 _ noL noL (F.depth+1))) ((Kb.refl [gb] x).setCell (p:=⟨gb,18,none⟩) (Or.inl (by simp)) _);exact ha.own rfl rfl rfl rfl rfl ha.fr.gal (Yn ha.fr.row (cell_ro _ noL noL ro)) ((Kb.refl [gb] _).setCell (p:=⟨gb,17,none⟩) (Or.inl (by simp)) _)
 have hrow2:∀y,Kb [gb] x2 y->∀o,o<27->y.cell? ⟨fb,o,none⟩=some (({F with trail:=.pointer (some ⟨tb,0,none⟩)}:Fz).cell sv mv o):=fun y hy o ho=>
  (World.cell?_of_block (w:=x) ((hkx.trans hy (fun i hi=>Or.inl hi)).block fb (Nat.lt_of_lt_of_le hlt hph.size) (by simpa using hne))).trans (hrowx o ho)
 have hbt2:∀y,Kb [gb] x2 y->zX y w.heap.size tt:=fun y hy=>(hkx.trans hy (fun i hi=>Or.inl hi)).row (zg hbt hph) (by have:=hbt.lt;simp;omega)
 have hbv2:∀y,Kb [gb] x2 y->zX y (w.heap.size+1) v:=fun y hy=>(hkx.trans hy (fun i hi=>Or.inl hi)).row (zg hbv hph) (by have:=hbv.lt;simp;omega)
 have HFIN:Hid (∀y,Kb [gb] x2 y->Below w.heap.size w y):=fun y hy=>by
  have hB2:=HB.out.trans (hph.mono HB.out.size);have h9:=hkx.trans hy (fun i hi=>Or.inl hi);refine⟨h9.os.trans hB2.os,h9.tape.trans hB2.tape,h9.output.trans hB2.output,Nat.le_trans hB2.size h9.size,fun k hk=>(h9.block k (Nat.lt_of_lt_of_le hk hB2.size) ?_).trans (hB2.block k hk)⟩;have:=HB.out.size;simp;omega
 have HGB:Hid (w.heap.size<=gb):=Nat.le_trans HB.out.size hgb
 have HCALLED:Hid (∀a b c,(a=if op=244 then F.self else tt)->(b=if op=244 then F.caller else F.self)->(c=if op=244 then F.value else v)->({F0 with self:=a,caller:=b,value:=c}:Fz)=za4 F tb op tt v code jd):=fun a b c ha hb hc=>by
  rw[HF0.out,HRO.out,ha,hb,hc];rfl
 have HW2:Hid (∀(P:World->Prop),P x2->P ((x.setCell ⟨gb,18,none⟩ (.int .i64 ((F.depth:Int)+1))).setCell ⟨gb,17,none⟩ (.bool ro))):=fun P h=>by rw[<-HX2.out];exact h
 clear hg hft hrow hrowx htr hbt hbv c0 hlook hcs hph;have tail:True:=trivial;clear tail HW2 k1 f1 k2 f2 d1 d2;have d1:=hD1.out;have d2:=hD2.out;have k1:=hK1.out;have f1:=hF1.out;have k2:=hK2.out;have f2:=hF2.out;by_cases h4:op=244
 ·subst h4;cases hro:F.ro
  all_goals (
   rw[hro] at d2;have hre:=HRO.out;rw[hro] at hre;simp only[Bool.false_or,Bool.true_or,Nat.reduceBEq] at hre;subst hre;go_wp2)
  all_goals (
   rw[<-HX2.out]
   refine zq (PhD base gb tb (fun k=>match k with|0=>F0|1=>{F0 with self:=F.self}|2=>{F0 with self:=F.self,caller:=F.caller}|_=>{F0 with self:=F.self,caller:=F.caller,value:=F.value}) T [gb] noL noL V x2) (fun _ _ _=>True) [(0,(.pointer (some ⟨fb,0,none⟩))),(9,(.pointer (some ⟨gb,0,none⟩)))] [(some 46,.v (.pointer (some ⟨gb,0,none⟩))),(some 47,.v (.pointer (some ⟨gb,0,none⟩))),(some 48,.v (.pointer (some ⟨gb,0,none⟩))),(some 49,.v (.pointer (some ⟨fb,0,none⟩))),(some 50,.v (.pointer (some ⟨fb,0,none⟩))),(some 51,.v (.pointer (some ⟨fb,3,none⟩))),(some 52,.v (wv F.self)),(some 53,.v (.pointer (some ⟨fb,0,none⟩))),(some 54,.v (.pointer (some ⟨fb,0,none⟩))),(some 55,.v (.pointer (some ⟨fb,7,none⟩))),(some 56,.v (wv F.caller)),(some 57,.v (.pointer (some ⟨fb,0,none⟩))),(some 58,.v (.pointer (some ⟨fb,0,none⟩))),(some 59,.v (.pointer (some ⟨fb,11,none⟩))),(some 60,.v (wv F.value)),(some 61,.v (.pointer (some ⟨gb,0,none⟩))),(some 62,.v (.pointer (some ⟨gb,3,none⟩))),(none,.v undef),(some 63,.v (.pointer (some ⟨gb,0,none⟩))),(some 64,.v (.pointer (some ⟨gb,7,none⟩))),(none,.v undef),(some 65,.v (.pointer (some ⟨gb,0,none⟩))),(some 66,.v (.pointer (some ⟨gb,11,none⟩))),(none,.v undef)] [17,20,23] [6,10,14] (by kernel_rfl) (by rfl) (by rfl) (by kernel_rfl) (⟨hft2.below (Below.refl _ _).drew,(Kb.refl _ _).drew⟩) (zhl)
     (zf _ _ _ rfl rfl
     (fun s x hph hdf hv hl K hK=>by
      exact Z2 3 (hv 62 _ rfl) (hv 52 _ rfl) hph.1.fr.row (by decide) (hK _ _ ⟨hph.1.own rfl rfl rfl rfl rfl hph.1.fr.gal (yn hph.1.fr.row (zbH _ noL noL F.self)) (Zb _ _ _ _),hph.2.trans (Zb _ _ _ _) (fun i hi=>Or.inl hi)⟩ trivial (fun _=>rfl) rfl))
     (zf _ _ _ rfl rfl
     (fun s x hph hdf hv hl K hK=>by
      exact Z2 7 (hv 64 _ rfl) (hv 56 _ rfl) hph.1.fr.row (by decide) (hK _ _ ⟨hph.1.own rfl rfl rfl rfl rfl hph.1.fr.gal (yn hph.1.fr.row (zat _ noL noL F.caller)) (Zb _ _ _ _),hph.2.trans (Zb _ _ _ _) (fun i hi=>Or.inl hi)⟩ trivial (fun _=>rfl) rfl))
     (zf _ _ _ rfl rfl
     (fun s x hph hdf hv hl K hK=>by
      exact Z2 11 (hv 66 _ rfl) (hv 60 _ rfl) hph.1.fr.row (by decide) (hK _ _ ⟨hph.1.own rfl rfl rfl rfl rfl hph.1.fr.gal (yn hph.1.fr.row (zbb _ noL noL F.value)) (Zb _ _ _ _),hph.2.trans (Zb _ _ _ _) (fun i hi=>Or.inl hi)⟩ trivial (fun _=>rfl) rfl))
     True.intro)))
     (zf _ _ _ rfl rfl
     (fun k s x hk hlo hhi hph hdf hv hl K hK=>by
      have hr:=hrow2 x hph.2;exact zB (n:=F.self) (hv 51 _ rfl) (hr 3 (by decide)) (hr 4 (by decide)) (hr 5 (by decide)) (hr 6 (by decide)) (hK _ x (Below.refl _ _) nn1 rfl))
     (zf _ _ _ rfl rfl
     (fun k s x hk hlo hhi hph hdf hv hl K hK=>by
      have hr:=hrow2 x hph.2;exact zB (n:=F.caller) (hv 55 _ rfl) (hr 7 (by decide)) (hr 8 (by decide)) (hr 9 (by decide)) (hr 10 (by decide)) (hK _ x (Below.refl _ _) nn1 rfl))
     (zf _ _ _ rfl rfl
     (fun k s x hk hlo hhi hph hdf hv hl K hK=>by
      have hr:=hrow2 x hph.2;exact zB (n:=F.value) (hv 59 _ rfl) (hr 11 (by decide)) (hr 12 (by decide)) (hr 13 (by decide)) (hr 14 (by decide)) (hK _ x (Below.refl _ _) nn1 rfl))
     True.intro)))
     (fun _ _ _ h=>(zo rfl h).elim) (fun _ _ _ h=>(zo rfl h).elim) ?_
   intro gg y hy _;have HY:=zb (And.intro (show FT base gb tb {F0 with self:=F.self,caller:=F.caller,value:=F.value} T [gb] noL noL V y from hy.1) (HFIN.out y hy.2));clear hy hft2 hrow2 hbt2 hbv2 hkx;simp only[yy,yw,yx,Zg,zF,List.foldl_cons,List.foldl_nil,Act.put];simp only[sx9];go_wp2;go_ret;refine⟨gb,jd,rfl,HGB.out,HY.out.2, ?_⟩;rw[<-HCALLED.out F.self F.caller F.value (by simp) (by simp) (by simp)];exact HY.out.1)
 ·have g4:((op:Int)==244)=false:=by simp;omega
  by_cases h5:op=250
  ·subst h5;cases hro:F.ro
   all_goals (
    rw[hro] at d2;have hre:=HRO.out;rw[hro] at hre;simp only[Bool.false_or,Bool.true_or,Nat.reduceBEq] at hre;subst hre;go_wp2)
   all_goals (
    rw[<-HX2.out]
    refine zq (PhD base gb tb (fun k=>match k with|0=>F0|1=>{F0 with self:=tt}|2=>{F0 with self:=tt,caller:=F.self}|_=>{F0 with self:=tt,caller:=F.self,value:=v}) T [gb] noL noL V x2) (fun _ _ _=>True) [(0,(.pointer (some ⟨fb,0,none⟩))),(9,(.pointer (some ⟨gb,0,none⟩))),(6,(.pointer (some ⟨w.heap.size,0,none⟩))),(7,(.pointer (some ⟨w.heap.size+1,0,none⟩)))] [(some 67,.v (.pointer (some ⟨gb,0,none⟩))),(some 68,.v (.pointer (some ⟨gb,0,none⟩))),(some 69,.v (.pointer (some ⟨gb,0,none⟩))),(some 70,.v (wv tt)),(some 71,.v (.pointer (some ⟨fb,0,none⟩))),(some 72,.v (.pointer (some ⟨fb,0,none⟩))),(some 73,.v (.pointer (some ⟨fb,3,none⟩))),(some 74,.v (wv F.self)),(some 75,.v (wv v)),(some 76,.v (.pointer (some ⟨gb,0,none⟩))),(some 77,.v (.pointer (some ⟨gb,3,none⟩))),(none,.v undef),(some 78,.v (.pointer (some ⟨gb,0,none⟩))),(some 79,.v (.pointer (some ⟨gb,7,none⟩))),(none,.v undef),(some 80,.v (.pointer (some ⟨gb,0,none⟩))),(some 81,.v (.pointer (some ⟨gb,11,none⟩))),(none,.v undef)] [11,14,17] [3,7,8] (by kernel_rfl) (by rfl) (by rfl) (by kernel_rfl) (⟨hft2.below (Below.refl _ _).drew,(Kb.refl _ _).drew⟩) (zhl)
      (zf _ _ _ rfl rfl
      (fun s x hph hdf hv hl K hK=>by
       exact Z2 3 (hv 77 _ rfl) (hv 70 _ rfl) hph.1.fr.row (by decide) (hK _ _ ⟨hph.1.own rfl rfl rfl rfl rfl hph.1.fr.gal (yn hph.1.fr.row (zbH _ noL noL tt)) (Zb _ _ _ _),hph.2.trans (Zb _ _ _ _) (fun i hi=>Or.inl hi)⟩ trivial (fun _=>rfl) rfl))
      (zf _ _ _ rfl rfl
      (fun s x hph hdf hv hl K hK=>by
       exact Z2 7 (hv 79 _ rfl) (hv 74 _ rfl) hph.1.fr.row (by decide) (hK _ _ ⟨hph.1.own rfl rfl rfl rfl rfl hph.1.fr.gal (yn hph.1.fr.row (zat _ noL noL F.self)) (Zb _ _ _ _),hph.2.trans (Zb _ _ _ _) (fun i hi=>Or.inl hi)⟩ trivial (fun _=>rfl) rfl))
      (zf _ _ _ rfl rfl
      (fun s x hph hdf hv hl K hK=>by
       exact Z2 11 (hv 81 _ rfl) (hv 75 _ rfl) hph.1.fr.row (by decide) (hK _ _ ⟨hph.1.own rfl rfl rfl rfl rfl hph.1.fr.gal (yn hph.1.fr.row (zbb _ noL noL v)) (Zb _ _ _ _),hph.2.trans (Zb _ _ _ _) (fun i hi=>Or.inl hi)⟩ trivial (fun _=>rfl) rfl))
      True.intro)))
      (zf _ _ _ rfl rfl
      (fun k s x hk hlo hhi hph hdf hv hl K hK=>by
       obtain⟨q0,q1,q2,q3⟩:=ze (hbt2 x hph.2);exact zB (n:=tt) (hv 6 _ rfl) q0 q1 q2 q3 (hK _ x (Below.refl _ _) nn1 rfl))
      (zf _ _ _ rfl rfl
      (fun k s x hk hlo hhi hph hdf hv hl K hK=>by
       have hr:=hrow2 x hph.2;exact zB (n:=F.self) (hv 73 _ rfl) (hr 3 (by decide)) (hr 4 (by decide)) (hr 5 (by decide)) (hr 6 (by decide)) (hK _ x (Below.refl _ _) nn1 rfl))
      (zf _ _ _ rfl rfl
      (fun k s x hk hlo hhi hph hdf hv hl K hK=>by
       obtain⟨q0,q1,q2,q3⟩:=ze (hbv2 x hph.2);exact zB (n:=v) (hv 7 _ rfl) q0 q1 q2 q3 (hK _ x (Below.refl _ _) nn1 rfl))
      True.intro)))
      (fun _ _ _ h=>(zo rfl h).elim) (fun _ _ _ h=>(zo rfl h).elim) ?_
    intro gg y hy _;have HY:=zb (And.intro (show FT base gb tb {F0 with self:=tt,caller:=F.self,value:=v} T [gb] noL noL V y from hy.1) (HFIN.out y hy.2));clear hy hft2 hrow2 hbt2 hbv2 hkx;simp only[yy,yw,yx,Zg,zF,List.foldl_cons,List.foldl_nil,Act.put];simp only[sx9];go_wp2;go_ret;refine⟨gb,jd,rfl,HGB.out,HY.out.2, ?_⟩;rw[<-HCALLED.out _ _ _ (if_neg h4).symm (if_neg h4).symm (if_neg h4).symm];exact HY.out.1)
  ·have g5:((op:Int)==250)=false:=by simp;omega
   have g6:(op==250)=false:=by simp;omega
   cases hro:F.ro
   all_goals (
    rw[hro] at d2;have hre:=HRO.out;rw[hro] at hre;simp only[Bool.false_or,Bool.true_or,g6] at hre;subst hre;go_wp2)
   all_goals (
    rw[<-HX2.out]
    refine zq (PhD base gb tb (fun k=>match k with|0=>F0|1=>{F0 with self:=tt}|2=>{F0 with self:=tt,caller:=F.self}|_=>{F0 with self:=tt,caller:=F.self,value:=v}) T [gb] noL noL V x2) (fun _ _ _=>True) [(0,(.pointer (some ⟨fb,0,none⟩))),(9,(.pointer (some ⟨gb,0,none⟩))),(6,(.pointer (some ⟨w.heap.size,0,none⟩))),(7,(.pointer (some ⟨w.heap.size+1,0,none⟩)))] [(some 67,.v (.pointer (some ⟨gb,0,none⟩))),(some 68,.v (.pointer (some ⟨gb,0,none⟩))),(some 69,.v (.pointer (some ⟨gb,0,none⟩))),(some 70,.v (wv tt)),(some 71,.v (.pointer (some ⟨fb,0,none⟩))),(some 72,.v (.pointer (some ⟨fb,0,none⟩))),(some 73,.v (.pointer (some ⟨fb,3,none⟩))),(some 74,.v (wv F.self)),(some 75,.v (wv v)),(some 76,.v (.pointer (some ⟨gb,0,none⟩))),(some 77,.v (.pointer (some ⟨gb,3,none⟩))),(none,.v undef),(some 78,.v (.pointer (some ⟨gb,0,none⟩))),(some 79,.v (.pointer (some ⟨gb,7,none⟩))),(none,.v undef),(some 80,.v (.pointer (some ⟨gb,0,none⟩))),(some 81,.v (.pointer (some ⟨gb,11,none⟩))),(none,.v undef)] [11,14,17] [3,7,8] (by kernel_rfl) (by rfl) (by rfl) (by kernel_rfl) (⟨hft2.below (Below.refl _ _).drew,(Kb.refl _ _).drew⟩) (zhl)
      (zf _ _ _ rfl rfl
      (fun s x hph hdf hv hl K hK=>by
       exact Z2 3 (hv 77 _ rfl) (hv 70 _ rfl) hph.1.fr.row (by decide) (hK _ _ ⟨hph.1.own rfl rfl rfl rfl rfl hph.1.fr.gal (yn hph.1.fr.row (zbH _ noL noL tt)) (Zb _ _ _ _),hph.2.trans (Zb _ _ _ _) (fun i hi=>Or.inl hi)⟩ trivial (fun _=>rfl) rfl))
      (zf _ _ _ rfl rfl
      (fun s x hph hdf hv hl K hK=>by
       exact Z2 7 (hv 79 _ rfl) (hv 74 _ rfl) hph.1.fr.row (by decide) (hK _ _ ⟨hph.1.own rfl rfl rfl rfl rfl hph.1.fr.gal (yn hph.1.fr.row (zat _ noL noL F.self)) (Zb _ _ _ _),hph.2.trans (Zb _ _ _ _) (fun i hi=>Or.inl hi)⟩ trivial (fun _=>rfl) rfl))
      (zf _ _ _ rfl rfl
      (fun s x hph hdf hv hl K hK=>by
       exact Z2 11 (hv 81 _ rfl) (hv 75 _ rfl) hph.1.fr.row (by decide) (hK _ _ ⟨hph.1.own rfl rfl rfl rfl rfl hph.1.fr.gal (yn hph.1.fr.row (zbb _ noL noL v)) (Zb _ _ _ _),hph.2.trans (Zb _ _ _ _) (fun i hi=>Or.inl hi)⟩ trivial (fun _=>rfl) rfl))
      True.intro)))
      (zf _ _ _ rfl rfl
      (fun k s x hk hlo hhi hph hdf hv hl K hK=>by
       obtain⟨q0,q1,q2,q3⟩:=ze (hbt2 x hph.2);exact zB (n:=tt) (hv 6 _ rfl) q0 q1 q2 q3 (hK _ x (Below.refl _ _) nn1 rfl))
      (zf _ _ _ rfl rfl
      (fun k s x hk hlo hhi hph hdf hv hl K hK=>by
       have hr:=hrow2 x hph.2;exact zB (n:=F.self) (hv 73 _ rfl) (hr 3 (by decide)) (hr 4 (by decide)) (hr 5 (by decide)) (hr 6 (by decide)) (hK _ x (Below.refl _ _) nn1 rfl))
      (zf _ _ _ rfl rfl
      (fun k s x hk hlo hhi hph hdf hv hl K hK=>by
       obtain⟨q0,q1,q2,q3⟩:=ze (hbv2 x hph.2);exact zB (n:=v) (hv 7 _ rfl) q0 q1 q2 q3 (hK _ x (Below.refl _ _) nn1 rfl))
      True.intro)))
      (fun _ _ _ h=>(zo rfl h).elim) (fun _ _ _ h=>(zo rfl h).elim) ?_
    intro gg y hy _;have HY:=zb (And.intro (show FT base gb tb {F0 with self:=tt,caller:=F.self,value:=v} T [gb] noL noL V y from hy.1) (HFIN.out y hy.2));clear hy hft2 hrow2 hbt2 hbv2 hkx;simp only[yy,yw,yx,Zg,zF,List.foldl_cons,List.foldl_nil,Act.put];simp only[sx9];go_wp2;go_ret;refine⟨gb,jd,rfl,HGB.out,HY.out.2, ?_⟩;rw[<-HCALLED.out _ _ _ (if_neg h4).symm (if_neg h4).symm (if_neg h4).symm];exact HY.out.1)
end
theorem dup_r0n {base fb:Nat} {F:Fz} {S:List Nat} {sv mv:Value} {Q:Exit->Act->World->Prop} (a:Act) (w:World) {n q:Nat} (hnq:n=q+1) (hq1:q<=1000) (hql:F.st.length<=q) (h:Fr base fb F S sv mv w) (hsz:([4,5,6,7,8,9,10,11,12,13,14]:List Nat).all (fun d=>decide (d<a.tmps.size))=true) (c0:a.tmps.getD 0 undef=.pointer (some ⟨fb,19,none⟩)) (c1:a.tmps.getD 1 undef=.int .i64 (n:Int))
  (hpan:∀u pv s x,((none:Option (Unit×Fz))=none)->s.defers=a.defers->Kb S w x->Q (.panic [{v:=.iface u pv,recovered:=false}]) s x)
  (hok:∀(x:World) (S':List Nat) (sv' mv':Value) (z3:Value) (z7:Value) (z8:Value) (z9:Value) (z10:Value),Fr base fb (badF) S' sv' mv' x->Kb S w x->(∀j∈S',j∈S\/w.heap.size<=j)->(AnyV) (1,mv') S' z3 x->(Nv) (1,mv') S' z7 x->(Nv) (1,mv') S' z8 x->(Nv) (1,mv') S' z9 x->(Nv) (1,mv') S' z10 x->Q .normal (zF a [(4,.pointer (some ⟨fb,19,none⟩)),(5,.pointer (some ⟨fb,19,none⟩)),(6,.pointer (some ⟨fb,19,none⟩)),(7,z3),(8,.pointer (some ⟨fb,19,none⟩)),(9,.int .i64 (n:Int)),(10,.int .i64 (q:Int)),(11,z7),(12,z8),(13,z9),(14,z10)]) x):
  (Code.region 0 #[⟨some 4,.move (.tmp 0),289,"stack.go:24",#[],none⟩,⟨some 5,.move (.tmp 0),289,"stack.go:24",#[],none⟩,⟨some 6,.nilCheck (.tmp 5),0,"stack.go:24",#[⟨1,.data⟩],none⟩,⟨some 7,.load 135 (.tmp 6),135,"stack.go:24",#[⟨2,.data⟩],none⟩,⟨some 8,.move (.tmp 0),289,"stack.go:24",#[],none⟩,⟨some 9,.move (.tmp 1),3,"stack.go:24",#[],none⟩,⟨some 10,.binOp .sub 3 (.tmp 9) (.const (.int .i64 1)) 3,3,"stack.go:24",#[⟨5,.data⟩],none⟩,⟨some 11,.call ⟨.value (.func 273),#[.tmp 8,.tmp 10],#[289,3]⟩,3,"stack.go:24",#[⟨4,.data⟩,⟨6,.data⟩],none⟩,⟨some 12,.indexAddr 135 (.tmp 7) (.tmp 11),0,"stack.go:24",#[⟨3,.data⟩,⟨7,.data⟩],none⟩,⟨some 13,.load 24 (.tmp 12),24,"stack.go:24",#[⟨8,.data⟩],none⟩,⟨some 14,.call ⟨.value (.func 259),#[.tmp 4,.tmp 13],#[289,24]⟩,0,"stack.go:24",#[⟨0,.data⟩,⟨9,.data⟩,⟨7,.chain⟩],none⟩] true).wp prog Q a w:=by
 exact ZC (fun k=>match k with|0=>F|_=>badF) h [(0,.pointer (some ⟨fb,19,none⟩)),(1,.int .i64 (n:Int))] [(some 4,.v (.pointer (some ⟨fb,19,none⟩))),(some 5,.v (.pointer (some ⟨fb,19,none⟩))),(some 6,.v (.pointer (some ⟨fb,19,none⟩))),(some 7,.l (AnyV)),(some 8,.v (.pointer (some ⟨fb,19,none⟩))),(some 9,.v (.int .i64 (n:Int))),(some 10,.v (.int .i64 (q:Int))),(some 11,.l (Nv)),(some 12,.l (Nv)),(some 13,.l (Nv)),(some 14,.l (Nv))] [7] [3,6,8,9,10] (by kernel_rfl) hsz (Zi c0 (Zi c1 rfl)) (by kernel_rfl) (And.intro (zag) (And.intro (Yt) (And.intro (Yt) (And.intro (Yt) (And.intro (Yt) trivial)))))
  (zf _ _ _ rfl rfl (fun s x S1 sv1 mv1 hfr hkb hsub hdf hv hl K hK=>zeI (Post:=fun e x'=>Pan e/\Kb S1 x x') zf2 (ev2 (hv 8 _ rfl) (hv 10 _ rfl)) (by
    have hfr0:Fr base fb F S1 sv1 mv1 x:=hfr;obtain⟨ad9,cap9,e9⟩:=Zk hfr0.st;have hc9:x.cell? ⟨fb,19,none⟩=some sv1:=hfr0.row.cell (i:=19) (by decide);rw[e9,List.length_reverse] at hc9;exact(zcX fb 19 q F.st.length cap9 ad9 x hc9 hfr0.stl hql (by omega)).mono fun e x1 h=>⟨h.1,(h.2▸Kb.refl S1 x:Kb S1 x x1)⟩) fun e x' h9=>(by obtain⟨⟨u,pv,rfl⟩,h8⟩:=h9;exact Or.inr ⟨_,rfl,hpan u pv s x' rfl hdf (hkb.trans h8 hsub)⟩))
  True.intro)
  (zf _ _ _ rfl rfl (fun s x k S1 sv1 mv1 hfr hkb hkp hv hl K hK=>by
    cases k with
    |zero=>exact zv (v:=sv1) (fun w=>by kernel_rfl) (hv 6 _ rfl) (hfr.row.cell (i:=19) (by decide)) (hK _ x (Below.refl _ _) nn1 trivial)
    |succ k=>exact(zcg hfr).elim)
  (zf _ _ _ rfl rfl (fun s x k S1 sv1 mv1 hfr hkb hkp hv hl K hK=>zkP (hv 9 _ rfl) hnq hq1 (hK _ x (Below.refl _ _) nn1 rfl))
  (zf _ _ _ rfl rfl (fun s x k S1 sv1 mv1 hfr hkb hkp hv hl K hK=>(hl 11 _ rfl).elim)
  (zf _ _ _ rfl rfl (fun s x k S1 sv1 mv1 hfr hkb hkp hv hl K hK=>(hl 12 _ rfl).elim)
  (zf _ _ _ rfl rfl (fun s x k S1 sv1 mv1 hfr hkb hkp hv hl K hK=>(hl 13 _ rfl).elim)
  True.intro)))))
  fun g x S' sv' mv' hfr hkb hsub hT=>hok x S' sv' mv' (g 3) (g 7) (g 8) (g 9) (g 10) hfr hkb hsub (hT 3 _ _ rfl) (hT 7 _ _ rfl) (hT 8 _ _ rfl) (hT 9 _ _ rfl) (hT 10 _ _ rfl)
theorem dup_r0 {base fb:Nat} {F:Fz} {S:List Nat} {sv mv:Value} {Q:Exit->Act->World->Prop} (a:Act) (w:World) {n q:Nat} (hnq:n=q+1) (hq1:q<=1000) (hql:q<F.st.length) (h:Fr base fb F S sv mv w) (hsz:([4,5,6,7,8,9,10,11,12,13,14]:List Nat).all (fun d=>decide (d<a.tmps.size))=true) (c0:a.tmps.getD 0 undef=.pointer (some ⟨fb,19,none⟩)) (c1:a.tmps.getD 1 undef=.int .i64 (n:Int))
  (hpan:∀u pv s x,(zl (F.st.getD q 0) (F)=none)->s.defers=a.defers->Kb S w x->Q (.panic [{v:=.iface u pv,recovered:=false}]) s x)
  (hok:∀(x:World) (S':List Nat) (sv' mv':Value) (z3:Value) (z8:Value),Fr base fb (zh (zl (F.st.getD q 0) (F))) S' sv' mv' x->Kb S w x->(∀j∈S',j∈S\/w.heap.size<=j)->(Stk F.st.reverse) (1,mv') S' z3 x->(WAt (F.st.getD q 0)) (1,mv') S' z8 x->Q .normal (zF a [(4,.pointer (some ⟨fb,19,none⟩)),(5,.pointer (some ⟨fb,19,none⟩)),(6,.pointer (some ⟨fb,19,none⟩)),(7,z3),(8,.pointer (some ⟨fb,19,none⟩)),(9,.int .i64 (n:Int)),(10,.int .i64 (q:Int)),(11,.int .i64 ((F.st.length - 1 - q:Nat):Int)),(12,z8),(13,wv (F.st.getD q 0)),(14,Value.tuple #[])]) x):
  (Code.region 0 #[⟨some 4,.move (.tmp 0),289,"stack.go:24",#[],none⟩,⟨some 5,.move (.tmp 0),289,"stack.go:24",#[],none⟩,⟨some 6,.nilCheck (.tmp 5),0,"stack.go:24",#[⟨1,.data⟩],none⟩,⟨some 7,.load 135 (.tmp 6),135,"stack.go:24",#[⟨2,.data⟩],none⟩,⟨some 8,.move (.tmp 0),289,"stack.go:24",#[],none⟩,⟨some 9,.move (.tmp 1),3,"stack.go:24",#[],none⟩,⟨some 10,.binOp .sub 3 (.tmp 9) (.const (.int .i64 1)) 3,3,"stack.go:24",#[⟨5,.data⟩],none⟩,⟨some 11,.call ⟨.value (.func 273),#[.tmp 8,.tmp 10],#[289,3]⟩,3,"stack.go:24",#[⟨4,.data⟩,⟨6,.data⟩],none⟩,⟨some 12,.indexAddr 135 (.tmp 7) (.tmp 11),0,"stack.go:24",#[⟨3,.data⟩,⟨7,.data⟩],none⟩,⟨some 13,.load 24 (.tmp 12),24,"stack.go:24",#[⟨8,.data⟩],none⟩,⟨some 14,.call ⟨.value (.func 259),#[.tmp 4,.tmp 13],#[289,24]⟩,0,"stack.go:24",#[⟨0,.data⟩,⟨9,.data⟩,⟨7,.chain⟩],none⟩] true).wp prog Q a w:=by
 exact ZC (fun k=>match k with|0=>F|_=>zh (zl (F.st.getD q 0) (F))) h [(0,.pointer (some ⟨fb,19,none⟩)),(1,.int .i64 (n:Int))] [(some 4,.v (.pointer (some ⟨fb,19,none⟩))),(some 5,.v (.pointer (some ⟨fb,19,none⟩))),(some 6,.v (.pointer (some ⟨fb,19,none⟩))),(some 7,.l (Stk F.st.reverse)),(some 8,.v (.pointer (some ⟨fb,19,none⟩))),(some 9,.v (.int .i64 (n:Int))),(some 10,.v (.int .i64 (q:Int))),(some 11,.v (.int .i64 ((F.st.length - 1 - q:Nat):Int))),(some 12,.l (WAt (F.st.getD q 0))),(some 13,.v (wv (F.st.getD q 0))),(some 14,.v (Value.tuple #[]))] [10] [3,6,7,8,9] (by kernel_rfl) hsz (Zi c0 (Zi c1 rfl)) (by kernel_rfl) (And.intro (za6 _) (And.intro (za3 _) trivial))
  (zf _ _ _ rfl rfl (fun s x S1 sv1 mv1 hfr hkb hsub hdf hv hl K hK=>zbn (r:=zl (F.st.getD q 0) (F)) (val:=zx) zbC (ev2 (hv 4 _ rfl) (hv 13 _ rfl)) (yg (F.st.getD q 0) x hfr) rfl (fun _ _ _=>rfl) (fun hrn u pv x' hk=>hpan u pv s x' hrn hdf (hkb.trans hk hsub)) hK)
  True.intro)
  (zf _ _ _ rfl rfl (fun s x k S1 sv1 mv1 hfr hkb hkp hv hl K hK=>by
    obtain rfl:k=0:=Nat.le_zero.1 (hkp 0 10 rfl (by kernel_rfl));have hfr0:Fr base fb F S1 sv1 mv1 x:=hfr;exact zv (v:=sv1) (fun w=>by kernel_rfl) (hv 6 _ rfl) (hfr0.row.cell (i:=19) (by decide)) (hK _ x (Below.refl _ _) nn1 (fun _=>⟨base,hfr0.st⟩)))
  (zf _ _ _ rfl rfl (fun s x k S1 sv1 mv1 hfr hkb hkp hv hl K hK=>zkP (hv 9 _ rfl) hnq hq1 (hK _ x (Below.refl _ _) nn1 rfl))
  (zf _ _ _ rfl rfl (fun s x k S1 sv1 mv1 hfr hkb hkp hv hl K hK=>by
    obtain rfl:k=0:=Nat.le_zero.1 (hkp 0 10 rfl (by kernel_rfl));have hfr0:Fr base fb F S1 sv1 mv1 x:=hfr;obtain⟨ad9,cap9,e9⟩:=Zk hfr0.st;have hc9:x.cell? ⟨fb,19,none⟩=some sv1:=hfr0.row.cell (i:=19) (by decide);rw[e9,List.length_reverse] at hc9;exact ZL zf2 (ev2 (hv 8 _ rfl) (hv 10 _ rfl)) (zco fb 19 q F.st.length cap9 ad9 x hc9 hfr0.stl hql) (fun e x' h9=>⟨_,h9.1,hK _ x' (h9.2▸Below.refl _ _) nn1 rfl⟩))
  (zf _ _ _ rfl rfl (fun s x k S1 sv1 mv1 hfr hkb hkp hv hl K hK=>by
    obtain rfl:k=0:=Nat.le_zero.1 (hkp 0 10 rfl (by kernel_rfl));have hfr0:Fr base fb F S1 sv1 mv1 x:=hfr;obtain⟨b9,h8⟩:=(hl 7 _ rfl) rfl;obtain⟨g9,cap9,e9,_,hl9,_⟩:=yq h8 (by rw[List.length_reverse];omega);have e10:s.tmps.getD 7 undef=.slice (some ⟨g9,0,none⟩) F.st.reverse.length cap9:=e9;have h8b:Wds x b9 (.slice (some ⟨g9,0,none⟩) F.st.reverse.length cap9) F.st.reverse:=e9▸h8;obtain⟨c0,c1,c2,c3⟩:=Wds.at h8b (j:=F.st.length - 1 - q) (by rw[List.length_reverse];omega) (zdf F.st q hql);exact zcY e10 (hv 11 _ rfl) (by rw[List.length_reverse];omega) (hK _ x (Below.refl _ _) nn1 (fun _=>⟨g9,_,rfl,hl9,c0,c1,c2,c3⟩)))
  (zf _ _ _ rfl rfl (fun s x k S1 sv1 mv1 hfr hkb hkp hv hl K hK=>by
    obtain rfl:k=0:=Nat.le_zero.1 (hkp 0 10 rfl (by kernel_rfl));have hfr0:Fr base fb F S1 sv1 mv1 x:=hfr;obtain⟨g9,o9,e9,_,c0,c1,c2,c3⟩:=(hl 12 _ rfl) rfl;exact zB e9 c0 c1 c2 c3 (hK _ x (Below.refl _ _) nn1 rfl))
  True.intro)))))
  fun g x S' sv' mv' hfr hkb hsub hT=>hok x S' sv' mv' (g 3) (g 8) hfr hkb hsub (hT 3 _ _ rfl) (hT 8 _ _ rfl)
def ziJ (n:Nat) (F:Fz):Option (Unit×Fz):=if n<=F.st.length then zl (F.st.getD (n - 1) 0) F else none
theorem dup_I {base fb:Nat} {F:Fz} {S:List Nat} {sv mv:Value} (n:Nat) (hn:1<=n) (hn2:n<=16) (w:World) (h:Fr base fb F S sv mv w):
  Calls prog 238 #[.pointer (some ⟨fb,19,none⟩),.int .i64 (n:Int)] w (Out (ziJ n F) zx base fb S w):=by
 unfold ziJ;by_cases hl:n<=F.st.length
 ·rw[if_pos hl];go_enter func238,ntmps238;go_wp2;refine dup_r0 (n:=n) (q:=n - 1) _ _ (by omega) (by omega) (by omega) h rfl rfl rfl ?_ ?_
  ·intro u pv s x hno hd hk;rw[hno];exact⟨hd,⟨_,_,rfl⟩,hk⟩
  ·intro x S' sv' mv' z3 z8 hfr hkb hsub hz3 hz8;have e:=zaW (r:=zl (F.st.getD (n - 1) 0) F) fun e=>ZS (zV e) hfr
   have HO:Hid (Out (zl (F.st.getD (n - 1) 0) F) zx base fb S w (.returned (.tuple #[])) x):=by
    rw[e];exact⟨rfl,S',sv',mv',hfr,hkb,hsub⟩
   clear e hfr hz3 hz8 hkb hsub;simp only[zF,List.foldl_cons,List.foldl_nil,Act.put];go_wp2;go_end0;exact HO.out
 ·rw[if_neg hl];go_enter func238,ntmps238;go_wp2;refine dup_r0n (n:=n) (q:=n - 1) _ _ (by omega) (by omega) (by omega) h rfl rfl rfl ?_ ?_
  ·intro u pv s x hno hd hk;exact⟨hd,⟨_,_,rfl⟩,hk⟩
  ·intro x S' sv' mv' z3 z7 z8 z9 z10 hfr;exact(zcg hfr).elim
section
theorem zoE {w:World} {base e size n g cp:Nat} {xs:List Value} (h:w.ownsRow base e size (.slice (some ⟨g,0,none⟩) n cp) n xs) {o:Nat} (ho:o<n*size) (u:Value):(w.setCell ⟨g,o,none⟩ u).ownsRow base e size (.slice (some ⟨g,0,none⟩) n cp) n (xs.set o u):=by
 refine⟨by rw[List.length_set];exact h.1, ?_⟩;rcases h.2 with⟨h1,_⟩|⟨g',cap,cur,h1,h2,h3,h4,h5,h6,h7⟩
 ·cases h1
 ·injection h1 with e1 e2 e3
  injection e1 with e1
  injection e1 with e1
  subst e1 e3;refine Or.inr ⟨g,cp,cur.setIfInBounds o u,rfl,h2, ?_,h4,h5,by rw[Array.size_setIfInBounds];exact h6, ?_⟩
  ·simp[World.setCell,Array.getElem?_modify,h3]
  ·rw[<-h7,Array.toList_setIfInBounds,List.take_set]
def putL (xs:List Value) (o:Nat):List Value->List Value
 |[]=>xs
 |v::r=>putL (xs.set o v) (o+1) r
theorem ziF {base e size n g cp:Nat}:∀(vs:List Value) (o:Nat) {w:World} {xs:List Value},w.ownsRow base e size (.slice (some ⟨g,0,none⟩) n cp) n xs->o+vs.length<=n*size->(w.setCells g o vs).ownsRow base e size (.slice (some ⟨g,0,none⟩) n cp) n (putL xs o vs)
 |[],o,w,xs,h,_=>h
 |v::r,o,w,xs,h,hl=>by
  rw[List.length_cons] at hl;exact ziF r (o+1) (zoE h (by omega) v) (by omega)
def wl (n:Nat):List Value:=[.int .u64 (za n 0),.int .u64 (za n 1),.int .u64 (za n 2),.int .u64 (za n 3)]
theorem zgt (p:List Value):∀(vs xs:List Value) (o:Nat),putL (p++xs) (p.length+o) vs=p++putL xs o vs
 |[],_,_=>rfl
 |v::r,xs,o=>by
  show putL ((p++xs).set (p.length+o) v) (p.length+o+1) r=_;rw[List.set_append_right _ _ (by omega),Nat.add_sub_cancel_left,Nat.add_assoc,zgt p r];rfl
theorem zov:∀(l:List Nat) (j:Nat) (n:Nat),j<l.length->putL (Zv l) (j*4) (wl n)=Zv (l.set j n)
 |m::l,0,n,_=>rfl
 |m::l,j+1,n,h=>by
  have ih:=zov l j n (by simpa using h);have e:Zv (m::l)=wl m++Zv l:=rfl;rw[e,show(j+1)*4=(wl m).length+j*4 by show _=4+_;omega,zgt,ih];rfl
theorem zlF {w:World} {base g cp:Nat} {l:List Nat} (h:Wds w base (.slice (some ⟨g,0,none⟩) l.length cp) l) {j:Nat} (hj:j<l.length) (n:Nat):Wds (w.setCells g (j*4) (wl n)) base (.slice (some ⟨g,0,none⟩) l.length cp) (l.set j n):=by
 unfold Wds;rw[<-zov l j n hj,List.length_set];exact ziF (wl n) (j*4) h (by show _+4<=_;omega)
theorem zgw {w:World} {base g cp:Nat} {l:List Nat} (h:Wds w base (.slice (some ⟨g,0,none⟩) l.length cp) l) {j:Nat} (hj:j<l.length):w.there g (j*4) 4:=by
 intro i hi;rcases h.2 with⟨h1,_⟩|⟨g',cap,cur,h1,h2,h3,h4,h5,h6,h7⟩
 ·cases h1
 ·injection h1 with e1 e2 e3
  injection e1 with e1
  injection e1 with e1
  subst e1 e3;have hlt:j*4+i<cur.size:=by rw[h6];omega
  exact⟨by rw[cell_of_row _ g _ cur 24 (0,0) h3];simp[hlt],by simp[World.frozen?,h3]⟩
theorem Kb.setCells {S:List Nat} {a:World} (g:Nat) (hg:g∈S\/a.heap.size<=g):∀(vs:List Value) (o:Nat) {b:World},Kb S a b->Kb S a (b.setCells g o vs)
 |[],_,_,h=>h
 |v::r,o,b,h=>Kb.setCells g hg r (o+1) (h.setCell (p:=⟨g,o,none⟩) hg v)
section
variable {s:Act} {x:World} {pos:String} {af:Array Edge} {gd:Option (Nat×Bool)} {K:Act->World->Prop} {Q:Exit->Act->World->Prop}
theorem zi6:(prog.info? 24).map (·.size)=some 4:=by kernel_rfl
theorem zf8 {t u g o n:Nat} {ty:TypeId} (h1:s.tmps.getD t undef=.pointer (some ⟨g,o,none⟩)) (h2:s.tmps.getD u undef=wv n) (ht:x.there g o 4) (hK:K (s.put none undef) (x.setCells g o (wl n))):
  Oper.wp prog ⟨none,.store 24 (.tmp t) (.tmp u),ty,pos,af,gd⟩ s x K Q:=
 wp_store_mid 24 (.tmp t) (.tmp u) rfl g o #[.int .u64 (za n 0),.int .u64 (za n 1),.int .u64 (za n 2),.int .u64 (za n 3)] h1 h2 ht zi6 (Array.all_eq_true_iff_forall_mem.2 (by intro v hv;simp at hv;rcases hv with rfl|rfl|rfl|rfl<;>rfl)) hK
end
def PhW (base g:Nat) (w:World) (sv:Value) (l1 l2:List Nat):Nat->World->Prop
 |0,x=>Below w.heap.size w x
 |1,x=>Wds x base sv l1/\Kb [g] w x
 |_,x=>Wds x base sv l2/\Kb [g] w x
theorem zbJ {base g:Nat} {w:World} {sv:Value} {l1 l2:List Nat} {k:Nat} {x:World} (h:PhW base g w sv l1 l2 k x) (hk:k<=0):Below w.heap.size w x:=by
 obtain rfl:k=0:=by omega
 exact h
theorem phw_bel {base g:Nat} {w:World} {sv:Value} {l1 l2:List Nat} (k:Nat) (x x':World) (h:PhW base g w sv l1 l2 k x) (hb:Below x.heap.size x x'):PhW base g w sv l1 l2 k x':=by
 match k,h with
 |0,h=>exact(show Below w.heap.size w x from h).trans (hb.mono (show Below w.heap.size w x from h).size)
 |1,h=>exact⟨zm h.1 hb,h.2.below hb⟩
 |_+2,h=>exact⟨zm h.1 hb,h.2.below hb⟩
def zbz (n:Nat) (l:List Nat):List Nat:=(l.set 0 (l.getD n 0)).set n (l.getD 0 0)
def zb6 (n:Nat) (F:Fz):Option (Unit×Fz):=if n<F.st.length then some ((),{F with st:=zbz n F.st}) else none
theorem zmf (n:Nat) (l:List Nat) (h:n<l.length):(zbz n l).reverse=(l.reverse.set (l.length - 1) (l.getD n 0)).set (l.length - 1 - n) (l.getD 0 0):=by
 refine List.ext_getElem (by simp[zbz]) fun i h1 h2=> ?_
 have hi:i<l.length:=by simpa[zbz] using h1
 simp only[zbz,List.getElem_reverse,List.getElem_set,List.length_set,List.length_reverse];by_cases a:l.length - 1 - n=i
 ·rw[if_pos (by omega),if_pos a]
 ·rw[if_neg (by omega),if_neg a];by_cases b:l.length - 1=i
  ·rw[if_pos (by omega),if_pos b]
  ·rw[if_neg (by omega),if_neg b]
theorem swap_I {base fb:Nat} {F:Fz} {S:List Nat} {sv mv:Value} (n:Nat) (hn2:n<=16) (w:World) (h:Fr base fb F S sv mv w):
  Calls prog 240 #[.pointer (some ⟨fb,19,none⟩),.int .i64 (n:Int)] w (Out (zb6 n F) zx base fb S w):=by
 have hc:=h.row.cell (i:=19) (by decide);rw[zjG] at hc;have hl:=h.stl;have hlt:=h.row.lt;obtain⟨ad,cp,rfl⟩:=Zk h.st;rw[List.length_reverse] at hc;by_cases h0:F.st.length=0
 ·have e:zb6 n F=none:=if_neg (by omega);rw[e];have HP:=zb (zcX fb 19 0 F.st.length cp ad w hc hl (by omega) (by omega));clear hc h e hl h0;go_enter func240,ntmps240;go_wp2_with fail
  refine HP.out.mono ?_;rintro e x ⟨⟨u,pv,rfl⟩,hxe⟩;obtain rfl:=hxe.symm;exact⟨rfl,⟨_,_,rfl⟩,Kb.refl _ _⟩
 ·have HP:=zb (zco fb 19 0 F.st.length cp ad w hc hl (by omega));by_cases hnl:n<F.st.length
  ·have e:zb6 n F=some ((),{F with st:=zbz n F.st}):=if_pos hnl;rw[e];have HP2:=zb (zco fb 19 n F.st.length cp ad w hc hl hnl);obtain⟨g,cap,hcap,hgb,hgx⟩:=yq h.st (by rw[List.length_reverse];omega);injection hcap with e1 e2 e3
   subst e1 e3;have HF:=zb h;have HE:=zb e;have hs:Wds w base (.slice (some ⟨g,0,none⟩) F.st.reverse.length cp) F.st.reverse:=h.st;rw[<-List.length_reverse] at hc;have hi:F.st.length - 1<F.st.reverse.length:=by rw[List.length_reverse];omega
   have hj:F.st.length - 1 - n<F.st.reverse.length:=by rw[List.length_reverse];omega
   have ha:F.st.reverse[F.st.length - 1]=F.st.getD 0 0:=zdf F.st 0 (by omega);have hb:F.st.reverse[F.st.length - 1 - n]=F.st.getD n 0:=zdf F.st n hnl;have HR:=zb (zmf n F.st hnl);rw[Nat.sub_zero] at HP;generalize F.st.getD 0 0=a at*;generalize F.st.getD n 0=b at*;generalize F.st.length - 1 - n=j at*;generalize F.st.length - 1=i at*;generalize hR:F.st.reverse=R at*;have HSV:Hid (Fr base fb F S (.slice (some ⟨g,0,none⟩) R.length cp) mv w):=HF.out;clear e h HF HE hgb hgx hnl h0 hl;go_enter func240,ntmps240;go_wp2_with fail
   refine HP.out.mono ?_;rintro e x ⟨rfl,hxe⟩;obtain rfl:=hxe.symm;go_wp2_with fail
   refine HP2.out.mono ?_;rintro e x ⟨rfl,hxe⟩;obtain rfl:=hxe.symm;go_wp2
   refine zq (PhW base g w ((.slice (some ⟨g,0,none⟩) R.length cp)) (R.set i b) ((R.set i b).set j a)) (fun _ _ _=>True) [(0,(.pointer (some ⟨fb,19,none⟩))),(4,(.int .i64 (i:Int))),(5,(.int .i64 (j:Int)))] [(some 11,.v (.pointer (some ⟨fb,19,none⟩))),(some 12,.v (.pointer (some ⟨fb,19,none⟩))),(some 13,.v (.slice (some ⟨g,0,none⟩) R.length cp)),(some 14,.v (.int .i64 (i:Int))),(some 15,.v (.pointer (some ⟨fb,19,none⟩))),(some 16,.v (.pointer (some ⟨fb,19,none⟩))),(some 17,.v (.slice (some ⟨g,0,none⟩) R.length cp)),(some 18,.v (.int .i64 (j:Int))),(some 19,.v (.pointer (some ⟨fb,19,none⟩))),(some 20,.v (.pointer (some ⟨fb,19,none⟩))),(some 21,.v (.slice (some ⟨g,0,none⟩) R.length cp)),(some 22,.v (.int .i64 (j:Int))),(some 23,.v (.pointer (some ⟨g,j*4,none⟩))),(some 24,.v (.agg #[.int .u64 (za b 0),.int .u64 (za b 1),.int .u64 (za b 2),.int .u64 (za b 3)])),(some 25,.v (.pointer (some ⟨fb,19,none⟩))),(some 26,.v (.pointer (some ⟨fb,19,none⟩))),(some 27,.v (.slice (some ⟨g,0,none⟩) R.length cp)),(some 28,.v (.int .i64 (i:Int))),(some 29,.v (.pointer (some ⟨g,i*4,none⟩))),(some 30,.v (.agg #[.int .u64 (za a 0),.int .u64 (za a 1),.int .u64 (za a 2),.int .u64 (za a 3)])),(some 31,.v (.pointer (some ⟨g,i*4,none⟩))),(none,.v undef),(some 32,.v (.pointer (some ⟨g,j*4,none⟩))),(none,.v undef)] [21,23] [2,6,10,12,13,16,18,19,20,22] (by kernel_rfl) (by rfl) (by rfl) (by kernel_rfl) ((Below.refl _ w).drew) (phw_bel)
     (zf _ _ _ rfl rfl
     (fun s x hph hdf hv hl K hK=>by
      exact zf8 (g:=g) (o:=i*4) (n:=b) (hv 31 _ rfl) (hv 24 _ rfl) (zgw (zm hs hph) hi) (hK _ _ ⟨zlF (zm hs hph) hi b,(Kb.of_below hph).setCells g (Or.inl (by simp)) _ _⟩ trivial (fun _=>rfl) rfl))
     (zf _ _ _ rfl rfl
     (fun s x hph hdf hv hl K hK=>by
      exact zf8 (g:=g) (o:=j*4) (n:=a) (hv 32 _ rfl) (hv 30 _ rfl) (zgw (l:=R.set i b) (by rw[List.length_set];exact hph.1) (by rw[List.length_set];exact hj)) (hK _ _ ⟨by have:=zlF (l:=R.set i b) (cp:=cp) (by rw[List.length_set];exact hph.1) (by rw[List.length_set];exact hj) a;rw[List.length_set] at this;exact this,hph.2.setCells g (Or.inl (by simp)) _ _⟩ trivial (fun _=>rfl) rfl))
     True.intro))
     (zf _ _ _ rfl rfl
     (fun k s x hk hlo hhi hph hdf hv hl K hK=>by
      have hx:Below w.heap.size w x:=zbJ hph (hhi 0 21 rfl (by kernel_rfl));exact zv (v:=(.slice (some ⟨g,0,none⟩) R.length cp)) (fun w=>by kernel_rfl) (hv 12 _ rfl) ((hx.cell (by exact hlt)).trans hc) (hK _ x (Below.refl _ _) nn1 rfl))
     (zf _ _ _ rfl rfl
     (fun k s x hk hlo hhi hph hdf hv hl K hK=>by
      have hx:Below w.heap.size w x:=zbJ hph (hhi 0 21 rfl (by kernel_rfl));exact zv (v:=(.slice (some ⟨g,0,none⟩) R.length cp)) (fun w=>by kernel_rfl) (hv 16 _ rfl) ((hx.cell (by exact hlt)).trans hc) (hK _ x (Below.refl _ _) nn1 rfl))
     (zf _ _ _ rfl rfl
     (fun k s x hk hlo hhi hph hdf hv hl K hK=>by
      have hx:Below w.heap.size w x:=zbJ hph (hhi 0 21 rfl (by kernel_rfl));exact zv (v:=(.slice (some ⟨g,0,none⟩) R.length cp)) (fun w=>by kernel_rfl) (hv 20 _ rfl) ((hx.cell (by exact hlt)).trans hc) (hK _ x (Below.refl _ _) nn1 rfl))
     (zf _ _ _ rfl rfl
     (fun k s x hk hlo hhi hph hdf hv hl K hK=>by
      exact zcY (j:=j) (hv 21 _ rfl) (hv 22 _ rfl) hj (hK _ x (Below.refl _ _) nn1 rfl))
     (zf _ _ _ rfl rfl
     (fun k s x hk hlo hhi hph hdf hv hl K hK=>by
      have hx:Below w.heap.size w x:=zbJ hph (hhi 0 21 rfl (by kernel_rfl));obtain⟨q0,q1,q2,q3⟩:=Wds.at (zm hs hx) hj hb;exact zB (n:=b) (hv 23 _ rfl) q0 q1 q2 q3 (hK _ x (Below.refl _ _) nn1 rfl))
     (zf _ _ _ rfl rfl
     (fun k s x hk hlo hhi hph hdf hv hl K hK=>by
      have hx:Below w.heap.size w x:=zbJ hph (hhi 0 21 rfl (by kernel_rfl));exact zv (v:=(.slice (some ⟨g,0,none⟩) R.length cp)) (fun w=>by kernel_rfl) (hv 26 _ rfl) ((hx.cell (by exact hlt)).trans hc) (hK _ x (Below.refl _ _) nn1 rfl))
     (zf _ _ _ rfl rfl
     (fun k s x hk hlo hhi hph hdf hv hl K hK=>by
      exact zcY (j:=i) (hv 27 _ rfl) (hv 28 _ rfl) hi (hK _ x (Below.refl _ _) nn1 rfl))
     (zf _ _ _ rfl rfl
     (fun k s x hk hlo hhi hph hdf hv hl K hK=>by
      have hx:Below w.heap.size w x:=zbJ hph (hhi 0 21 rfl (by kernel_rfl));obtain⟨q0,q1,q2,q3⟩:=Wds.at (zm hs hx) hi ha;exact zB (n:=a) (hv 29 _ rfl) q0 q1 q2 q3 (hK _ x (Below.refl _ _) nn1 rfl))
     (zf _ _ _ rfl rfl
     (fun k s x hk hlo hhi hph hdf hv hl K hK=>by
      exact zcY (j:=i) (hv 13 _ rfl) (hv 14 _ rfl) hi (hK _ x (Below.refl _ _) nn1 rfl))
     (zf _ _ _ rfl rfl
     (fun k s x hk hlo hhi hph hdf hv hl K hK=>by
      exact zcY (j:=j) (hv 17 _ rfl) (hv 18 _ rfl) hj (hK _ x (Below.refl _ _) nn1 rfl))
     True.intro))))))))))
     (fun _ _ _ h=>(zo rfl h).elim) (fun _ _ _ h=>(zo rfl h).elim) ?_
   intro gg x hph _
   have HO:Hid (Out (some ((),{F with st:=zbz n F.st})) zx base fb S w (.returned (.tuple #[])) x):=by
    refine⟨rfl, ?_⟩;obtain⟨h1,h2⟩:=hph;have h:=HSV.out;have hgS:g∈S:=by rw[h.foot];exact List.mem_cons_of_mem _ (List.mem_append_left _ (by simp[Value.ownBlock]))
    have hsub:∀k∈[g],k∈S:=fun k hk=>by
     obtain rfl:k=g:=(by simpa using hk);exact hgS
    refine⟨S,.slice (some ⟨g,0,none⟩) R.length cp,mv,⟨h2.row h.row (fun hm=>h.fs g rfl (show g=fb from(List.mem_singleton.1 hm).symm)), ?_,h2.own h.me (fun k hk hm=> ?_),h.foot, ?_,h.mel,h.gal,Nat.le_trans h.hb h2.size,zcA h.zr h2 (fun hm=>h.no0 (hsub 0 hm)) h.hs,h.hb1,h.hfb,h.m32,h.jr.kb h2 (fun g' N f hr hm=>h.bno g' N f hr (hsub g' hm))⟩,h2.mono hsub,fun k hk=>Or.inl hk⟩
    ·show Wds x base _ (zbz n F.st).reverse;rw[HR.out];exact h1
    ·obtain rfl:k=g:=(by simpa using hm);exact h.sm k hk (List.mem_cons_of_mem _ (by simp[Value.ownBlock]))
    ·show(zbz n F.st).length<=1024;simpa[zbz] using h.stl
   simp only[yy,yw,yx,Zg,zF,List.foldl_cons,List.foldl_nil,Act.put];go_wp2;go_end0;exact HO.out
  ·have e:zb6 n F=none:=if_neg hnl;rw[e];have HP2:=zb (zcX fb 19 n F.st.length cp ad w hc hl (by omega) (by omega));clear hc h e hl h0 hnl;go_enter func240,ntmps240;go_wp2_with fail
   refine HP.out.mono ?_;rintro e x ⟨rfl,hxe⟩;obtain rfl:=hxe.symm;go_wp2_with fail
   refine HP2.out.mono ?_;rintro e x ⟨⟨u,pv,rfl⟩,hxe⟩;obtain rfl:=hxe.symm;exact⟨rfl,⟨_,_,rfl⟩,Kb.refl _ _⟩
end
section
open Go.Maps
theorem zn5:prog.underlying 128=some (.map 217 24):=by kernel_rfl
theorem zhY:prog.cellsOf 217=9:=by kernel_rfl
theorem zoL:prog.cellsOf 215=1:=by kernel_rfl
theorem cl_kt:prog.keyType 217=true:=by kernel_rfl
theorem kd_lits (d k:Nat) (hk:k<3):prog.keyLits (d+1) 215 [.int .i64 (k:Int)]=some [.int .i64 (k:Int)]:=by
 unfold Program.keyLits;rw[underlying215];refine if_pos ⟨rfl, ?_⟩;simp[Lit.wf,IntKind.min,IntKind.max,IntKind.signed,IntKind.bits];omega
theorem zcS (d n:Nat):∃l,prog.keyLits (d+2) 24 [.int .u64 (za n 0),.int .u64 (za n 1),.int .u64 (za n 2),.int .u64 (za n 3)]=some l:=by
 rw[zgX];simp[List.range,List.range.loop,zfl,zlo]
theorem zog (k a key:Nat) (hk:k<3):∃l,keyOf prog 217 (ZU k a key)=some l:=by
 obtain⟨m,hm⟩:=zdo;unfold keyOf;rw[underlying217];simp only[cl_kt,Value.formed,underlying217,zhY,Bool.true_and];rw[hm,if_pos (by rfl)];show∃l,Option.map _ (prog.keyLits (m+2+1) 217 [.int .i64 (k:Int),.int .u64 (za a 0),.int .u64 (za a 1),.int .u64 (za a 2),.int .u64 (za a 3),.int .u64 (za key 0),.int .u64 (za key 1),.int .u64 (za key 2),.int .u64 (za key 3)])=some l;obtain⟨l1,h1⟩:=zcS m a;obtain⟨l2,h2⟩:=zcS m key;have h0:=kd_lits (m+1) k hk
 conv=>enter [1,l,1,2];unfold Program.keyLits
 rw[underlying217];simp[zhY,zoL,zc0,h0,h1,h2]
theorem zmt {k a b a' b':Nat} (h:ZU k a b=ZU k a' b'):a%M=a'%M/\b%M=b'%M:=by
 injection h with h
 injection h with h
 injection h with _ h
 injection h with h0 h
 injection h with h1 h
 injection h with h2 h
 injection h with h3 h
 injection h with h4 h
 injection h with h5 h
 injection h with h6 h
 injection h with h7 h
 exact⟨zeK (by unfold wv;rw[h0,h1,h2,h3]),zeK (by unfold wv;rw[h4,h5,h6,h7])⟩
theorem zij {k a b a' b':Nat} (h1:a%M=a'%M) (h2:b%M=b'%M):ZU k a b=ZU k a' b':=by
 have e1:=yl h1;have e2:=yl h2;unfold wv at e1 e2;injection e1 with e1
 injection e1 with e1
 injection e1 with p0 e1
 injection e1 with p1 e1
 injection e1 with p2 e1
 injection e1 with p3 e1
 injection e2 with e2
 injection e2 with e2
 injection e2 with q0 e2
 injection e2 with q1 e2
 injection e2 with q2 e2
 injection e2 with q3 e2
 unfold ZU zdU;rw[p0,p1,p2,p3,q0,q1,q2,q3]
theorem PM.look {w:World} {pb n:Nat} {p:Nat->Nat->Nat} (h:PM w pb n p) (a k:Nat):(Instr.lookup 128 (.map (some pb)) (ZU 2 a k) false).run prog w=.ok (wv (p a k)) w:=by
 obtain⟨g,h1,h2⟩:=h;obtain⟨l,hl⟩:=zog 2 a k (by omega);rw[h1.look ziC zn5 zeP hl];have:=h2 a k;unfold wv at this;rw[zs,zs,zs,zs] at this;rw[this]
theorem PM.store {w:World} {pb n:Nat} {p:Nat->Nat->Nat} (h:PM w pb n p) (hn:n<maxLen) (a k v:Nat):∃y,(Instr.mapUpdate 128 (.map (some pb)) (ZU 2 a k) (wv v)).run prog w=.ok () y/\PM y pb (n+1) (fun b q=>if b%M=a%M/\q%M=k%M then v else p b q)/\w.mapTurned y pb:=by
 obtain⟨g,h1,h2⟩:=h;obtain⟨l,hl⟩:=zog 2 a k (by omega);obtain⟨y,g',hr,h3,h4,h5,h6⟩:=h1.store ziC zn5 hn (wv v) hl;refine⟨y,hr,⟨g',h3,fun b q=> ?_⟩,h6⟩;by_cases e:b%M=a%M/\q%M=k%M
 ·dsimp only;rw[if_pos e,zij e.1 e.2,h4];rfl
 ·dsimp only;rw[if_neg e,h5 _ (fun h=>e (zmt h)),h2]
theorem zdJ {base tb:Nat} {T:TS} {V:TV} (a key:Nat) (w:World) (h:Tr base tb T V w):
  Calls prog 202 #[.pointer (some ⟨tb,0,none⟩),ZU 2 a key] w fun e w'=>e=.returned (wv (T.pas a key))/\Below w.heap.size w w':=by
 have h2:=h.below (zer w 2 a key);have hlk:(Instr.lookup 128 (.map (some V.pb)) (.agg #[.int .i64 2,.int .u64 (za a 0),.int .u64 (za a 1),.int .u64 (za a 2),.int .u64 (za a 3),.int .u64 (za key 0),.int .u64 (za key 1),.int .u64 (za key 2),.int .u64 (za key 3)]) false).run prog _=.ok (wv (T.pas a key)) _:=h2.pas.look a key;have c0:=h2.row.cell (i:=1) (by decide);rw[show trC V 1=.map (some V.pb) from rfl] at c0;generalize T.pas a key=r at*;clear h h2;go_enter func202,ntmps202;go_wp2
 go_region
 go_wp2;refine bodyPost_ret (v:=wv r) (by simp[results,results202,go_sem]) rfl ⟨rfl,(bal (bal (Below.refl _ w) _) _).drew⟩
theorem Tr.pas_to {base tb n':Nat} {T:TS} {V:TV} {w w':World} {p:Nat->Nat->Nat} (h:Tr base tb T V w) (hk:Kb [V.pb] w w') (hn:V.n<=n') (hp:PM w' V.pb n' p):TTo base tb T V {T with pas:=p} (n' - V.n) w w':=by
 have hm:∀k∈[V.pb],∃es cl,w.heap[k]? =some (.map es cl):=fun k hk=>by obtain rfl:k=V.pb:=(by simpa using hk);exact h.pas.is
 refine⟨{V with n:=n'},[V.pb],⟨hk.row h.row (fun e=>ZN h.row (hm _ e) rfl),(h.acc.kb hk (fun k hk hf=>h.pn (by obtain rfl:k=V.pb:=(by simpa using hk);exact hf))).mono hn,hp,hk.own h.ch (fun k e hS=>yj h.ch (hm k hS) e),h.lo.kb hk (fun k e hS=>yj h.lo.2.1 (hm k hS) e) (fun t ht k e hS=>by obtain⟨l,hl⟩:=h.lo.tv ht;exact yj hl (hm k hS) e),h.zr.kb hk (fun e=>zbQ h.zr (hm _ e) rfl),Nat.le_trans h.hb hk.size,h.hb1,h.pn⟩,by show n'<=_;omega,hk,fun k hk=>Or.inr (Or.inr (Or.inl (by simpa using hk))),fun k hk=>Or.inl hk,rfl⟩
theorem TTo.mono {base tb m m':Nat} {T T':TS} {V:TV} {w w':World} (h:TTo base tb T V T' m w w') (hm:m<=m'):TTo base tb T V T' m' w w':=by
 obtain⟨V',S,h1,h2,h3⟩:=h;exact⟨V',S,h1,by omega,h3⟩
theorem zcV {base tb:Nat} {T:TS} {V:TV} (a key v:Nat) (w:World) (h:Tr base tb T V w) (hn:V.n<900000000000):
  Calls prog 159 #[.pointer (some ⟨tb,0,none⟩),ZU 2 a key,wv v] w fun e w'=>e=.returned (.tuple #[])/\TTo base tb T V (yN T 2 a key v) 2 w w':=by
 have h2:=h.below (zaN w 2 a key v);obtain⟨y,hrun,hpm,htu⟩:=h2.pas.store (by unfold maxLen;omega) a key v;have hrun:(Instr.mapUpdate 128 (.map (some V.pb)) (.agg #[.int .i64 2,.int .u64 (za a 0),.int .u64 (za a 1),.int .u64 (za a 2),.int .u64 (za a 3),.int .u64 (za key 0),.int .u64 (za key 1),.int .u64 (za key 2),.int .u64 (za key 3)]) (wv v)).run prog _=.ok () y:=hrun;have c0:=h2.row.cell (i:=1) (by decide);rw[show trC V 1=.map (some V.pb) from rfl] at c0
 have HO:Hid (TTo base tb T V (yN T 2 a key v) 2 w y):=by
  obtain⟨t1,t2,t3,t4,t5⟩:=zfZ htu;have hto:=(h2.pas_to ⟨t1,t2,t3,t4,fun k hk hn=>t5 k hk (by simpa using hn)⟩ (Nat.le_succ _) hpm).pre (zaN w 2 a key v);exact hto.mono (by show V.n+1 - V.n<=2;omega)
 clear h h2 hpm htu;go_enter func159,ntmps159;go_wp2
 go_region
 go_wp2;go_end0;exact⟨rfl,HO.out⟩
theorem ziU {base tb:Nat} {T:TS} {V:TV} (at' key v:Nat) (w:World) (h:Tr base tb T V w) (hl:T.ch.length<1000000000) (hn:V.n<900000000000):
  Calls prog 154 #[.pointer (some ⟨tb,0,none⟩),ZU 2 at' key,wv v] w fun e w'=>e=.returned (.tuple #[])/\TTo base tb T V (yY T 2 at' key v) 2 w w':=
 zkl 2 at' key v _ w h rfl hl (fun x hx=>zdJ at' key x hx) (fun T' V' x hx hv=>zcV at' key v x hx (by omega))
end
section
open Go.Maps
def yv:List Chg->TS->TS
 |[],T=>T
 |c::r,T=>yN (yv r T) c.kind c.at' c.key c.old
def zgm (T:TS) (m1 m2:Nat):TS:={yv (T.ch.drop m1) T with ch:=T.ch.take m1,logs:=T.logs.take m2}
theorem zbF (T:TS) (k a key v:Nat):(yN T k a key v).ch=T.ch/\(yN T k a key v).logs=T.logs:=by
 unfold yN;split
 ·exact⟨rfl,rfl⟩
 ·split<;>exact⟨rfl,rfl⟩
theorem zbw (T:TS):∀l:List Chg,(yv l T).ch=T.ch/\(yv l T).logs=T.logs
 |[]=>⟨rfl,rfl⟩
 |c::r=>by
  have h:=zbw T r;have h2:=zbF (yv r T) c.kind c.at' c.key c.old;exact⟨h2.1.trans h.1,h2.2.trans h.2⟩
def chC1 (c:Chg):List Value:=[.int .i64 (c.kind:Int),.int .u64 (za c.at' 0),.int .u64 (za c.at' 1),.int .u64 (za c.at' 2),.int .u64 (za c.at' 3),.int .u64 (za c.key 0),.int .u64 (za c.key 1),.int .u64 (za c.key 2),.int .u64 (za c.key 3)]
theorem zjT:∀(l:List Chg) (j:Nat) (h:j<l.length) (i:Nat),i<13->(chL l)[j*13+i]? =(chC l[j])[i]?
 |c::l,0,h,i,hi=>by
  rw[Nat.zero_mul,Nat.zero_add];show(chC c++chL l)[i]? =_;rw[List.getElem?_append_left (by show i<13;exact hi)];rfl
 |c::l,j+1,h,i,hi=>by
  have ih:=zjT l j (by simpa using h) i hi;show(chC c++chL l)[(j+1)*13+i]? =_;rw[List.getElem?_append_right (by show 13<=_;omega),show(j+1)*13+i - (chC c).length=j*13+i by show _ - 13=_;omega];exact ih
theorem zmi {w:World} {base g cp i:Nat} {l:List Chg} {c:Chg} (hs:w.ownsRow base 220 13 (.slice (some ⟨g,0,none⟩) l.length cp) l.length (chL l)) (hi:i<l.length) (hc:l[i]=c):w.rangeAt g (i*13) (chC1 c):=by
 intro j v hv;have hj:j<9:=(List.getElem?_eq_some_iff.1 hv).1;have h1:=World.ownsRow.cellAt hs (i*13+j) (by omega);rw[zjT l i hi j (by omega),hc] at h1;rw[h1,<-hv];exact List.getElem?_append_left (l₁:=chC1 c) (l₂:=wl c.old) hj
theorem zmR {w:World} {base g cp i:Nat} {l:List Chg} {c:Chg} (hs:w.ownsRow base 220 13 (.slice (some ⟨g,0,none⟩) l.length cp) l.length (chL l)) (hi:i<l.length) (hc:l[i]=c):w.rangeAt g (i*13+9) (wl c.old):=by
 intro j v hv;have hj:j<4:=(List.getElem?_eq_some_iff.1 hv).1;have h1:=World.ownsRow.cellAt hs (i*13+9+j) (by omega);rw[Nat.add_assoc,zjT l i hi (9+j) (by omega),hc] at h1;rw[Nat.add_assoc,h1,<-hv];show(chC1 c++wl c.old)[9+j]? =_;rw[List.getElem?_append_right (by show 9<=_;omega)];show(wl c.old)[9+j - 9]? =_;rw[Nat.add_sub_cancel_left]
theorem zh9:∀{l:List Chg} {m:Nat},m<=l.length->chL (l.take m)=(chL l).take (m*13)
 |_,0,_=>by simp[chL]
 |c::l,m+1,h=>by
  have ih:=zh9 (l:=l) (m:=m) (by simpa using h);show chC c++chL (l.take m)=(chC c++chL l).take ((m+1)*13);rw[ih,show(m+1)*13=(chC c).length+m*13 by show _=13+_;omega,List.take_length_add_append]
theorem info_cl:(prog.info? 217).map (·.size)=some 9:=by kernel_rfl
def za2 (v:Value) (m:Nat):Value:=match v with
 |.slice (some a) _ cp=>.slice (some a) m cp
 |v=>v
def SlOk (v:Value) (n:Nat):Prop:=(v=.slice none 0 0/\n=0)\/∃g cp:Nat,v=.slice (some ⟨g,0,none⟩) n cp/\n<=cp/\cp<=maxLen
theorem zeJ {w:World} {base e size n:Nat} {v:Value} {xs:List Value} (h:w.ownsRow base e size v n xs):SlOk v n:=by
 rcases h.2 with h1|⟨g,cap,cur,h1,h2,h3,h4,h5,h6,h7⟩
 ·exact Or.inl h1
 ·exact Or.inr ⟨g,cap,h1,h4,h5⟩
theorem zg4 {w:World} {base e size n:Nat} {v:Value} {xs:List Value} (h:w.ownsRow base e size v n xs) {m:Nat} (hm:m<=n):w.ownsRow base e size (za2 v m) m (xs.take (m*size)):=by
 have hms:m*size<=n*size:=Nat.mul_le_mul_right _ hm;refine⟨by rw[List.length_take,h.1];omega, ?_⟩;rcases h.2 with⟨rfl,rfl⟩|⟨g,cap,cur,rfl,h2,h3,h4,h5,h6,h7⟩
 ·exact Or.inl ⟨rfl,by omega⟩
 ·exact Or.inr ⟨g,cap,cur,rfl,h2,h3,by omega,h5,h6,by rw[<-h7,List.take_take];congr 1;omega⟩
theorem zeB (v:Value) (m:Nat):(za2 v m).ownBlock=v.ownBlock:=by
 unfold za2;split<;>rfl
theorem zkD {v:Value} {n:Nat} (h:SlOk v n) (m:Nat):∃ad a b,za2 v m=.slice ad a b:=by
 rcases h with⟨rfl,_⟩|⟨g,cp,rfl,_⟩
 ·exact⟨_,_,_,rfl⟩
 ·exact⟨_,_,_,rfl⟩
section
variable {s:Act} {x:World} {pos:String} {af:Array Edge} {gd:Option (Nat×Bool)} {K:Act->World->Prop} {Q:Exit->Act->World->Prop}
theorem zjj {t u d j len cap gg:Nat} {ty:TypeId} (he:s.tmps.getD t undef=.slice (some ⟨gg,0,none⟩) len cap) (hu:s.tmps.getD u undef=.int .i64 (j:Int)) (hj:j<len) (hK:K (s.put (some d) (.pointer (some ⟨gg,j*13,none⟩))) x):
  Oper.wp prog ⟨some d,.indexAddr 129 (.tmp t) (.tmp u),ty,pos,af,gd⟩ s x K Q:=by
 have he2:s.eval (.tmp t)=.slice (some ⟨gg,0,none⟩) len cap:=he;have hu2:s.eval (.tmp u)=.int .i64 (j:Int):=hu;go_simp;exact hK
theorem znI {sv:Value} {t u d m n sz:Nat} {T ty e:TypeId} (hT:prog.underlying T=some (.slice e)) (hS:∀x,(sizeOf e).run prog x=.ok sz x) (h1:s.tmps.getD t undef=sv) (h2:s.tmps.getD u undef=.int .i64 (m:Int)) (hs:SlOk sv n) (hm:m<=n) (hK:K (s.put (some d) (za2 sv m)) x):
  Oper.wp prog ⟨some d,.slice T (.tmp t) none (some (.tmp u)) none,ty,pos,af,gd⟩ s x K Q:=by
 have f1:s.eval (.tmp t)=sv:=h1;have f2:s.eval (.tmp u)=.int .i64 (m:Int):=h2;rcases hs with⟨rfl,rfl⟩|⟨g,cp,rfl,hc,hc2⟩
 ·obtain rfl:m=0:=by omega
  have hS:=hS x;go_simp;exact hK
 ·unfold maxLen at hc2;have hS:=hS x;have hmc:m<=cp:=by omega
  go_simp;exact hK
end
def PhM1 (R:World->Prop) (w:World):Nat->World->Prop
 |0,x=>Below w.heap.size w x
 |_,x=>R x
theorem zcz {R:World->Prop} {w x:World} {k:Nat} (h:PhM1 R w k x) (hk:k<=0):Below w.heap.size w x:=by
 obtain rfl:k=0:=by omega
 exact h
theorem zno {R:World->Prop} {w:World} (hR:∀x x',R x->Below x.heap.size x x'->R x') (k:Nat) (x x':World) (h:PhM1 R w k x) (hb:Below x.heap.size x x'):PhM1 R w k x':=by
 match k,h with
 |0,h=>exact(show Below w.heap.size w x from h).trans (hb.mono (show Below w.heap.size w x from h).size)
 |_+1,h=>exact hR x x' h hb
theorem zok {base tb:Nat} {T:TS} {V:TV} (k a key v:Nat) (hk:k<3) (w:World) (h:Tr base tb T V w) (hn:V.n<900000000000):
  Calls prog 159 #[.pointer (some ⟨tb,0,none⟩),ZU k a key,wv v] w fun e w'=>e=.returned (.tuple #[])/\TTo base tb T V (yN T k a key v) 2 w w':=by
 rcases ltq3 hk with rfl|rfl|rfl
 ·exact zeL a key v w h hn
 ·exact zcP a key v w h hn
 ·exact zcV a key v w h hn
theorem drop_at {l:List Chg} {i:Nat} (h:i<l.length):l.drop i=l[i]::l.drop (i+1):=List.drop_eq_getElem_cons h
theorem zaX {s:Act} {x:World} {pos:String} {af:Array Edge} {gd:Option (Nat×Bool)} {K:Act->World->Prop} {Q:Exit->Act->World->Prop} {T ty:TypeId} (hS:∀x,(sizeOf T).run prog x=.ok 1 x) {t1 t2 b off:Nat} {v u:Value} (hv:∃ad n c,v=.slice ad n c) (h1:s.tmps.getD t1 undef=.pointer (some ⟨b,off,none⟩)) (h2:s.tmps.getD t2 undef=v) (hc:x.cell? ⟨b,off,none⟩=some u) (hf:x.frozen? ⟨b,off,none⟩=false) (hK:K (s.put none undef) (x.setCell ⟨b,off,none⟩ v)):
  Oper.wp prog ⟨none,.store T (.tmp t1) (.tmp t2),ty,pos,af,gd⟩ s x K Q:=by
 obtain⟨ad,n,c,rfl⟩:=hv;have f1:s.eval (.tmp t1)=.pointer (some ⟨b,off,none⟩):=h1;have f2:s.eval (.tmp t2)=.slice ad n c:=h2;have hS:=hS x;go_simp;exact hK
def PhC (w:World) (p:Addr) (v:Value):Nat->World->Prop
 |0,x=>Below w.heap.size w x
 |_,x=>∃y,Below w.heap.size w y/\Below (y.setCell p v).heap.size (y.setCell p v) x
theorem zd8 {w:World} {p:Addr} {v:Value} (k:Nat) (x x':World) (h:PhC w p v k x) (hb:Below x.heap.size x x'):PhC w p v k x':=by
 match k,h with
 |0,h=>exact(show Below w.heap.size w x from h).trans (hb.mono (show Below w.heap.size w x from h).size)
 |_+1,⟨y,h1,h2⟩=>exact⟨y,h1,h2.trans (hb.mono h2.size)⟩
theorem zam {w x:World} {p:Addr} {v:Value} {k:Nat} (h:PhC w p v k x) (hk:k<=0):Below w.heap.size w x:=by
 obtain rfl:k=0:=by omega
 exact h
theorem zoz:(112:Nat)≠24:=by decide
theorem Tr.lo_to {base tb:Nat} {T:TS} {V:TV} {w w':World} {v':Value} {tv':List Value} {L':List LogE} (h:Tr base tb T V w) (hu:Up V.lv.ownBlock.toList tb 3 v' w w') (ho:Lo w' base v' tv' L') (hf:Fresh w V.lv v') (htv:∀t∈tv',∀k,t.ownBlock=some k->(∃t'∈V.tv,t'.ownBlock=some k)\/w.heap.size<=k):TTo base tb T V {T with logs:=L'} 0 w w':=by
 have hcb:∀k,V.lv.ownBlock=some k->base<=k:=fun k hk=>(h.lo.2.1.lt k hk).1
 have hS:∀k∈tb::V.lv.ownBlock.toList,k=tb\/V.lv.ownBlock=some k:=fun k hk=>by simpa using hk
 have hnm:∀k,(∃es cl,w.heap[k]? =some (.map es cl))->k∉tb::V.lv.ownBlock.toList:=fun k hm hk=>by
  rcases hS k hk with e|e
  ·exact ZN h.row hm e.symm
  ·exact yj h.lo.2.1 hm e
 have hdis:∀{e size n v xs b},w.ownsRow b e size v n xs->131≠e->112≠e->∀k,v.ownBlock=some k->k∉tb::V.lv.ownBlock.toList:=fun ho h1 h2 k hk hm=>by
  rcases hS k hm with e|e
  ·exact zI h.row ho h1 k hk e
  ·rcases zfE h.lo.2.1 ho h2 with e2|e2
   ·rw[e] at e2;cases e2
   ·exact e2 (e.trans hk.symm)
 have h0:0∉tb::V.lv.ownBlock.toList:=fun hm=>by
  rcases hS 0 hm with e|e
  ·have h1:=h.row.cell (i:=0) (by decide);rw[<-e] at h1;rw[h.zr.1.1] at h1;cases h1
  ·have:=hcb 0 e;have:=h.hb1;omega
 have hT:Tr base tb {T with logs:=L'} {V with lv:=v',tv:=tv'} w':=by
  refine⟨?_,h.acc.kb hu.kb (fun k hk hm=>hnm k (h.acc.isMap hm) hk),h.pas.kb hu.kb (hnm _ h.pas.is),hu.kb.own h.ch (hdis h.ch zes (Ne.symm zka)),ho,h.zr.kb hu.kb h0,Nat.le_trans h.hb hu.kb.size,h.hb1,h.pn⟩;refine(hu.row h.row).congr fun i hi=> ?_
  have hi:i<4:=hi;rcases ltq4 hi with rfl|rfl|rfl|rfl<;>rfl
 refine⟨_,_,hT,Nat.le_refl _,hu.kb,fun k hk=> ?_,fun k hk=> ?_,rfl⟩
 ·rcases hS k hk with e|e
  ·exact Or.inl e
  ·exact Or.inr (Or.inr (Or.inr (Or.inr (Or.inl e))))
 ·rcases hk with e|e|e|e|e|⟨t,ht,e⟩
  ·exact Or.inl (Or.inl e)
  ·exact Or.inl (Or.inr (Or.inl e))
  ·exact Or.inl (Or.inr (Or.inr (Or.inl e)))
  ·exact Or.inl (Or.inr (Or.inr (Or.inr (Or.inl e))))
  ·rcases hf with e2|e2
   ·exact Or.inl (Or.inr (Or.inr (Or.inr (Or.inr (Or.inl (e2▸e))))))
   ·exact Or.inr (e2 k e)
  ·rcases htv t ht k e with e|e
   ·exact Or.inl (Or.inr (Or.inr (Or.inr (Or.inr (Or.inr e)))))
   ·exact Or.inr e
theorem zjk:∀{L:List LogE} {tv:List Value} {m:Nat},tv.length=L.length->m<=L.length->loL (L.take m) (tv.take m)=(loL L tv).take (m*6)
 |_,_,0,_,_=>by simp[loL]
 |l::L,t::tv,m+1,h1,h=>by
  have ih:=zjk (L:=L) (tv:=tv) (m:=m) (by simpa using h1) (by simpa using h);show loC l t++loL (L.take m) (tv.take m)=(loC l t++loL L tv).take ((m+1)*6);rw[ih,show(m+1)*6=(loC l t).length+m*6 by show _=6+_;omega,List.take_length_add_append]
theorem Lo.take {w:World} {base:Nat} {lv:Value} {tv:List Value} {L:List LogE} (h:Lo w base lv tv L) {m:Nat} (hm:m<=L.length):Lo w base (za2 lv m) (tv.take m) (L.take m):=by
 refine⟨by rw[List.length_take,List.length_take,h.1], ?_,fun i l t h1 h2=>h.2.2 i l t ?_ ?_⟩
 ·rw[zjk h.1 hm,show(L.take m).length=m by rw[List.length_take];omega];exact zg4 h.2.1 hm
 ·rw[List.getElem?_take] at h1;split at h1
  ·exact h1
  ·cases h1
 ·rw[List.getElem?_take] at h2;split at h2
  ·exact h2
  ·cases h2
theorem zgA {base tb:Nat} {T:TS} {V:TV} (m1 m2:Nat) (w:World) (h:Tr base tb T V w) (hm1:m1<=T.ch.length) (hm2:m2<=T.logs.length) (hkd:∀c∈T.ch,c.kind<3) (hn:V.n+2*T.ch.length<900000000000):
  Calls prog 96 #[.pointer (some ⟨tb,0,none⟩),.agg #[.int .i64 (m1:Int),.int .i64 (m2:Int)]] w fun e w'=>e=.returned (.tuple #[])/\TTo base tb T V (zgm T m1 m2) (2*(T.ch.length - m1)) w w':=by
 have hB:Below w.heap.size w (w.alloc (.cells #[.int .i64 (m1:Int),.int .i64 (m2:Int)] 186)):=bal (Below.refl _ w) _;have c2:=(h.below hB).row.cell (i:=2) (by decide);rw[show trC V 2=V.cv from rfl] at c2;obtain⟨ad,cp,hcv⟩:=Zk h.ch;rw[hcv] at c2;go_enter func96,ntmps96;go_wp2;obtain⟨w1,HW⟩:∃w1,Hid (w1=w.alloc (.cells #[.int .i64 (m1:Int),.int .i64 (m2:Int)] 186)):=⟨_,rfl⟩;have h1:=h.below hB;have b0:(w.alloc (.cells #[.int .i64 (m1:Int),.int .i64 (m2:Int)] 186)).cell? ⟨w.heap.size,0,none⟩=some (.int .i64 (m1:Int)):=by simp[go_sem]
 have b1:(w.alloc (.cells #[.int .i64 (m1:Int),.int .i64 (m2:Int)] 186)).cell? ⟨w.heap.size,1,none⟩=some (.int .i64 (m2:Int)):=by simp[go_sem]
 have hs1:w.heap.size<(w.alloc (.cells #[.int .i64 (m1:Int),.int .i64 (m2:Int)] 186)).heap.size:=by simp
 have HFT:Hid (∀k,zG tb T V k->k<w.heap.size):=fun k hk=>h.lt hk
 rw[<-HW.out] at b0 b1 hB h1 c2 hs1⊢;have HB:=zb hB;have H1:=zb h1
 have HB0:Hid (∀T' k x,TTo base tb T V T' k w1 x->x.cell? ⟨w.heap.size,0,none⟩=some (.int .i64 (m1:Int))/\x.cell? ⟨w.heap.size,1,none⟩=some (.int .i64 (m2:Int))/\w.heap.size<x.heap.size):=fun T' k x ht=>by
  obtain⟨V',S,_,_,hk,hS,_⟩:=ht;have e:=hk.block w.heap.size hs1 (fun hm=>absurd (HFT.out _ (hS _ hm)) (Nat.lt_irrefl _));exact⟨(World.cell?_of_block e).trans b0,(World.cell?_of_block e).trans b1,Nat.lt_of_lt_of_le hs1 hk.size⟩
 have hcl:T.ch.length<900000000000:=by omega
 have HKD:=zb hkd;clear h b0 b1 hB h1 c2 hcv hkd
 go_loopw [4] (fun t4 wr=>∃i:Nat,m1<=i/\i<=T.ch.length/\t4=.int .i64 ((i:Int) - 1)/\Hid (TTo base tb T V (yv (T.ch.drop i) T) (2*(T.ch.length - i)) w1 wr)) (fun t4 _=>(RowKit.intOf t4+1).toNat)
 case atStart=>
  refine⟨T.ch.length,hm1,Nat.le_refl _,rfl, ?_⟩;rw[List.drop_length,Nat.sub_self];exact H1.out.to (Below.refl _ _)
 case round=>
  obtain⟨i,hi1,hi2,rfl,HT⟩:=hrel;obtain⟨q0,q1,q2⟩:=HB0.out _ _ _ HT.out;by_cases hlt:m1<i
  ·obtain⟨j,rfl⟩:∃j,i=j+1:=⟨i - 1,by omega⟩;have hd:decide ((m1:Int)<=((j+1:Nat):Int) - 1)=true:=decide_eq_true (by omega);have e1:((j+1:Nat):Int) - 1=(j:Int):=by omega
   rw[e1] at hd;rw[e1];obtain⟨V',S',t1,t2,t3,t4,t5,t6⟩:=HT.out;have hs:=t1.ch;rw[(zbw T (T.ch.drop (j+1))).1] at hs;obtain⟨g,cp',hcv', -, -, -⟩:=yq hs (by omega);rw[hcv'] at hs;have hc:=t1.row.cell (i:=2) (by decide);rw[show trC V' 2=V'.cv from rfl,hcv'] at hc;have hlt:=t1.row.lt;have hi:j<T.ch.length:=by omega
   obtain⟨c,hci⟩:∃c,T.ch[j]=c:=⟨_,rfl⟩
   have hput:∀x,Below wr.heap.size wr x->Calls prog 159 #[.pointer (some ⟨tb,0,none⟩),ZU c.kind c.at' c.key,wv c.old] x fun e y=>e=.returned (.tuple #[])/\TTo base tb T V (yv (T.ch.drop j) T) (2*(T.ch.length - j)) w1 y:=fun x hx=>by
    refine(zok c.kind c.at' c.key c.old (HKD.out c (by rw[<-hci];exact List.getElem_mem _)) x (t1.below hx) (by omega)).mono ?_;rintro e y ⟨e2,hy⟩;refine⟨e2, ?_⟩;have:=TTo.comp t2 (t3.below hx) t4 t5 t6 hy;rw[show 2*(T.ch.length - (j+1))+2=2*(T.ch.length - j) by omega] at this;rw[drop_at hi,hci];exact this
   have hR:∀x x',TTo base tb T V (yv (T.ch.drop j) T) (2*(T.ch.length - j)) w1 x->Below x.heap.size x x'->TTo base tb T V (yv (T.ch.drop j) T) (2*(T.ch.length - j)) w1 x':=fun x x' h hb=>h.below hb
   have hR':∃R:World->Prop,R=fun x=>TTo base tb T V (yv (T.ch.drop j) T) (2*(T.ch.length - j)) w1 x:=⟨_,rfl⟩
   clear t1 t2 t3 t4 t5 t6 HT hcv' e1;go_wp2
   refine zq (PhM1 (fun x=>TTo base tb T V (yv (T.ch.drop j) T) (2*(T.ch.length - j)) w1 x) wr) (fun _ _ _=>True) [(0,(.pointer (some ⟨tb,0,none⟩))),(4,(.int .i64 (j:Int)))] [(some 17,.v (.pointer (some ⟨tb,0,none⟩))),(some 18,.v (.pointer (some ⟨tb,0,none⟩))),(some 19,.v (.pointer (some ⟨tb,0,none⟩))),(some 20,.v (.pointer (some ⟨tb,2,none⟩))),(some 21,.v (.slice (some ⟨g,0,none⟩) T.ch.length cp')),(some 22,.v (.int .i64 (j:Int))),(some 23,.v (.pointer (some ⟨g,j*13,none⟩))),(some 24,.v (.pointer (some ⟨g,j*13,none⟩))),(some 25,.v (ZU c.kind c.at' c.key)),(some 26,.v (.pointer (some ⟨tb,0,none⟩))),(some 27,.v (.pointer (some ⟨tb,0,none⟩))),(some 28,.v (.pointer (some ⟨tb,2,none⟩))),(some 29,.v (.slice (some ⟨g,0,none⟩) T.ch.length cp')),(some 30,.v (.int .i64 (j:Int))),(some 31,.v (.pointer (some ⟨g,j*13,none⟩))),(some 32,.v (.pointer (some ⟨g,j*13+9,none⟩))),(some 33,.v (wv c.old)),(some 34,.v (.tuple #[]))] [17] [4,6,8,12,14,16] (by kernel_rfl) (by rfl) (by rfl) (by kernel_rfl) ((Below.refl _ wr).drew) (zno hR)
     (zf _ _ _ rfl rfl
     (fun s x hph hdf hv hl K hK=>by
     refine zW hv (hput x hph) (by kernel_rfl) (fun v y h=> ?_) (fun l y h=> ?_) (fun y h=> ?_)
     ·obtain⟨e,hR⟩:=h;injection e with e
      subst e;exact hK _ y hR trivial nn1 rfl
     ·cases h.1
     ·cases h.1)
     True.intro)
     (zf _ _ _ rfl rfl
     (fun k s x hk hlo hhi hph hdf hv hl K hK=>by
     have hx:Below wr.heap.size wr x:=zcz hph (hhi 0 17 rfl (by kernel_rfl));exact zv (v:=(.slice (some ⟨g,0,none⟩) T.ch.length cp')) (fun w=>by kernel_rfl) (hv 20 _ rfl) ((hx.cell (by exact hlt)).trans hc) (hK _ x (Below.refl _ _) nn1 rfl))
     (zf _ _ _ rfl rfl
     (fun k s x hk hlo hhi hph hdf hv hl K hK=>by
     exact zjj (j:=j) (hv 21 _ rfl) (hv 22 _ rfl) hi (hK _ x (Below.refl _ _) nn1 rfl))
     (zf _ _ _ rfl rfl
     (fun k s x hk hlo hhi hph hdf hv hl K hK=>by
     have hx:Below wr.heap.size wr x:=zcz hph (hhi 0 17 rfl (by kernel_rfl));exact wp_load_mid 217 (.tmp 24) rfl g (j*13) (hv 24 _ rfl) (chC1 c) _ (zmi (zm hs hx) hi hci) underlying217 rfl info_cl (hK _ x (Below.refl _ _) nn1 rfl))
     (zf _ _ _ rfl rfl
     (fun k s x hk hlo hhi hph hdf hv hl K hK=>by
     have hx:Below wr.heap.size wr x:=zcz hph (hhi 0 17 rfl (by kernel_rfl));exact zv (v:=(.slice (some ⟨g,0,none⟩) T.ch.length cp')) (fun w=>by kernel_rfl) (hv 28 _ rfl) ((hx.cell (by exact hlt)).trans hc) (hK _ x (Below.refl _ _) nn1 rfl))
     (zf _ _ _ rfl rfl
     (fun k s x hk hlo hhi hph hdf hv hl K hK=>by
     exact zjj (j:=j) (hv 29 _ rfl) (hv 30 _ rfl) hi (hK _ x (Below.refl _ _) nn1 rfl))
     (zf _ _ _ rfl rfl
     (fun k s x hk hlo hhi hph hdf hv hl K hK=>by
     have hx:Below wr.heap.size wr x:=zcz hph (hhi 0 17 rfl (by kernel_rfl));exact wp_load_mid 24 (.tmp 32) rfl g (j*13+9) (hv 32 _ rfl) (wl c.old) _ (zmR (zm hs hx) hi hci) underlying24 rfl zi6 (hK _ x (Below.refl _ _) nn1 rfl))
     True.intro))))))
     (fun _ _ _ h=>(zo rfl h).elim) (fun _ _ _ h=>(zo rfl h).elim) ?_
   intro gg x hph _;have HR:=zb (show TTo base tb T V (yv (T.ch.drop j) T) (2*(T.ch.length - j)) w1 x from hph);clear hph hput hs hc hR;simp only[yy,yw,yx,Zg,zF,List.foldl_cons,List.foldl_nil,Act.put];simp only[sx9];go_wp2
   go_roundw
   case rel=>exact⟨j,by omega,by omega,rfl,HR.out⟩
   case measure=>simp[RowKit.intOf]
  ·have hd:decide ((m1:Int)<=(i:Int) - 1)=false:=decide_eq_false (by omega);obtain rfl:i=m1:=by omega
   obtain⟨V',S',t1,t2,t3,t4,t5,t6⟩:=HT.out;have hch:=t1.ch;have hlo:=t1.lo.2.1;rw[(zbw T (T.ch.drop i)).1] at hch;rw[(zbw T (T.ch.drop i)).2] at hlo;have hsl:=zeJ hch;have gsl:=zeJ hlo;have hc:=t1.row.cell (i:=2) (by decide);have hz:=t1.row.frozen 2;rw[show trC V' 2=V'.cv from rfl] at hc;have hlt:=t1.row.lt;have hlo':=zg4 hlo hm2;have hch':=zg4 hch hm1;have HCV:Hid (V'.cv=V'.cv):=rfl;go_wp2
   refine zq (PhC wr ⟨tb,2,none⟩ (za2 V'.cv i)) (fun _ _ _=>True) [(0,(.pointer (some ⟨tb,0,none⟩))),(3,(.pointer (some ⟨w.heap.size,0,none⟩)))] [(some 35,.v (.pointer (some ⟨tb,0,none⟩))),(some 36,.v (.pointer (some ⟨tb,0,none⟩))),(some 37,.v (.pointer (some ⟨tb,0,none⟩))),(some 38,.v (.pointer (some ⟨tb,2,none⟩))),(some 39,.v V'.cv),(some 40,.v (.pointer (some ⟨w.heap.size,0,none⟩))),(some 41,.v (.int .i64 (i:Int))),(some 42,.v (za2 V'.cv i)),(some 43,.v (.pointer (some ⟨tb,0,none⟩))),(some 44,.v (.pointer (some ⟨tb,2,none⟩))),(none,.v undef)] [10] [4,6,7] (by kernel_rfl) (by rfl) (by rfl) (by kernel_rfl) ((Below.refl _ wr).drew) (zd8)
     (zf _ _ _ rfl rfl
     (fun s x hph hdf hv hl K hK=>by
     have hx:Below wr.heap.size wr x:=hph;exact zaX (u:=V'.cv) (fun _=>by kernel_rfl) (zkD hsl _) (hv 44 _ rfl) (hv 42 _ rfl) ((hx.cell (by exact hlt)).trans hc) ((hx.frozen (by exact hlt)).trans hz) (hK _ _ ⟨x,hx,Below.refl _ _⟩ trivial (fun _=>rfl) rfl))
     True.intro)
     (zf _ _ _ rfl rfl
     (fun k s x hk hlo hhi hph hdf hv hl K hK=>by
     have hx:Below wr.heap.size wr x:=zam hph (hhi 0 10 rfl (by kernel_rfl));exact zv (v:=V'.cv) (fun w=>by kernel_rfl) (hv 38 _ rfl) ((hx.cell (by exact hlt)).trans hc) (hK _ x (Below.refl _ _) nn1 rfl))
     (zf _ _ _ rfl rfl
     (fun k s x hk hlo hhi hph hdf hv hl K hK=>by
     have hx:Below wr.heap.size wr x:=zam hph (hhi 0 10 rfl (by kernel_rfl));exact zv (v:=.int .i64 (i:Int)) (fun w=>by kernel_rfl) (hv 40 _ rfl) ((hx.cell (by exact q2)).trans q0) (hK _ x (Below.refl _ _) nn1 rfl))
     (zf _ _ _ rfl rfl
     (fun k s x hk hlo hhi hph hdf hv hl K hK=>by
     exact znI (T:=129) (e:=220) (sz:=13) (n:=T.ch.length) (by kernel_rfl) (fun _=>by kernel_rfl) (hv 39 _ rfl) (hv 41 _ rfl) hsl hm1 (hK _ x (Below.refl _ _) nn1 rfl))
     True.intro)))
     (fun _ _ _ h=>(zo rfl h).elim) (fun _ _ _ h=>(zo rfl h).elim) ?_
   intro gg xq hph _;obtain⟨y,hy1,hy2⟩:PhC wr ⟨tb,2,none⟩ (za2 V'.cv i) 1 xq:=hph;have k1:V'.cv.ownBlock=(za2 V'.cv i).ownBlock:=(zeB _ _).symm;have hni:tb∉V'.cv.ownBlock.toList:=zkN t1
   obtain⟨u1,u2⟩:=t1.ch_to (c':=T.ch.take i) (Up.mk' (o:=2) (za2 V'.cv i) (Kb.of_below (S:=V'.cv.ownBlock.toList) hy1) hni hlt) (by
    rw[show(T.ch.take i).length=i by rw[List.length_take];omega];exact yV (zm (by rw[zh9 hm1];exact hch') hy1) (fun k hk e=>hni (by rw[<-e,k1,hk];simp)) _ _) (Or.inl k1.symm) (fun k hk=>(hch.lt k hk).1)
   have u2:=TTo.comp t2 t3 t4 t5 t6 (u2.below hy2);clear u1 hy1 hy2 k1 hni t1 t2 t3 t4 t5 t6 hc hz hlt hch hch' hlo hlo' hsl gsl q0 q1 q2 HT;obtain⟨q0,q1,q2⟩:=HB0.out _ _ _ u2;obtain⟨V2,S2,x1,x2,x3,x4,x5,x6⟩:=u2;have hlo:=x1.lo;rw[show TS.logs {yv (T.ch.drop i) T with ch:=T.ch.take i}=T.logs from(zbw T _).2] at hlo;have hsl:=zeJ hlo.2.1;have hc:=x1.row.cell (i:=3) (by decide);have hz:=x1.row.frozen 3;rw[show trC V2 3=V2.lv from rfl] at hc;have hlt:=x1.row.lt;simp only[yy,yw,yx,Zg,zF,List.foldl_cons,List.foldl_nil,Act.put];simp only[sx9];go_wp2
   refine zq (PhC xq ⟨tb,3,none⟩ (za2 V2.lv m2)) (fun _ _ _=>True) [(0,(.pointer (some ⟨tb,0,none⟩))),(3,(.pointer (some ⟨w.heap.size,0,none⟩)))] [(some 45,.v (.pointer (some ⟨tb,0,none⟩))),(some 46,.v (.pointer (some ⟨tb,0,none⟩))),(some 47,.v (.pointer (some ⟨tb,0,none⟩))),(some 48,.v (.pointer (some ⟨tb,3,none⟩))),(some 49,.v V2.lv),(some 50,.v (.pointer (some ⟨w.heap.size,1,none⟩))),(some 51,.v (.int .i64 (m2:Int))),(some 52,.v (za2 V2.lv m2)),(some 53,.v (.pointer (some ⟨tb,0,none⟩))),(some 54,.v (.pointer (some ⟨tb,3,none⟩))),(none,.v undef)] [10] [4,6,7] (by kernel_rfl) (by rfl) (by rfl) (by kernel_rfl) ((Below.refl _ xq).drew) (zd8)
     (zf _ _ _ rfl rfl
     (fun s x hph hdf hv hl K hK=>by
     have hx:Below xq.heap.size xq x:=hph;exact zaX (u:=V2.lv) (fun _=>by kernel_rfl) (zkD hsl _) (hv 54 _ rfl) (hv 52 _ rfl) ((hx.cell (by exact hlt)).trans hc) ((hx.frozen (by exact hlt)).trans hz) (hK _ _ ⟨x,hx,Below.refl _ _⟩ trivial (fun _=>rfl) rfl))
     True.intro)
     (zf _ _ _ rfl rfl
     (fun k s x hk hlo hhi hph hdf hv hl K hK=>by
     have hx:Below xq.heap.size xq x:=zam hph (hhi 0 10 rfl (by kernel_rfl));exact zv (v:=V2.lv) (fun w=>by kernel_rfl) (hv 48 _ rfl) ((hx.cell (by exact hlt)).trans hc) (hK _ x (Below.refl _ _) nn1 rfl))
     (zf _ _ _ rfl rfl
     (fun k s x hk hlo hhi hph hdf hv hl K hK=>by
     have hx:Below xq.heap.size xq x:=zam hph (hhi 0 10 rfl (by kernel_rfl));exact zv (v:=.int .i64 (m2:Int)) (fun w=>by kernel_rfl) (hv 50 _ rfl) ((hx.cell (by exact q2)).trans q1) (hK _ x (Below.refl _ _) nn1 rfl))
     (zf _ _ _ rfl rfl
     (fun k s x hk hlo hhi hph hdf hv hl K hK=>by
     exact znI (T:=36) (e:=112) (sz:=6) (n:=T.logs.length) (by kernel_rfl) (fun _=>by kernel_rfl) (hv 49 _ rfl) (hv 51 _ rfl) hsl hm2 (hK _ x (Below.refl _ _) nn1 rfl))
     True.intro)))
     (fun _ _ _ h=>(zo rfl h).elim) (fun _ _ _ h=>(zo rfl h).elim) ?_
   intro gg z hph _;obtain⟨y,hy1,hy2⟩:PhC xq ⟨tb,3,none⟩ (za2 V2.lv m2) 1 z:=hph;have hni:tb∉V2.lv.ownBlock.toList:=fun hm=>zI x1.row x1.lo.2.1 zfk tb (by simpa using hm) rfl
   have hu:Up V2.lv.ownBlock.toList tb 3 (za2 V2.lv m2) xq (y.setCell ⟨tb,3,none⟩ (za2 V2.lv m2)):=Up.mk' (o:=3) (za2 V2.lv m2) (Kb.of_below (S:=V2.lv.ownBlock.toList) hy1) hni hlt
   have hnew:Lo (y.setCell ⟨tb,3,none⟩ (za2 V2.lv m2)) base (za2 V2.lv m2) (V2.tv.take m2) (T.logs.take m2):=by
    have h9:=(hlo.kb (Kb.of_below (S:=[]) hy1) (by simp) (by simp)).take hm2;refine h9.kb ((Kb.refl [tb] y).setCell (p:=⟨tb,3,none⟩) (Or.inl (by simp)) _) (fun k hk hm=>hni ?_) (fun t ht k hk hm=> ?_)
    ·rw[zeB] at hk;rw[<-List.mem_singleton.1 hm,hk];simp
    ·obtain⟨l,hl⟩:=hlo.tv (List.mem_of_mem_take ht);exact zI x1.row hl zhs k hk (List.mem_singleton.1 hm)
   have u3:=x1.lo_to hu hnew (Or.inl (zeB _ _)) (fun t ht k hk=>Or.inl ⟨t,List.mem_of_mem_take ht,hk⟩);have HFIN:Hid (TTo base tb T V (zgm T i m2) (2*(T.ch.length - i)) w z):=TTo.pre HB.out (TTo.comp x2 x3 x4 x5 x6 (u3.below hy2));clear u3 hnew hu hni hy1 hy2 x1 x2 x3 x4 x5 x6 hc hz hlt hlo;simp only[yy,yw,yx,Zg,zF,List.foldl_cons,List.foldl_nil,Act.put];simp only[sx9];go_wp2;go_end0;exact⟨rfl,HFIN.out⟩
end
end cin
end Go.Proofs.YtohoajjdoihekaaGreatDoor
