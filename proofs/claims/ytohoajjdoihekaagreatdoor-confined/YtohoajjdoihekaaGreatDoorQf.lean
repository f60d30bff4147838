import Derived.Test.YtohoajjdoihekaaGreatDoorNn
import Derived.Deep.MidRow
import Derived.Shelf.SlIterI.Nil
import Derived.Shelf.SlSortCmp.KitK
import Derived.Shelf.SlGeneric
import Derived.Shelf.SlSortCmp.WholeK
set_option linter.unusedVariables false
set_option linter.unusedSimpArgs false
namespace Go.Proofs.YtohoajjdoihekaaGreatDoor
namespace cin
open Go.RowKit Go.Proofs.Tryz Tryz
set_option maxRecDepth 100000
set_option maxHeartbeats 8000000
section
open Go.Maps
def NFk (base tb:Nat) (T:TS) (V:TV) (code:ByteArray) (w0:World):Kp:=fun _ v x=>∃gb jd,v=.pointer (some ⟨gb,0,none⟩)/\w0.heap.size<=gb/\FT base gb tb (zcD tb code jd) T [gb] noL noL V x
theorem NFk.below {base tb:Nat} {T:TS} {V:TV} {code:ByteArray} {w0 x x':World} {p:Nat} {v:Value} (h:NFk base tb T V code w0 p v x) (hb:Below x.heap.size x x'):NFk base tb T V code w0 p v x':=by
 obtain⟨gb,jd,h1,h2,h3⟩:=h;exact⟨gb,jd,h1,h2,h3.below hb⟩
theorem znw {P:Program} {x:World} {T:TypeId} {m k v:Value} (h:(Instr.lookup T m k false).run P x=.ok v x):((do pure (Next.value (<-Instr.lookup T m k false)):Sem Next)).run P x=.ok (.value v) x:=by
 rw[Sem.run_bind,h];rfl
theorem cell_ro (F:Fz) (sv mv:Value) (b:Bool):(fun i=>if i=17 then .bool b else F.cell sv mv i)=({F with ro:=b}:Fz).cell sv mv:=by
 funext i;by_cases h:i=17
 ·subst h;rfl
 ·simp only[Fz.cell,if_neg h]
theorem zhn {base fb tb:Nat} {G:Nat->Fz} {T:TS} {S:List Nat} {sv mv:Value} {V:TV} {w:World} (k:Nat) (x x':World) (h:PhD base fb tb G T S sv mv V w k x) (hb:Below x.heap.size x x'):PhD base fb tb G T S sv mv V w k x':=⟨h.1.below hb,h.2.below hb⟩
def za7 (F:Fz) (tb op tt v:Nat) (code:ByteArray) (jd:Value):Fz:=
 {zcD tb code jd with depth:=F.depth+1,ro:=F.ro||op==250,self:=if op=244 then F.self else tt,caller:=if op=244 then F.caller else F.self,value:=if op=244 then F.value else v}
theorem zlr {base fb tb:Nat} {F:Fz} {T:TS} {S:List Nat} {sv mv:Value} {V:TV} (op tt v:Nat) (hop:op<=255) (w:World) (h:FT base fb tb F T S sv mv V w) (hcs:(T.acc tt).code.size<=1000) (hdl:F.depth<=1000):
  Calls prog 278 #[.pointer (some ⟨fb,0,none⟩),.int .u8 (op:Int),wv tt,wv v] w fun e w'=>∃gb jd,e=.returned (.pointer (some ⟨gb,0,none⟩))/\w.heap.size<=gb/\Below w.heap.size w w'/\FT base gb tb (za7 F tb op tt v (T.acc tt).code jd) T [gb] noL noL V w':=by
 have hB:Below w.heap.size w ((w.alloc (wc tt)).alloc (wc v)):=bal (bal (Below.refl _ w) _) _;have hW:=W2.start w tt v;have h2:=h.below hB
 have hrow:∀o,o<27->((w.alloc (wc tt)).alloc (wc v)).cell? ⟨fb,o,none⟩=some (({F with trail:=.pointer (some ⟨tb,0,none⟩)}:Fz).cell sv mv o):=fun o ho=>by
  have e:({F with trail:=.pointer (some ⟨tb,0,none⟩)}:Fz)=F:=by rw[<-h.ptr]
  rw[e];exact h2.fr.row.cell (i:=o) ho
 have hlt:=h2.fr.row.lt;have htlt:=h2.tr.row.lt;have htr:=h2.tr;have hbt:=hW.ra;have hbv:=hW.rb;have c0:=h2.tr.row.cell (i:=0) (by decide);rw[show trC V 0=.map (some V.ab) from rfl] at c0;obtain⟨f,hf,hf'⟩:=h2.tr.acc.map;obtain⟨svv,e1,e3,e4,e5⟩:=h2.tr.acc.read tt hf';obtain⟨om,rfl⟩:=e3.is;obtain⟨w0,HW⟩:∃w0,Hid (w0=(w.alloc (wc tt)).alloc (wc v)):=⟨_,rfl⟩
 have hlook:∀x,Below w0.heap.size w0 x->(Instr.lookup 89 (.map (some V.ab)) (wv tt) false).run prog x=.ok (Z2 (T.acc tt).bal (T.acc tt).code (.map om)) x:=fun x hx=>by
  rw[HW.out] at hx;have:=(hf.kb (Kb.of_below (S:=[]) hx) (by simp)).look YA Yj tt;rw[e1] at this;exact this
 have HB:=zb hB;rw[<-HW.out] at hrow hlt htlt htr hbt hbv c0 h2 HB;generalize(T.acc tt).bal=bl at*;generalize(T.acc tt).code=code at*;have H2:=zb h2;clear hf hf' e1 e3 e4 e5 h2 hB hW h;go_enter func278,ntmps278;go_wp2;rw[<-HW.out]
 refine zt (fun _ x=>Below w0.heap.size w0 x) (fun _ _ _=>True) [(0,(.pointer (some ⟨fb,0,none⟩))),(6,(.pointer (some ⟨w.heap.size,0,none⟩)))] [(some 10,.v (.pointer (some ⟨fb,0,none⟩))),(some 11,.v (.pointer (some ⟨fb,0,none⟩))),(some 12,.v (.pointer (some ⟨fb,0,none⟩))),(some 13,.v (.pointer (some ⟨tb,0,none⟩))),(some 14,.v (.pointer (some ⟨fb,0,none⟩))),(some 15,.v (.pointer (some ⟨fb,0,none⟩))),(some 16,.v (.pointer (some ⟨fb,0,none⟩))),(some 17,.v (.pointer (some ⟨tb,0,none⟩))),(some 18,.v (.pointer (some ⟨tb,0,none⟩))),(some 19,.v (.pointer (some ⟨tb,0,none⟩))),(some 20,.v (.map (some V.ab))),(some 21,.v (wv tt)),(some 22,.v (Z2 bl code (.map om))),(some 23,.v (.string code)),(some 24,.l (NFk base tb T V code w0)),(some 9,.l (NFk base tb T V code w0))] [] [3,7,10,11,12,14,15] (by kernel_rfl) (by rfl) (by rfl) (by kernel_rfl) ((Below.refl _ _).drew) (fun _ _ _ h hb=>h.trans (hb.mono h.size))
   True.intro
   (zf _ _ _ rfl rfl
   (fun k s x hk hlo hhi hph hdf hv hl K hK=>by
   exact zv (v:=.pointer (some ⟨tb,0,none⟩)) (fun w=>by kernel_rfl) (hv 12 _ rfl) ((hph.cell (by exact hlt)).trans (hrow 0 (by decide))) (hK _ x (Below.refl _ _) nn1 rfl))
   (zf _ _ _ rfl rfl
   (fun k s x hk hlo hhi hph hdf hv hl K hK=>by
   exact zv (v:=.pointer (some ⟨tb,0,none⟩)) (fun w=>by kernel_rfl) (hv 16 _ rfl) ((hph.cell (by exact hlt)).trans (hrow 0 (by decide))) (hK _ x (Below.refl _ _) nn1 rfl))
   (zf _ _ _ rfl rfl
   (fun k s x hk hlo hhi hph hdf hv hl K hK=>by
   exact zv (v:=.map (some V.ab)) (fun w=>by kernel_rfl) (hv 19 _ rfl) ((hph.cell (by exact htlt)).trans c0) (hK _ x (Below.refl _ _) nn1 rfl))
   (zf _ _ _ rfl rfl
   (fun k s x hk hlo hhi hph hdf hv hl K hK=>by
   obtain⟨q0,q1,q2,q3⟩:=ze (zg hbt hph);exact zD (n:=tt) (hv 6 _ rfl) q0 q1 q2 q3 (hK _ x (Below.refl _ _) nn1 rfl))
   (zf _ _ _ rfl rfl
   (fun k s x hk hlo hhi hph hdf hv hl K hK=>by
   exact zdU (v:=Z2 bl code (.map om)) (x':=x) hv (znw (hlook x hph)) (hK _ x (Below.refl _ _) nn1 rfl))
   (zf _ _ _ rfl rfl
   (fun k s x hk hlo hhi hph hdf hv hl K hK=>by
   refine zZ hv (zc0 code hcs x (htr.below hph)) (by kernel_rfl) (fun v y h=> ?_) (fun l y h=>by obtain⟨_,_,e,_⟩:=h;cases e) (fun y h=>by obtain⟨_,_,e,_⟩:=h;cases e);obtain⟨gb,jd,e,h1,h2,h3⟩:=h;injection e with e
   subst e;exact hK _ y h2 nn1 ⟨gb,jd,rfl,Nat.le_trans hph.size h1,h3⟩)
   (zf _ _ _ rfl rfl
   (fun k s x hk hlo hhi hph hdf hv hl K hK=>by
   have hT:=hl 24 _ rfl;exact zdU (v:=s.tmps.getD 24 undef) (x':=x) hv rfl (hK _ x (Below.refl _ _) nn1 hT))
   True.intro)))))))
   (fun i d T' he p v x x' _ hp _ _ hT=>absurd hp (by simp)) (fun i d T' he p v x x' _ hb hT=>by
   have hm:=List.mem_of_getElem? he;simp only[List.mem_cons,Prod.mk.injEq,reduceCtorEq,and_false,false_or,or_false,List.not_mem_nil,En.l.injEq] at hm;rcases hm with⟨-,rfl⟩|⟨-,rfl⟩<;>exact NFk.below hT hb) ?_
 intro gg x hph hg;obtain⟨gb,jd,eg,hgb,hft⟩:=hg 15 _ _ rfl;simp only[yx,yB,yA,Zj,zF,List.foldl_cons,List.foldl_nil,Act.put,Nat.reduceAdd];simp only[sx9];rw[eg];generalize gg 14=z14;have hfg:fb<gb:=Nat.lt_of_lt_of_le hlt hgb;have hrowx:∀o,o<27->x.cell? ⟨fb,o,none⟩=some (({F with trail:=.pointer (some ⟨tb,0,none⟩)}:Fz).cell sv mv o):=fun o ho=>(hph.cell (by exact hlt)).trans (hrow o ho)
 have d1:=hrowx 18 (by decide);have d2:=hrowx 17 (by decide);change _=some (Value.int .i64 (F.depth:Int)) at d1;change _=some (Value.bool F.ro) at d2;have k1:=hft.fr.row.cell (i:=18) (by decide);have f1:=hft.fr.row.frozen 18;have k2:=hft.fr.row.cell (i:=17) (by decide);have f2:=hft.fr.row.frozen 17;change _=some (Value.int .i64 0) at k1;change _=some (Value.bool false) at k2;have hne:fb≠gb:=by omega
 have hD1:=zb d1;have hD2:=zb d2;have hK1:=zb k1;have hF1:=zb f1;have hK2:=zb k2;have hF2:=zb f2;obtain⟨ro,HRO⟩:∃ro,Hid (ro=(F.ro||op==250)):=⟨_,rfl⟩;obtain⟨F0,HF0⟩:∃F0:Fz,Hid (F0={zcD tb code jd with depth:=F.depth+1,ro:=ro}):=⟨_,rfl⟩;obtain⟨x2,HX2⟩:∃x2,Hid (x2=(x.setCell ⟨gb,18,none⟩ (.int .i64 ((F.depth:Int)+1))).setCell ⟨gb,17,none⟩ (.bool ro)):=⟨_,rfl⟩
 have hkx:Kb [gb] x x2:=by
  rw[HX2.out];exact((Kb.refl [gb] x).setCell (p:=⟨gb,18,none⟩) (Or.inl (by simp)) _).setCell (p:=⟨gb,17,none⟩) (Or.inl (by simp)) _
 have hft2:FT base gb tb F0 T [gb] noL noL V x2:=by
  rw[HX2.out,HF0.out,show(F.depth:Int)+1=((F.depth+1:Nat):Int) by omega];have ha:=hft.own (F':={zcD tb code jd with depth:=F.depth+1}) rfl rfl rfl rfl rfl hft.fr.gal (Yi hft.fr.row (zfJ _ noL noL (F.depth+1))) ((Kb.refl [gb] x).setCell (p:=⟨gb,18,none⟩) (Or.inl (by simp)) _);exact ha.own rfl rfl rfl rfl rfl ha.fr.gal (Yi ha.fr.row (cell_ro _ noL noL ro)) ((Kb.refl [gb] _).setCell (p:=⟨gb,17,none⟩) (Or.inl (by simp)) _)
 have hrow2:∀y,Kb [gb] x2 y->∀o,o<27->y.cell? ⟨fb,o,none⟩=some (({F with trail:=.pointer (some ⟨tb,0,none⟩)}:Fz).cell sv mv o):=fun y hy o ho=>
  (World.cell?_of_block (w:=x) ((hkx.trans hy (fun i hi=>Or.inl hi)).block fb (Nat.lt_of_lt_of_le hlt hph.size) (by simpa using hne))).trans (hrowx o ho)
 have hbt2:∀y,Kb [gb] x2 y->Za y w.heap.size tt:=fun y hy=>(hkx.trans hy (fun i hi=>Or.inl hi)).row (zg hbt hph) (by have:=hbt.lt;simp;omega)
 have hbv2:∀y,Kb [gb] x2 y->Za y (w.heap.size+1) v:=fun y hy=>(hkx.trans hy (fun i hi=>Or.inl hi)).row (zg hbv hph) (by have:=hbv.lt;simp;omega)
 have HFIN:Hid (∀y,Kb [gb] x2 y->Below w.heap.size w y):=fun y hy=>by
  have hB2:=HB.out.trans (hph.mono HB.out.size);have h9:=hkx.trans hy (fun i hi=>Or.inl hi);refine⟨h9.os.trans hB2.os,h9.tape.trans hB2.tape,h9.output.trans hB2.output,Nat.le_trans hB2.size h9.size,fun k hk=>(h9.block k (Nat.lt_of_lt_of_le hk hB2.size) ?_).trans (hB2.block k hk)⟩;have:=HB.out.size;simp;omega
 have HGB:Hid (w.heap.size<=gb):=Nat.le_trans HB.out.size hgb
 have HCALLED:Hid (∀a b c,(a=if op=244 then F.self else tt)->(b=if op=244 then F.caller else F.self)->(c=if op=244 then F.value else v)->({F0 with self:=a,caller:=b,value:=c}:Fz)=za7 F tb op tt v code jd):=fun a b c ha hb hc=>by
  rw[HF0.out,HRO.out,ha,hb,hc];rfl
 have HW2:Hid (∀(P:World->Prop),P x2->P ((x.setCell ⟨gb,18,none⟩ (.int .i64 ((F.depth:Int)+1))).setCell ⟨gb,17,none⟩ (.bool ro))):=fun P h=>by rw[<-HX2.out];exact h
 clear hg hft hrow hrowx htr hbt hbv c0 hlook hcs hph;have tail:True:=trivial;clear tail HW2 k1 f1 k2 f2 d1 d2;have d1:=hD1.out;have d2:=hD2.out;have k1:=hK1.out;have f1:=hF1.out;have k2:=hK2.out;have f2:=hF2.out;by_cases h4:op=244
 ·subst h4;cases hro:F.ro
  all_goals (
   rw[hro] at d2;have hre:=HRO.out;rw[hro] at hre;simp only[Bool.false_or,Bool.true_or,Nat.reduceBEq] at hre;subst hre;go_wp2)
  all_goals (
   rw[<-HX2.out]
   refine zt (PhD base gb tb (fun k=>match k with|0=>F0|1=>{F0 with self:=F.self}|2=>{F0 with self:=F.self,caller:=F.caller}|_=>{F0 with self:=F.self,caller:=F.caller,value:=F.value}) T [gb] noL noL V x2) (fun _ _ _=>True) [(0,(.pointer (some ⟨fb,0,none⟩))),(9,(.pointer (some ⟨gb,0,none⟩)))] [(some 46,.v (.pointer (some ⟨gb,0,none⟩))),(some 47,.v (.pointer (some ⟨gb,0,none⟩))),(some 48,.v (.pointer (some ⟨gb,0,none⟩))),(some 49,.v (.pointer (some ⟨fb,0,none⟩))),(some 50,.v (.pointer (some ⟨fb,0,none⟩))),(some 51,.v (.pointer (some ⟨fb,3,none⟩))),(some 52,.v (wv F.self)),(some 53,.v (.pointer (some ⟨fb,0,none⟩))),(some 54,.v (.pointer (some ⟨fb,0,none⟩))),(some 55,.v (.pointer (some ⟨fb,7,none⟩))),(some 56,.v (wv F.caller)),(some 57,.v (.pointer (some ⟨fb,0,none⟩))),(some 58,.v (.pointer (some ⟨fb,0,none⟩))),(some 59,.v (.pointer (some ⟨fb,11,none⟩))),(some 60,.v (wv F.value)),(some 61,.v (.pointer (some ⟨gb,0,none⟩))),(some 62,.v (.pointer (some ⟨gb,3,none⟩))),(none,.v undef),(some 63,.v (.pointer (some ⟨gb,0,none⟩))),(some 64,.v (.pointer (some ⟨gb,7,none⟩))),(none,.v undef),(some 65,.v (.pointer (some ⟨gb,0,none⟩))),(some 66,.v (.pointer (some ⟨gb,11,none⟩))),(none,.v undef)] [17,20,23] [6,10,14] (by kernel_rfl) (by rfl) (by rfl) (by kernel_rfl) (⟨hft2.below (Below.refl _ _).drew,(Kb.refl _ _).drew⟩) (zhn)
     (zf _ _ _ rfl rfl
     (fun s x hph hdf hv hl K hK=>by
      exact Z4 3 (hv 62 _ rfl) (hv 52 _ rfl) hph.1.fr.row (by decide) (hK _ _ ⟨hph.1.own rfl rfl rfl rfl rfl hph.1.fr.gal (yn hph.1.fr.row (zb1 _ noL noL F.self)) (Zd _ _ _ _),hph.2.trans (Zd _ _ _ _) (fun i hi=>Or.inl hi)⟩ trivial (fun _=>rfl) rfl))
     (zf _ _ _ rfl rfl
     (fun s x hph hdf hv hl K hK=>by
      exact Z4 7 (hv 64 _ rfl) (hv 56 _ rfl) hph.1.fr.row (by decide) (hK _ _ ⟨hph.1.own rfl rfl rfl rfl rfl hph.1.fr.gal (yn hph.1.fr.row (zaA _ noL noL F.caller)) (Zd _ _ _ _),hph.2.trans (Zd _ _ _ _) (fun i hi=>Or.inl hi)⟩ trivial (fun _=>rfl) rfl))
     (zf _ _ _ rfl rfl
     (fun s x hph hdf hv hl K hK=>by
      exact Z4 11 (hv 66 _ rfl) (hv 60 _ rfl) hph.1.fr.row (by decide) (hK _ _ ⟨hph.1.own rfl rfl rfl rfl rfl hph.1.fr.gal (yn hph.1.fr.row (za6 _ noL noL F.value)) (Zd _ _ _ _),hph.2.trans (Zd _ _ _ _) (fun i hi=>Or.inl hi)⟩ trivial (fun _=>rfl) rfl))
     True.intro)))
     (zf _ _ _ rfl rfl
     (fun k s x hk hlo hhi hph hdf hv hl K hK=>by
      have hr:=hrow2 x hph.2;exact zD (n:=F.self) (hv 51 _ rfl) (hr 3 (by decide)) (hr 4 (by decide)) (hr 5 (by decide)) (hr 6 (by decide)) (hK _ x (Below.refl _ _) nn1 rfl))
     (zf _ _ _ rfl rfl
     (fun k s x hk hlo hhi hph hdf hv hl K hK=>by
      have hr:=hrow2 x hph.2;exact zD (n:=F.caller) (hv 55 _ rfl) (hr 7 (by decide)) (hr 8 (by decide)) (hr 9 (by decide)) (hr 10 (by decide)) (hK _ x (Below.refl _ _) nn1 rfl))
     (zf _ _ _ rfl rfl
     (fun k s x hk hlo hhi hph hdf hv hl K hK=>by
      have hr:=hrow2 x hph.2;exact zD (n:=F.value) (hv 59 _ rfl) (hr 11 (by decide)) (hr 12 (by decide)) (hr 13 (by decide)) (hr 14 (by decide)) (hK _ x (Below.refl _ _) nn1 rfl))
     True.intro)))
     (fun _ _ _ h=>(zu rfl h).elim) (fun _ _ _ h=>(zu rfl h).elim) ?_
   intro gg y hy _;have HY:=zb (And.intro (show FT base gb tb {F0 with self:=F.self,caller:=F.caller,value:=F.value} T [gb] noL noL V y from hy.1) (HFIN.out y hy.2));clear hy hft2 hrow2 hbt2 hbv2 hkx;simp only[yx,yB,yA,Zj,zF,List.foldl_cons,List.foldl_nil,Act.put];simp only[sx9];go_wp2;go_ret;refine⟨gb,jd,rfl,HGB.out,HY.out.2, ?_⟩;rw[<-HCALLED.out F.self F.caller F.value (by simp) (by simp) (by simp)];exact HY.out.1)
 ·have g4:((op:Int)==244)=false:=by simp;omega
  by_cases h5:op=250
  ·subst h5;cases hro:F.ro
   all_goals (
    rw[hro] at d2;have hre:=HRO.out;rw[hro] at hre;simp only[Bool.false_or,Bool.true_or,Nat.reduceBEq] at hre;subst hre;go_wp2)
   all_goals (
    rw[<-HX2.out]
    refine zt (PhD base gb tb (fun k=>match k with|0=>F0|1=>{F0 with self:=tt}|2=>{F0 with self:=tt,caller:=F.self}|_=>{F0 with self:=tt,caller:=F.self,value:=v}) T [gb] noL noL V x2) (fun _ _ _=>True) [(0,(.pointer (some ⟨fb,0,none⟩))),(9,(.pointer (some ⟨gb,0,none⟩))),(6,(.pointer (some ⟨w.heap.size,0,none⟩))),(7,(.pointer (some ⟨w.heap.size+1,0,none⟩)))] [(some 67,.v (.pointer (some ⟨gb,0,none⟩))),(some 68,.v (.pointer (some ⟨gb,0,none⟩))),(some 69,.v (.pointer (some ⟨gb,0,none⟩))),(some 70,.v (wv tt)),(some 71,.v (.pointer (some ⟨fb,0,none⟩))),(some 72,.v (.pointer (some ⟨fb,0,none⟩))),(some 73,.v (.pointer (some ⟨fb,3,none⟩))),(some 74,.v (wv F.self)),(some 75,.v (wv v)),(some 76,.v (.pointer (some ⟨gb,0,none⟩))),(some 77,.v (.pointer (some ⟨gb,3,none⟩))),(none,.v undef),(some 78,.v (.pointer (some ⟨gb,0,none⟩))),(some 79,.v (.pointer (some ⟨gb,7,none⟩))),(none,.v undef),(some 80,.v (.pointer (some ⟨gb,0,none⟩))),(some 81,.v (.pointer (some ⟨gb,11,none⟩))),(none,.v undef)] [11,14,17] [3,7,8] (by kernel_rfl) (by rfl) (by rfl) (by kernel_rfl) (⟨hft2.below (Below.refl _ _).drew,(Kb.refl _ _).drew⟩) (zhn)
      (zf _ _ _ rfl rfl
      (fun s x hph hdf hv hl K hK=>by
       exact Z4 3 (hv 77 _ rfl) (hv 70 _ rfl) hph.1.fr.row (by decide) (hK _ _ ⟨hph.1.own rfl rfl rfl rfl rfl hph.1.fr.gal (yn hph.1.fr.row (zb1 _ noL noL tt)) (Zd _ _ _ _),hph.2.trans (Zd _ _ _ _) (fun i hi=>Or.inl hi)⟩ trivial (fun _=>rfl) rfl))
      (zf _ _ _ rfl rfl
      (fun s x hph hdf hv hl K hK=>by
       exact Z4 7 (hv 79 _ rfl) (hv 74 _ rfl) hph.1.fr.row (by decide) (hK _ _ ⟨hph.1.own rfl rfl rfl rfl rfl hph.1.fr.gal (yn hph.1.fr.row (zaA _ noL noL F.self)) (Zd _ _ _ _),hph.2.trans (Zd _ _ _ _) (fun i hi=>Or.inl hi)⟩ trivial (fun _=>rfl) rfl))
      (zf _ _ _ rfl rfl
      (fun s x hph hdf hv hl K hK=>by
       exact Z4 11 (hv 81 _ rfl) (hv 75 _ rfl) hph.1.fr.row (by decide) (hK _ _ ⟨hph.1.own rfl rfl rfl rfl rfl hph.1.fr.gal (yn hph.1.fr.row (za6 _ noL noL v)) (Zd _ _ _ _),hph.2.trans (Zd _ _ _ _) (fun i hi=>Or.inl hi)⟩ trivial (fun _=>rfl) rfl))
      True.intro)))
      (zf _ _ _ rfl rfl
      (fun k s x hk hlo hhi hph hdf hv hl K hK=>by
       obtain⟨q0,q1,q2,q3⟩:=ze (hbt2 x hph.2);exact zD (n:=tt) (hv 6 _ rfl) q0 q1 q2 q3 (hK _ x (Below.refl _ _) nn1 rfl))
      (zf _ _ _ rfl rfl
      (fun k s x hk hlo hhi hph hdf hv hl K hK=>by
       have hr:=hrow2 x hph.2;exact zD (n:=F.self) (hv 73 _ rfl) (hr 3 (by decide)) (hr 4 (by decide)) (hr 5 (by decide)) (hr 6 (by decide)) (hK _ x (Below.refl _ _) nn1 rfl))
      (zf _ _ _ rfl rfl
      (fun k s x hk hlo hhi hph hdf hv hl K hK=>by
       obtain⟨q0,q1,q2,q3⟩:=ze (hbv2 x hph.2);exact zD (n:=v) (hv 7 _ rfl) q0 q1 q2 q3 (hK _ x (Below.refl _ _) nn1 rfl))
      True.intro)))
      (fun _ _ _ h=>(zu rfl h).elim) (fun _ _ _ h=>(zu rfl h).elim) ?_
    intro gg y hy _;have HY:=zb (And.intro (show FT base gb tb {F0 with self:=tt,caller:=F.self,value:=v} T [gb] noL noL V y from hy.1) (HFIN.out y hy.2));clear hy hft2 hrow2 hbt2 hbv2 hkx;simp only[yx,yB,yA,Zj,zF,List.foldl_cons,List.foldl_nil,Act.put];simp only[sx9];go_wp2;go_ret;refine⟨gb,jd,rfl,HGB.out,HY.out.2, ?_⟩;rw[<-HCALLED.out _ _ _ (if_neg h4).symm (if_neg h4).symm (if_neg h4).symm];exact HY.out.1)
  ·have g5:((op:Int)==250)=false:=by simp;omega
   have g6:(op==250)=false:=by simp;omega
   cases hro:F.ro
   all_goals (
    rw[hro] at d2;have hre:=HRO.out;rw[hro] at hre;simp only[Bool.false_or,Bool.true_or,g6] at hre;subst hre;go_wp2)
   all_goals (
    rw[<-HX2.out]
    refine zt (PhD base gb tb (fun k=>match k with|0=>F0|1=>{F0 with self:=tt}|2=>{F0 with self:=tt,caller:=F.self}|_=>{F0 with self:=tt,caller:=F.self,value:=v}) T [gb] noL noL V x2) (fun _ _ _=>True) [(0,(.pointer (some ⟨fb,0,none⟩))),(9,(.pointer (some ⟨gb,0,none⟩))),(6,(.pointer (some ⟨w.heap.size,0,none⟩))),(7,(.pointer (some ⟨w.heap.size+1,0,none⟩)))] [(some 67,.v (.pointer (some ⟨gb,0,none⟩))),(some 68,.v (.pointer (some ⟨gb,0,none⟩))),(some 69,.v (.pointer (some ⟨gb,0,none⟩))),(some 70,.v (wv tt)),(some 71,.v (.pointer (some ⟨fb,0,none⟩))),(some 72,.v (.pointer (some ⟨fb,0,none⟩))),(some 73,.v (.pointer (some ⟨fb,3,none⟩))),(some 74,.v (wv F.self)),(some 75,.v (wv v)),(some 76,.v (.pointer (some ⟨gb,0,none⟩))),(some 77,.v (.pointer (some ⟨gb,3,none⟩))),(none,.v undef),(some 78,.v (.pointer (some ⟨gb,0,none⟩))),(some 79,.v (.pointer (some ⟨gb,7,none⟩))),(none,.v undef),(some 80,.v (.pointer (some ⟨gb,0,none⟩))),(some 81,.v (.pointer (some ⟨gb,11,none⟩))),(none,.v undef)] [11,14,17] [3,7,8] (by kernel_rfl) (by rfl) (by rfl) (by kernel_rfl) (⟨hft2.below (Below.refl _ _).drew,(Kb.refl _ _).drew⟩) (zhn)
      (zf _ _ _ rfl rfl
      (fun s x hph hdf hv hl K hK=>by
       exact Z4 3 (hv 77 _ rfl) (hv 70 _ rfl) hph.1.fr.row (by decide) (hK _ _ ⟨hph.1.own rfl rfl rfl rfl rfl hph.1.fr.gal (yn hph.1.fr.row (zb1 _ noL noL tt)) (Zd _ _ _ _),hph.2.trans (Zd _ _ _ _) (fun i hi=>Or.inl hi)⟩ trivial (fun _=>rfl) rfl))
      (zf _ _ _ rfl rfl
      (fun s x hph hdf hv hl K hK=>by
       exact Z4 7 (hv 79 _ rfl) (hv 74 _ rfl) hph.1.fr.row (by decide) (hK _ _ ⟨hph.1.own rfl rfl rfl rfl rfl hph.1.fr.gal (yn hph.1.fr.row (zaA _ noL noL F.self)) (Zd _ _ _ _),hph.2.trans (Zd _ _ _ _) (fun i hi=>Or.inl hi)⟩ trivial (fun _=>rfl) rfl))
      (zf _ _ _ rfl rfl
      (fun s x hph hdf hv hl K hK=>by
       exact Z4 11 (hv 81 _ rfl) (hv 75 _ rfl) hph.1.fr.row (by decide) (hK _ _ ⟨hph.1.own rfl rfl rfl rfl rfl hph.1.fr.gal (yn hph.1.fr.row (za6 _ noL noL v)) (Zd _ _ _ _),hph.2.trans (Zd _ _ _ _) (fun i hi=>Or.inl hi)⟩ trivial (fun _=>rfl) rfl))
      True.intro)))
      (zf _ _ _ rfl rfl
      (fun k s x hk hlo hhi hph hdf hv hl K hK=>by
       obtain⟨q0,q1,q2,q3⟩:=ze (hbt2 x hph.2);exact zD (n:=tt) (hv 6 _ rfl) q0 q1 q2 q3 (hK _ x (Below.refl _ _) nn1 rfl))
      (zf _ _ _ rfl rfl
      (fun k s x hk hlo hhi hph hdf hv hl K hK=>by
       have hr:=hrow2 x hph.2;exact zD (n:=F.self) (hv 73 _ rfl) (hr 3 (by decide)) (hr 4 (by decide)) (hr 5 (by decide)) (hr 6 (by decide)) (hK _ x (Below.refl _ _) nn1 rfl))
      (zf _ _ _ rfl rfl
      (fun k s x hk hlo hhi hph hdf hv hl K hK=>by
       obtain⟨q0,q1,q2,q3⟩:=ze (hbv2 x hph.2);exact zD (n:=v) (hv 7 _ rfl) q0 q1 q2 q3 (hK _ x (Below.refl _ _) nn1 rfl))
      True.intro)))
      (fun _ _ _ h=>(zu rfl h).elim) (fun _ _ _ h=>(zu rfl h).elim) ?_
    intro gg y hy _;have HY:=zb (And.intro (show FT base gb tb {F0 with self:=tt,caller:=F.self,value:=v} T [gb] noL noL V y from hy.1) (HFIN.out y hy.2));clear hy hft2 hrow2 hbt2 hbv2 hkx;simp only[yx,yB,yA,Zj,zF,List.foldl_cons,List.foldl_nil,Act.put];simp only[sx9];go_wp2;go_ret;refine⟨gb,jd,rfl,HGB.out,HY.out.2, ?_⟩;rw[<-HCALLED.out _ _ _ (if_neg h4).symm (if_neg h4).symm (if_neg h4).symm];exact HY.out.1)
end
theorem dup_r0n {base fb:Nat} {F:Fz} {S:List Nat} {sv mv:Value} {Q:Exit->Act->World->Prop} (a:Act) (w:World) {n q:Nat} (hnq:n=q+1) (hq1:q<=1000) (hql:F.st.length<=q) (h:Fr base fb F S sv mv w) (hsz:([4,5,6,7,8,9,10,11,12,13,14]:List Nat).all (fun d=>decide (d<a.tmps.size))=true) (c0:a.tmps.getD 0 undef=.pointer (some ⟨fb,19,none⟩)) (c1:a.tmps.getD 1 undef=.int .i64 (n:Int))
  (hpan:∀u pv s x,((none:Option (Unit×Fz))=none)->s.defers=a.defers->Kb S w x->Q (.panic [{v:=.iface u pv,recovered:=false}]) s x)
  (hok:∀(x:World) (S':List Nat) (sv' mv':Value) (z3:Value) (z7:Value) (z8:Value) (z9:Value) (z10:Value),Fr base fb (badF) S' sv' mv' x->Kb S w x->(∀j∈S',j∈S\/w.heap.size<=j)->(AnyV) (1,mv') S' z3 x->(Nv) (1,mv') S' z7 x->(Nv) (1,mv') S' z8 x->(Nv) (1,mv') S' z9 x->(Nv) (1,mv') S' z10 x->Q .normal (zF a [(4,.pointer (some ⟨fb,19,none⟩)),(5,.pointer (some ⟨fb,19,none⟩)),(6,.pointer (some ⟨fb,19,none⟩)),(7,z3),(8,.pointer (some ⟨fb,19,none⟩)),(9,.int .i64 (n:Int)),(10,.int .i64 (q:Int)),(11,z7),(12,z8),(13,z9),(14,z10)]) x):
  (Code.region 0 #[⟨some 4,.move (.tmp 0),289,"stack.go:24",#[],none⟩,⟨some 5,.move (.tmp 0),289,"stack.go:24",#[],none⟩,⟨some 6,.nilCheck (.tmp 5),0,"stack.go:24",#[⟨1,.data⟩],none⟩,⟨some 7,.load 135 (.tmp 6),135,"stack.go:24",#[⟨2,.data⟩],none⟩,⟨some 8,.move (.tmp 0),289,"stack.go:24",#[],none⟩,⟨some 9,.move (.tmp 1),3,"stack.go:24",#[],none⟩,⟨some 10,.binOp .sub 3 (.tmp 9) (.const (.int .i64 1)) 3,3,"stack.go:24",#[⟨5,.data⟩],none⟩,⟨some 11,.call ⟨.value (.func 273),#[.tmp 8,.tmp 10],#[289,3]⟩,3,"stack.go:24",#[⟨4,.data⟩,⟨6,.data⟩],none⟩,⟨some 12,.indexAddr 135 (.tmp 7) (.tmp 11),0,"stack.go:24",#[⟨3,.data⟩,⟨7,.data⟩],none⟩,⟨some 13,.load 24 (.tmp 12),24,"stack.go:24",#[⟨8,.data⟩],none⟩,⟨some 14,.call ⟨.value (.func 259),#[.tmp 4,.tmp 13],#[289,24]⟩,0,"stack.go:24",#[⟨0,.data⟩,⟨9,.data⟩,⟨7,.chain⟩],none⟩] true).wp prog Q a w:=by
 exact ZA (fun k=>match k with|0=>F|_=>badF) h [(0,.pointer (some ⟨fb,19,none⟩)),(1,.int .i64 (n:Int))] [(some 4,.v (.pointer (some ⟨fb,19,none⟩))),(some 5,.v (.pointer (some ⟨fb,19,none⟩))),(some 6,.v (.pointer (some ⟨fb,19,none⟩))),(some 7,.l (AnyV)),(some 8,.v (.pointer (some ⟨fb,19,none⟩))),(some 9,.v (.int .i64 (n:Int))),(some 10,.v (.int .i64 (q:Int))),(some 11,.l (Nv)),(some 12,.l (Nv)),(some 13,.l (Nv)),(some 14,.l (Nv))] [7] [3,6,8,9,10] (by kernel_rfl) hsz (Zi c0 (Zi c1 rfl)) (by kernel_rfl) (And.intro (zao) (And.intro (YD) (And.intro (YD) (And.intro (YD) (And.intro (YD) trivial)))))
  (zf _ _ _ rfl rfl (fun s x S1 sv1 mv1 hfr hkb hsub hdf hv hl K hK=>zfU (Post:=fun e x'=>Pan e/\Kb S1 x x') zg0 (ev2 (hv 8 _ rfl) (hv 10 _ rfl)) (by
    have hfr0:Fr base fb F S1 sv1 mv1 x:=hfr;obtain⟨ad9,cap9,e9⟩:=zS hfr0.st;have hc9:x.cell? ⟨fb,19,none⟩=some sv1:=hfr0.row.cell (i:=19) (by decide);rw[e9,List.length_reverse] at hc9;exact(zdl fb 19 q F.st.length cap9 ad9 x hc9 hfr0.stl hql (by omega)).mono fun e x1 h=>⟨h.1,(h.2▸Kb.refl S1 x:Kb S1 x x1)⟩) fun e x' h9=>(by obtain⟨⟨u,pv,rfl⟩,h8⟩:=h9;exact Or.inr ⟨_,rfl,hpan u pv s x' rfl hdf (hkb.trans h8 hsub)⟩))
  True.intro)
  (zf _ _ _ rfl rfl (fun s x k S1 sv1 mv1 hfr hkb hkp hv hl K hK=>by
    cases k with
    |zero=>exact zv (v:=sv1) (fun w=>by kernel_rfl) (hv 6 _ rfl) (hfr.row.cell (i:=19) (by decide)) (hK _ x (Below.refl _ _) nn1 trivial)
    |succ k=>exact(zcF hfr).elim)
  (zf _ _ _ rfl rfl (fun s x k S1 sv1 mv1 hfr hkb hkp hv hl K hK=>zlZ (hv 9 _ rfl) hnq hq1 (hK _ x (Below.refl _ _) nn1 rfl))
  (zf _ _ _ rfl rfl (fun s x k S1 sv1 mv1 hfr hkb hkp hv hl K hK=>(hl 11 _ rfl).elim)
  (zf _ _ _ rfl rfl (fun s x k S1 sv1 mv1 hfr hkb hkp hv hl K hK=>(hl 12 _ rfl).elim)
  (zf _ _ _ rfl rfl (fun s x k S1 sv1 mv1 hfr hkb hkp hv hl K hK=>(hl 13 _ rfl).elim)
  True.intro)))))
  fun g x S' sv' mv' hfr hkb hsub hT=>hok x S' sv' mv' (g 3) (g 7) (g 8) (g 9) (g 10) hfr hkb hsub (hT 3 _ _ rfl) (hT 7 _ _ rfl) (hT 8 _ _ rfl) (hT 9 _ _ rfl) (hT 10 _ _ rfl)
theorem dup_r0 {base fb:Nat} {F:Fz} {S:List Nat} {sv mv:Value} {Q:Exit->Act->World->Prop} (a:Act) (w:World) {n q:Nat} (hnq:n=q+1) (hq1:q<=1000) (hql:q<F.st.length) (h:Fr base fb F S sv mv w) (hsz:([4,5,6,7,8,9,10,11,12,13,14]:List Nat).all (fun d=>decide (d<a.tmps.size))=true) (c0:a.tmps.getD 0 undef=.pointer (some ⟨fb,19,none⟩)) (c1:a.tmps.getD 1 undef=.int .i64 (n:Int))
  (hpan:∀u pv s x,(zm (F.st.getD q 0) (F)=none)->s.defers=a.defers->Kb S w x->Q (.panic [{v:=.iface u pv,recovered:=false}]) s x)
  (hok:∀(x:World) (S':List Nat) (sv' mv':Value) (z3:Value) (z8:Value),Fr base fb (zh (zm (F.st.getD q 0) (F))) S' sv' mv' x->Kb S w x->(∀j∈S',j∈S\/w.heap.size<=j)->(Stk F.st.reverse) (1,mv') S' z3 x->(WAt (F.st.getD q 0)) (1,mv') S' z8 x->Q .normal (zF a [(4,.pointer (some ⟨fb,19,none⟩)),(5,.pointer (some ⟨fb,19,none⟩)),(6,.pointer (some ⟨fb,19,none⟩)),(7,z3),(8,.pointer (some ⟨fb,19,none⟩)),(9,.int .i64 (n:Int)),(10,.int .i64 (q:Int)),(11,.int .i64 ((F.st.length - 1 - q:Nat):Int)),(12,z8),(13,wv (F.st.getD q 0)),(14,Value.tuple #[])]) x):
  (Code.region 0 #[⟨some 4,.move (.tmp 0),289,"stack.go:24",#[],none⟩,⟨some 5,.move (.tmp 0),289,"stack.go:24",#[],none⟩,⟨some 6,.nilCheck (.tmp 5),0,"stack.go:24",#[⟨1,.data⟩],none⟩,⟨some 7,.load 135 (.tmp 6),135,"stack.go:24",#[⟨2,.data⟩],none⟩,⟨some 8,.move (.tmp 0),289,"stack.go:24",#[],none⟩,⟨some 9,.move (.tmp 1),3,"stack.go:24",#[],none⟩,⟨some 10,.binOp .sub 3 (.tmp 9) (.const (.int .i64 1)) 3,3,"stack.go:24",#[⟨5,.data⟩],none⟩,⟨some 11,.call ⟨.value (.func 273),#[.tmp 8,.tmp 10],#[289,3]⟩,3,"stack.go:24",#[⟨4,.data⟩,⟨6,.data⟩],none⟩,⟨some 12,.indexAddr 135 (.tmp 7) (.tmp 11),0,"stack.go:24",#[⟨3,.data⟩,⟨7,.data⟩],none⟩,⟨some 13,.load 24 (.tmp 12),24,"stack.go:24",#[⟨8,.data⟩],none⟩,⟨some 14,.call ⟨.value (.func 259),#[.tmp 4,.tmp 13],#[289,24]⟩,0,"stack.go:24",#[⟨0,.data⟩,⟨9,.data⟩,⟨7,.chain⟩],none⟩] true).wp prog Q a w:=by
 exact ZA (fun k=>match k with|0=>F|_=>zh (zm (F.st.getD q 0) (F))) h [(0,.pointer (some ⟨fb,19,none⟩)),(1,.int .i64 (n:Int))] [(some 4,.v (.pointer (some ⟨fb,19,none⟩))),(some 5,.v (.pointer (some ⟨fb,19,none⟩))),(some 6,.v (.pointer (some ⟨fb,19,none⟩))),(some 7,.l (Stk F.st.reverse)),(some 8,.v (.pointer (some ⟨fb,19,none⟩))),(some 9,.v (.int .i64 (n:Int))),(some 10,.v (.int .i64 (q:Int))),(some 11,.v (.int .i64 ((F.st.length - 1 - q:Nat):Int))),(some 12,.l (WAt (F.st.getD q 0))),(some 13,.v (wv (F.st.getD q 0))),(some 14,.v (Value.tuple #[]))] [10] [3,6,7,8,9] (by kernel_rfl) hsz (Zi c0 (Zi c1 rfl)) (by kernel_rfl) (And.intro (za8 _) (And.intro (zbi _) trivial))
  (zf _ _ _ rfl rfl (fun s x S1 sv1 mv1 hfr hkb hsub hdf hv hl K hK=>zbK (r:=zm (F.st.getD q 0) (F)) (val:=zy) zbx (ev2 (hv 4 _ rfl) (hv 13 _ rfl)) (yi (F.st.getD q 0) x hfr) rfl (fun _ _ _=>rfl) (fun hrn u pv x' hk=>hpan u pv s x' hrn hdf (hkb.trans hk hsub)) hK)
  True.intro)
  (zf _ _ _ rfl rfl (fun s x k S1 sv1 mv1 hfr hkb hkp hv hl K hK=>by
    obtain rfl:k=0:=Nat.le_zero.1 (hkp 0 10 rfl (by kernel_rfl));have hfr0:Fr base fb F S1 sv1 mv1 x:=hfr;exact zv (v:=sv1) (fun w=>by kernel_rfl) (hv 6 _ rfl) (hfr0.row.cell (i:=19) (by decide)) (hK _ x (Below.refl _ _) nn1 (fun _=>⟨base,hfr0.st⟩)))
  (zf _ _ _ rfl rfl (fun s x k S1 sv1 mv1 hfr hkb hkp hv hl K hK=>zlZ (hv 9 _ rfl) hnq hq1 (hK _ x (Below.refl _ _) nn1 rfl))
  (zf _ _ _ rfl rfl (fun s x k S1 sv1 mv1 hfr hkb hkp hv hl K hK=>by
    obtain rfl:k=0:=Nat.le_zero.1 (hkp 0 10 rfl (by kernel_rfl));have hfr0:Fr base fb F S1 sv1 mv1 x:=hfr;obtain⟨ad9,cap9,e9⟩:=zS hfr0.st;have hc9:x.cell? ⟨fb,19,none⟩=some sv1:=hfr0.row.cell (i:=19) (by decide);rw[e9,List.length_reverse] at hc9;exact ZK zg0 (ev2 (hv 8 _ rfl) (hv 10 _ rfl)) (zc3 fb 19 q F.st.length cap9 ad9 x hc9 hfr0.stl hql) (fun e x' h9=>⟨_,h9.1,hK _ x' (h9.2▸Below.refl _ _) nn1 rfl⟩))
  (zf _ _ _ rfl rfl (fun s x k S1 sv1 mv1 hfr hkb hkp hv hl K hK=>by
    obtain rfl:k=0:=Nat.le_zero.1 (hkp 0 10 rfl (by kernel_rfl));have hfr0:Fr base fb F S1 sv1 mv1 x:=hfr;obtain⟨b9,h8⟩:=(hl 7 _ rfl) rfl;obtain⟨g9,cap9,e9,_,hl9,_⟩:=zI h8 (by rw[List.length_reverse];omega);have e10:s.tmps.getD 7 undef=.slice (some ⟨g9,0,none⟩) F.st.reverse.length cap9:=e9;have h8b:Wds x b9 (.slice (some ⟨g9,0,none⟩) F.st.reverse.length cap9) F.st.reverse:=e9▸h8;obtain⟨c0,c1,c2,c3⟩:=Wds.at h8b (j:=F.st.length - 1 - q) (by rw[List.length_reverse];omega) (zd1 F.st q hql);exact zcZ e10 (hv 11 _ rfl) (by rw[List.length_reverse];omega) (hK _ x (Below.refl _ _) nn1 (fun _=>⟨g9,_,rfl,hl9,c0,c1,c2,c3⟩)))
  (zf _ _ _ rfl rfl (fun s x k S1 sv1 mv1 hfr hkb hkp hv hl K hK=>by
    obtain rfl:k=0:=Nat.le_zero.1 (hkp 0 10 rfl (by kernel_rfl));have hfr0:Fr base fb F S1 sv1 mv1 x:=hfr;obtain⟨g9,o9,e9,_,c0,c1,c2,c3⟩:=(hl 12 _ rfl) rfl;exact zD e9 c0 c1 c2 c3 (hK _ x (Below.refl _ _) nn1 rfl))
  True.intro)))))
  fun g x S' sv' mv' hfr hkb hsub hT=>hok x S' sv' mv' (g 3) (g 8) hfr hkb hsub (hT 3 _ _ rfl) (hT 8 _ _ rfl)
def ziP (n:Nat) (F:Fz):Option (Unit×Fz):=if n<=F.st.length then zm (F.st.getD (n - 1) 0) F else none
theorem dup_I {base fb:Nat} {F:Fz} {S:List Nat} {sv mv:Value} (n:Nat) (hn:1<=n) (hn2:n<=16) (w:World) (h:Fr base fb F S sv mv w):
  Calls prog 238 #[.pointer (some ⟨fb,19,none⟩),.int .i64 (n:Int)] w (Out (ziP n F) zy base fb S w):=by
 unfold ziP;by_cases hl:n<=F.st.length
 ·rw[if_pos hl];go_enter func238,ntmps238;go_wp2;refine dup_r0 (n:=n) (q:=n - 1) _ _ (by omega) (by omega) (by omega) h rfl rfl rfl ?_ ?_
  ·intro u pv s x hno hd hk;rw[hno];exact⟨hd,⟨_,_,rfl⟩,hk⟩
  ·intro x S' sv' mv' z3 z8 hfr hkb hsub hz3 hz8;have e:=zbk (r:=zm (F.st.getD (n - 1) 0) F) fun e=>ZS (zW e) hfr
   have HO:Hid (Out (zm (F.st.getD (n - 1) 0) F) zy base fb S w (.returned (.tuple #[])) x):=by
    rw[e];exact⟨rfl,S',sv',mv',hfr,hkb,hsub⟩
   clear e hfr hz3 hz8 hkb hsub;simp only[zF,List.foldl_cons,List.foldl_nil,Act.put];go_wp2;go_end0;exact HO.out
 ·rw[if_neg hl];go_enter func238,ntmps238;go_wp2;refine dup_r0n (n:=n) (q:=n - 1) _ _ (by omega) (by omega) (by omega) h rfl rfl rfl ?_ ?_
  ·intro u pv s x hno hd hk;exact⟨hd,⟨_,_,rfl⟩,hk⟩
  ·intro x S' sv' mv' z3 z7 z8 z9 z10 hfr;exact(zcF hfr).elim
section
theorem zox {w:World} {base e size n g cp:Nat} {xs:List Value} (h:w.ownsRow base e size (.slice (some ⟨g,0,none⟩) n cp) n xs) {o:Nat} (ho:o<n*size) (u:Value):(w.setCell ⟨g,o,none⟩ u).ownsRow base e size (.slice (some ⟨g,0,none⟩) n cp) n (xs.set o u):=by
 refine⟨by rw[List.length_set];exact h.1, ?_⟩;rcases h.2 with⟨h1,_⟩|⟨g',cap,cur,h1,h2,h3,h4,h5,h6,h7⟩
 ·cases h1
 ·injection h1 with e1 e2 e3
  injection e1 with e1
  injection e1 with e1
  subst e1 e3;refine Or.inr ⟨g,cp,cur.setIfInBounds o u,rfl,h2, ?_,h4,h5,by rw[Array.size_setIfInBounds];exact h6, ?_⟩
  ·simp[World.setCell,Array.getElem?_modify,h3]
  ·rw[<-h7,Array.toList_setIfInBounds,List.take_set]
def putL (xs:List Value) (o:Nat):List Value->List Value
 |[]=>xs
 |v::r=>putL (xs.set o v) (o+1) r
theorem zjO {base e size n g cp:Nat}:∀(vs:List Value) (o:Nat) {w:World} {xs:List Value},w.ownsRow base e size (.slice (some ⟨g,0,none⟩) n cp) n xs->o+vs.length<=n*size->(w.setCells g o vs).ownsRow base e size (.slice (some ⟨g,0,none⟩) n cp) n (putL xs o vs)
 |[],o,w,xs,h,_=>h
 |v::r,o,w,xs,h,hl=>by
  rw[List.length_cons] at hl;exact zjO r (o+1) (zox h (by omega) v) (by omega)
def wl (n:Nat):List Value:=[.int .u64 (za n 0),.int .u64 (za n 1),.int .u64 (za n 2),.int .u64 (za n 3)]
theorem zgM (p:List Value):∀(vs xs:List Value) (o:Nat),putL (p++xs) (p.length+o) vs=p++putL xs o vs
 |[],_,_=>rfl
 |v::r,xs,o=>by
  show putL ((p++xs).set (p.length+o) v) (p.length+o+1) r=_;rw[List.set_append_right _ _ (by omega),Nat.add_sub_cancel_left,Nat.add_assoc,zgM p r];rfl
theorem zpe:∀(l:List Nat) (j:Nat) (n:Nat),j<l.length->putL (Zu l) (j*4) (wl n)=Zu (l.set j n)
 |m::l,0,n,_=>rfl
 |m::l,j+1,n,h=>by
  have ih:=zpe l j n (by simpa using h);have e:Zu (m::l)=wl m++Zu l:=rfl;rw[e,show(j+1)*4=(wl m).length+j*4 by show _=4+_;omega,zgM,ih];rfl
theorem zmu {w:World} {base g cp:Nat} {l:List Nat} (h:Wds w base (.slice (some ⟨g,0,none⟩) l.length cp) l) {j:Nat} (hj:j<l.length) (n:Nat):Wds (w.setCells g (j*4) (wl n)) base (.slice (some ⟨g,0,none⟩) l.length cp) (l.set j n):=by
 unfold Wds;rw[<-zpe l j n hj,List.length_set];exact zjO (wl n) (j*4) h (by show _+4<=_;omega)
theorem zhc {w:World} {base g cp:Nat} {l:List Nat} (h:Wds w base (.slice (some ⟨g,0,none⟩) l.length cp) l) {j:Nat} (hj:j<l.length):w.there g (j*4) 4:=by
 intro i hi;rcases h.2 with⟨h1,_⟩|⟨g',cap,cur,h1,h2,h3,h4,h5,h6,h7⟩
 ·cases h1
 ·injection h1 with e1 e2 e3
  injection e1 with e1
  injection e1 with e1
  subst e1 e3;have hlt:j*4+i<cur.size:=by rw[h6];omega
  exact⟨by rw[cell_of_row _ g _ cur 24 (0,0) h3];simp[hlt],by simp[World.frozen?,h3]⟩
theorem Kb.setCells {S:List Nat} {a:World} (g:Nat) (hg:g∈S\/a.heap.size<=g):∀(vs:List Value) (o:Nat) {b:World},Kb S a b->Kb S a (b.setCells g o vs)
 |[],_,_,h=>h
 |v::r,o,b,h=>Kb.setCells g hg r (o+1) (h.setCell (p:=⟨g,o,none⟩) hg v)
section
variable {s:Act} {x:World} {pos:String} {af:Array Edge} {gd:Option (Nat×Bool)} {K:Act->World->Prop} {Q:Exit->Act->World->Prop}
theorem zjK:(prog.info? 24).map (·.size)=some 4:=by kernel_rfl
theorem zgL {t u g o n:Nat} {ty:TypeId} (h1:s.tmps.getD t undef=.pointer (some ⟨g,o,none⟩)) (h2:s.tmps.getD u undef=wv n) (ht:x.there g o 4) (hK:K (s.put none undef) (x.setCells g o (wl n))):
  Oper.wp prog ⟨none,.store 24 (.tmp t) (.tmp u),ty,pos,af,gd⟩ s x K Q:=
 wp_store_mid 24 (.tmp t) (.tmp u) rfl g o #[.int .u64 (za n 0),.int .u64 (za n 1),.int .u64 (za n 2),.int .u64 (za n 3)] h1 h2 ht zjK (Array.all_eq_true_iff_forall_mem.2 (by intro v hv;simp at hv;rcases hv with rfl|rfl|rfl|rfl<;>rfl)) hK
end
def PhW (base g:Nat) (w:World) (sv:Value) (l1 l2:List Nat):Nat->World->Prop
 |0,x=>Below w.heap.size w x
 |1,x=>Wds x base sv l1/\Kb [g] w x
 |_,x=>Wds x base sv l2/\Kb [g] w x
theorem zbR {base g:Nat} {w:World} {sv:Value} {l1 l2:List Nat} {k:Nat} {x:World} (h:PhW base g w sv l1 l2 k x) (hk:k<=0):Below w.heap.size w x:=by
 obtain rfl:k=0:=by omega
 exact h
theorem phw_bel {base g:Nat} {w:World} {sv:Value} {l1 l2:List Nat} (k:Nat) (x x':World) (h:PhW base g w sv l1 l2 k x) (hb:Below x.heap.size x x'):PhW base g w sv l1 l2 k x':=by
 match k,h with
 |0,h=>exact(show Below w.heap.size w x from h).trans (hb.mono (show Below w.heap.size w x from h).size)
 |1,h=>exact⟨zj h.1 hb,h.2.below hb⟩
 |_+2,h=>exact⟨zj h.1 hb,h.2.below hb⟩
def zbH (n:Nat) (l:List Nat):List Nat:=(l.set 0 (l.getD n 0)).set n (l.getD 0 0)
def zce (n:Nat) (F:Fz):Option (Unit×Fz):=if n<F.st.length then some ((),{F with st:=zbH n F.st}) else none
theorem zmV (n:Nat) (l:List Nat) (h:n<l.length):(zbH n l).reverse=(l.reverse.set (l.length - 1) (l.getD n 0)).set (l.length - 1 - n) (l.getD 0 0):=by
 refine List.ext_getElem (by simp[zbH]) fun i h1 h2=> ?_
 have hi:i<l.length:=by simpa[zbH] using h1
 simp only[zbH,List.getElem_reverse,List.getElem_set,List.length_set,List.length_reverse];by_cases a:l.length - 1 - n=i
 ·rw[if_pos (by omega),if_pos a]
 ·rw[if_neg (by omega),if_neg a];by_cases b:l.length - 1=i
  ·rw[if_pos (by omega),if_pos b]
  ·rw[if_neg (by omega),if_neg b]
theorem swap_I {base fb:Nat} {F:Fz} {S:List Nat} {sv mv:Value} (n:Nat) (hn2:n<=16) (w:World) (h:Fr base fb F S sv mv w):
  Calls prog 240 #[.pointer (some ⟨fb,19,none⟩),.int .i64 (n:Int)] w (Out (zce n F) zy base fb S w):=by
 have hc:=h.row.cell (i:=19) (by decide);rw[zkB] at hc;have hl:=h.stl;have hlt:=h.row.lt;obtain⟨ad,cp,rfl⟩:=zS h.st;rw[List.length_reverse] at hc;by_cases h0:F.st.length=0
 ·have e:zce n F=none:=if_neg (by omega);rw[e];have HP:=zb (zdl fb 19 0 F.st.length cp ad w hc hl (by omega) (by omega));clear hc h e hl h0;go_enter func240,ntmps240;go_wp2_with fail
  refine HP.out.mono ?_;rintro e x ⟨⟨u,pv,rfl⟩,hxe⟩;obtain rfl:=hxe.symm;exact⟨rfl,⟨_,_,rfl⟩,Kb.refl _ _⟩
 ·have HP:=zb (zc3 fb 19 0 F.st.length cp ad w hc hl (by omega));by_cases hnl:n<F.st.length
  ·have e:zce n F=some ((),{F with st:=zbH n F.st}):=if_pos hnl;rw[e];have HP2:=zb (zc3 fb 19 n F.st.length cp ad w hc hl hnl);obtain⟨g,cap,hcap,hgb,hgx⟩:=zI h.st (by rw[List.length_reverse];omega);injection hcap with e1 e2 e3
   subst e1 e3;have HF:=zb h;have HE:=zb e;have hs:Wds w base (.slice (some ⟨g,0,none⟩) F.st.reverse.length cp) F.st.reverse:=h.st;rw[<-List.length_reverse] at hc;have hi:F.st.length - 1<F.st.reverse.length:=by rw[List.length_reverse];omega
   have hj:F.st.length - 1 - n<F.st.reverse.length:=by rw[List.length_reverse];omega
   have ha:F.st.reverse[F.st.length - 1]=F.st.getD 0 0:=zd1 F.st 0 (by omega);have hb:F.st.reverse[F.st.length - 1 - n]=F.st.getD n 0:=zd1 F.st n hnl;have HR:=zb (zmV n F.st hnl);rw[Nat.sub_zero] at HP;generalize F.st.getD 0 0=a at*;generalize F.st.getD n 0=b at*;generalize F.st.length - 1 - n=j at*;generalize F.st.length - 1=i at*;generalize hR:F.st.reverse=R at*;have HSV:Hid (Fr base fb F S (.slice (some ⟨g,0,none⟩) R.length cp) mv w):=HF.out;clear e h HF HE hgb hgx hnl h0 hl;go_enter func240,ntmps240;go_wp2_with fail
   refine HP.out.mono ?_;rintro e x ⟨rfl,hxe⟩;obtain rfl:=hxe.symm;go_wp2_with fail
   refine HP2.out.mono ?_;rintro e x ⟨rfl,hxe⟩;obtain rfl:=hxe.symm;go_wp2
   refine zt (PhW base g w ((.slice (some ⟨g,0,none⟩) R.length cp)) (R.set i b) ((R.set i b).set j a)) (fun _ _ _=>True) [(0,(.pointer (some ⟨fb,19,none⟩))),(4,(.int .i64 (i:Int))),(5,(.int .i64 (j:Int)))] [(some 11,.v (.pointer (some ⟨fb,19,none⟩))),(some 12,.v (.pointer (some ⟨fb,19,none⟩))),(some 13,.v (.slice (some ⟨g,0,none⟩) R.length cp)),(some 14,.v (.int .i64 (i:Int))),(some 15,.v (.pointer (some ⟨fb,19,none⟩))),(some 16,.v (.pointer (some ⟨fb,19,none⟩))),(some 17,.v (.slice (some ⟨g,0,none⟩) R.length cp)),(some 18,.v (.int .i64 (j:Int))),(some 19,.v (.pointer (some ⟨fb,19,none⟩))),(some 20,.v (.pointer (some ⟨fb,19,none⟩))),(some 21,.v (.slice (some ⟨g,0,none⟩) R.length cp)),(some 22,.v (.int .i64 (j:Int))),(some 23,.v (.pointer (some ⟨g,j*4,none⟩))),(some 24,.v (.agg #[.int .u64 (za b 0),.int .u64 (za b 1),.int .u64 (za b 2),.int .u64 (za b 3)])),(some 25,.v (.pointer (some ⟨fb,19,none⟩))),(some 26,.v (.pointer (some ⟨fb,19,none⟩))),(some 27,.v (.slice (some ⟨g,0,none⟩) R.length cp)),(some 28,.v (.int .i64 (i:Int))),(some 29,.v (.pointer (some ⟨g,i*4,none⟩))),(some 30,.v (.agg #[.int .u64 (za a 0),.int .u64 (za a 1),.int .u64 (za a 2),.int .u64 (za a 3)])),(some 31,.v (.pointer (some ⟨g,i*4,none⟩))),(none,.v undef),(some 32,.v (.pointer (some ⟨g,j*4,none⟩))),(none,.v undef)] [21,23] [2,6,10,12,13,16,18,19,20,22] (by kernel_rfl) (by rfl) (by rfl) (by kernel_rfl) ((Below.refl _ w).drew) (phw_bel)
     (zf _ _ _ rfl rfl
     (fun s x hph hdf hv hl K hK=>by
      exact zgL (g:=g) (o:=i*4) (n:=b) (hv 31 _ rfl) (hv 24 _ rfl) (zhc (zj hs hph) hi) (hK _ _ ⟨zmu (zj hs hph) hi b,(Kb.of_below hph).setCells g (Or.inl (by simp)) _ _⟩ trivial (fun _=>rfl) rfl))
     (zf _ _ _ rfl rfl
     (fun s x hph hdf hv hl K hK=>by
      exact zgL (g:=g) (o:=j*4) (n:=a) (hv 32 _ rfl) (hv 30 _ rfl) (zhc (l:=R.set i b) (by rw[List.length_set];exact hph.1) (by rw[List.length_set];exact hj)) (hK _ _ ⟨by have:=zmu (l:=R.set i b) (cp:=cp) (by rw[List.length_set];exact hph.1) (by rw[List.length_set];exact hj) a;rw[List.length_set] at this;exact this,hph.2.setCells g (Or.inl (by simp)) _ _⟩ trivial (fun _=>rfl) rfl))
     True.intro))
     (zf _ _ _ rfl rfl
     (fun k s x hk hlo hhi hph hdf hv hl K hK=>by
      have hx:Below w.heap.size w x:=zbR hph (hhi 0 21 rfl (by kernel_rfl));exact zv (v:=(.slice (some ⟨g,0,none⟩) R.length cp)) (fun w=>by kernel_rfl) (hv 12 _ rfl) ((hx.cell (by exact hlt)).trans hc) (hK _ x (Below.refl _ _) nn1 rfl))
     (zf _ _ _ rfl rfl
     (fun k s x hk hlo hhi hph hdf hv hl K hK=>by
      have hx:Below w.heap.size w x:=zbR hph (hhi 0 21 rfl (by kernel_rfl));exact zv (v:=(.slice (some ⟨g,0,none⟩) R.length cp)) (fun w=>by kernel_rfl) (hv 16 _ rfl) ((hx.cell (by exact hlt)).trans hc) (hK _ x (Below.refl _ _) nn1 rfl))
     (zf _ _ _ rfl rfl
     (fun k s x hk hlo hhi hph hdf hv hl K hK=>by
      have hx:Below w.heap.size w x:=zbR hph (hhi 0 21 rfl (by kernel_rfl));exact zv (v:=(.slice (some ⟨g,0,none⟩) R.length cp)) (fun w=>by kernel_rfl) (hv 20 _ rfl) ((hx.cell (by exact hlt)).trans hc) (hK _ x (Below.refl _ _) nn1 rfl))
     (zf _ _ _ rfl rfl
     (fun k s x hk hlo hhi hph hdf hv hl K hK=>by
      exact zcZ (j:=j) (hv 21 _ rfl) (hv 22 _ rfl) hj (hK _ x (Below.refl _ _) nn1 rfl))
     (zf _ _ _ rfl rfl
     (fun k s x hk hlo hhi hph hdf hv hl K hK=>by
      have hx:Below w.heap.size w x:=zbR hph (hhi 0 21 rfl (by kernel_rfl));obtain⟨q0,q1,q2,q3⟩:=Wds.at (zj hs hx) hj hb;exact zD (n:=b) (hv 23 _ rfl) q0 q1 q2 q3 (hK _ x (Below.refl _ _) nn1 rfl))
     (zf _ _ _ rfl rfl
     (fun k s x hk hlo hhi hph hdf hv hl K hK=>by
      have hx:Below w.heap.size w x:=zbR hph (hhi 0 21 rfl (by kernel_rfl));exact zv (v:=(.slice (some ⟨g,0,none⟩) R.length cp)) (fun w=>by kernel_rfl) (hv 26 _ rfl) ((hx.cell (by exact hlt)).trans hc) (hK _ x (Below.refl _ _) nn1 rfl))
     (zf _ _ _ rfl rfl
     (fun k s x hk hlo hhi hph hdf hv hl K hK=>by
      exact zcZ (j:=i) (hv 27 _ rfl) (hv 28 _ rfl) hi (hK _ x (Below.refl _ _) nn1 rfl))
     (zf _ _ _ rfl rfl
     (fun k s x hk hlo hhi hph hdf hv hl K hK=>by
      have hx:Below w.heap.size w x:=zbR hph (hhi 0 21 rfl (by kernel_rfl));obtain⟨q0,q1,q2,q3⟩:=Wds.at (zj hs hx) hi ha;exact zD (n:=a) (hv 29 _ rfl) q0 q1 q2 q3 (hK _ x (Below.refl _ _) nn1 rfl))
     (zf _ _ _ rfl rfl
     (fun k s x hk hlo hhi hph hdf hv hl K hK=>by
      exact zcZ (j:=i) (hv 13 _ rfl) (hv 14 _ rfl) hi (hK _ x (Below.refl _ _) nn1 rfl))
     (zf _ _ _ rfl rfl
     (fun k s x hk hlo hhi hph hdf hv hl K hK=>by
      exact zcZ (j:=j) (hv 17 _ rfl) (hv 18 _ rfl) hj (hK _ x (Below.refl _ _) nn1 rfl))
     True.intro))))))))))
     (fun _ _ _ h=>(zu rfl h).elim) (fun _ _ _ h=>(zu rfl h).elim) ?_
   intro gg x hph _
   have HO:Hid (Out (some ((),{F with st:=zbH n F.st})) zy base fb S w (.returned (.tuple #[])) x):=by
    refine⟨rfl, ?_⟩;obtain⟨h1,h2⟩:=hph;have h:=HSV.out;have hgS:g∈S:=by rw[h.foot];exact List.mem_cons_of_mem _ (List.mem_append_left _ (by simp[Value.ownBlock]))
    have hsub:∀k∈[g],k∈S:=fun k hk=>by
     obtain rfl:k=g:=(by simpa using hk);exact hgS
    refine⟨S,.slice (some ⟨g,0,none⟩) R.length cp,mv,⟨h2.row h.row (fun hm=>h.fs g rfl (show g=fb from(List.mem_singleton.1 hm).symm)), ?_,h2.own h.me (fun k hk hm=> ?_),h.foot, ?_,h.mel,h.gal,Nat.le_trans h.hb h2.size,zc7 h.zr h2 (fun hm=>h.no0 (hsub 0 hm)) h.hs,h.hb1,h.hfb,h.m32,h.jr.kb h2 (fun g' N f hr hm=>h.bno g' N f hr (hsub g' hm))⟩,h2.mono hsub,fun k hk=>Or.inl hk⟩
    ·show Wds x base _ (zbH n F.st).reverse;rw[HR.out];exact h1
    ·obtain rfl:k=g:=(by simpa using hm);exact h.sm k hk (List.mem_cons_of_mem _ (by simp[Value.ownBlock]))
    ·show(zbH n F.st).length<=1024;simpa[zbH] using h.stl
   simp only[yx,yB,yA,Zj,zF,List.foldl_cons,List.foldl_nil,Act.put];go_wp2;go_end0;exact HO.out
  ·have e:zce n F=none:=if_neg hnl;rw[e];have HP2:=zb (zdl fb 19 n F.st.length cp ad w hc hl (by omega) (by omega));clear hc h e hl h0 hnl;go_enter func240,ntmps240;go_wp2_with fail
   refine HP.out.mono ?_;rintro e x ⟨rfl,hxe⟩;obtain rfl:=hxe.symm;go_wp2_with fail
   refine HP2.out.mono ?_;rintro e x ⟨⟨u,pv,rfl⟩,hxe⟩;obtain rfl:=hxe.symm;exact⟨rfl,⟨_,_,rfl⟩,Kb.refl _ _⟩
end
section
open Go.Maps
theorem zpH:prog.underlying 128=some (.map 217 24):=by kernel_rfl
theorem ziS:prog.cellsOf 217=9:=by kernel_rfl
theorem zow:prog.cellsOf 215=1:=by kernel_rfl
theorem cl_kt:prog.keyType 217=true:=by kernel_rfl
theorem kd_lits (d k:Nat) (hk:k<3):prog.keyLits (d+1) 215 [.int .i64 (k:Int)]=some [.int .i64 (k:Int)]:=by
 unfold Program.keyLits;rw[underlying215];refine if_pos ⟨rfl, ?_⟩;simp[Lit.wf,IntKind.min,IntKind.max,IntKind.signed,IntKind.bits];omega
theorem zcS (d n:Nat):∃l,prog.keyLits (d+2) 24 [.int .u64 (za n 0),.int .u64 (za n 1),.int .u64 (za n 2),.int .u64 (za n 3)]=some l:=by
 rw[zhp];simp[List.range,List.range.loop,zf0,zlA]
theorem zpi (k a key:Nat) (hk:k<3):∃l,keyOf prog 217 (ZT k a key)=some l:=by
 obtain⟨m,hm⟩:=zd5;unfold keyOf;rw[underlying217];simp only[cl_kt,Value.formed,underlying217,ziS,Bool.true_and];rw[hm,if_pos (by rfl)];show∃l,Option.map _ (prog.keyLits (m+2+1) 217 [.int .i64 (k:Int),.int .u64 (za a 0),.int .u64 (za a 1),.int .u64 (za a 2),.int .u64 (za a 3),.int .u64 (za key 0),.int .u64 (za key 1),.int .u64 (za key 2),.int .u64 (za key 3)])=some l;obtain⟨l1,h1⟩:=zcS m a;obtain⟨l2,h2⟩:=zcS m key;have h0:=kd_lits (m+1) k hk
 conv=>enter [1,l,1,2];unfold Program.keyLits
 rw[underlying217];simp[ziS,zow,zdg,h0,h1,h2]
theorem znB {k a b a' b':Nat} (h:ZT k a b=ZT k a' b'):a%M=a'%M/\b%M=b'%M:=by
 injection h with h
 injection h with h
 injection h with _ h
 injection h with h0 h
 injection h with h1 h
 injection h with h2 h
 injection h with h3 h
 injection h with h4 h
 injection h with h5 h
 injection h with h6 h
 injection h with h7 h
 exact⟨zfC (by unfold wv;rw[h0,h1,h2,h3]),zfC (by unfold wv;rw[h4,h5,h6,h7])⟩
theorem zjf {k a b a' b':Nat} (h1:a%M=a'%M) (h2:b%M=b'%M):ZT k a b=ZT k a' b':=by
 have e1:=yo h1;have e2:=yo h2;unfold wv at e1 e2;injection e1 with e1
 injection e1 with e1
 injection e1 with p0 e1
 injection e1 with p1 e1
 injection e1 with p2 e1
 injection e1 with p3 e1
 injection e2 with e2
 injection e2 with e2
 injection e2 with q0 e2
 injection e2 with q1 e2
 injection e2 with q2 e2
 injection e2 with q3 e2
 unfold ZT zel;rw[p0,p1,p2,p3,q0,q1,q2,q3]
theorem PM.look {w:World} {pb n:Nat} {p:Nat->Nat->Nat} (h:PM w pb n p) (a k:Nat):(Instr.lookup 128 (.map (some pb)) (ZT 2 a k) false).run prog w=.ok (wv (p a k)) w:=by
 obtain⟨g,h1,h2⟩:=h;obtain⟨l,hl⟩:=zpi 2 a k (by omega);rw[h1.look zj3 zpH zfj hl];have:=h2 a k;unfold wv at this;rw[zn,zn,zn,zn] at this;rw[this]
theorem PM.store {w:World} {pb n:Nat} {p:Nat->Nat->Nat} (h:PM w pb n p) (hn:n<maxLen) (a k v:Nat):∃y,(Instr.mapUpdate 128 (.map (some pb)) (ZT 2 a k) (wv v)).run prog w=.ok () y/\PM y pb (n+1) (fun b q=>if b%M=a%M/\q%M=k%M then v else p b q)/\w.mapTurned y pb:=by
 obtain⟨g,h1,h2⟩:=h;obtain⟨l,hl⟩:=zpi 2 a k (by omega);obtain⟨y,g',hr,h3,h4,h5,h6⟩:=h1.store zj3 zpH hn (wv v) hl;refine⟨y,hr,⟨g',h3,fun b q=> ?_⟩,h6⟩;by_cases e:b%M=a%M/\q%M=k%M
 ·dsimp only;rw[if_pos e,zjf e.1 e.2,h4];rfl
 ·dsimp only;rw[if_neg e,h5 _ (fun h=>e (znB h)),h2]
theorem zek {base tb:Nat} {T:TS} {V:TV} (a key:Nat) (w:World) (h:Tr base tb T V w):
  Calls prog 202 #[.pointer (some ⟨tb,0,none⟩),ZT 2 a key] w fun e w'=>e=.returned (wv (T.pas a key))/\Below w.heap.size w w':=by
 have h2:=h.below (zfT w 2 a key);have hlk:(Instr.lookup 128 (.map (some V.pb)) (.agg #[.int .i64 2,.int .u64 (za a 0),.int .u64 (za a 1),.int .u64 (za a 2),.int .u64 (za a 3),.int .u64 (za key 0),.int .u64 (za key 1),.int .u64 (za key 2),.int .u64 (za key 3)]) false).run prog _=.ok (wv (T.pas a key)) _:=h2.pas.look a key;have c0:=h2.row.cell (i:=1) (by decide);rw[show trC V 1=.map (some V.pb) from rfl] at c0;generalize T.pas a key=r at*;clear h h2;go_enter func202,ntmps202;go_wp2
 go_region
 go_wp2;refine bodyPost_ret (v:=wv r) (by simp[results,results202,go_sem]) rfl ⟨rfl,(bal (bal (Below.refl _ w) _) _).drew⟩
theorem Tr.pas_to {base tb n':Nat} {T:TS} {V:TV} {w w':World} {p:Nat->Nat->Nat} (h:Tr base tb T V w) (hk:Kb [V.pb] w w') (hn:V.n<=n') (hp:PM w' V.pb n' p):TTo base tb T V {T with pas:=p} (n' - V.n) w w':=by
 have hm:∀k∈[V.pb],∃es cl,w.heap[k]? =some (.map es cl):=fun k hk=>by obtain rfl:k=V.pb:=(by simpa using hk);exact h.pas.is
 refine⟨{V with n:=n'},[V.pb],⟨hk.row h.row (fun e=>ZN h.row (hm _ e) rfl),(h.acc.kb hk (fun k hk hf=>h.pn (by obtain rfl:k=V.pb:=(by simpa using hk);exact hf))).mono hn,hp,hk.own h.ch (fun k e hS=>yf h.ch (hm k hS) e),h.lo.kb hk (fun k e hS=>yf h.lo.2.1 (hm k hS) e) (fun t ht k e hS=>by obtain⟨l,hl⟩:=h.lo.tv ht;exact yf hl (hm k hS) e),h.zr.kb hk (fun e=>zbU h.zr (hm _ e) rfl),Nat.le_trans h.hb hk.size,h.hb1,h.pn⟩,by show n'<=_;omega,hk,fun k hk=>Or.inr (Or.inr (Or.inl (by simpa using hk))),fun k hk=>Or.inl hk,rfl⟩
theorem TTo.mono {base tb m m':Nat} {T T':TS} {V:TV} {w w':World} (h:TTo base tb T V T' m w w') (hm:m<=m'):TTo base tb T V T' m' w w':=by
 obtain⟨V',S,h1,h2,h3⟩:=h;exact⟨V',S,h1,by omega,h3⟩
theorem zdw {base tb:Nat} {T:TS} {V:TV} (a key v:Nat) (w:World) (h:Tr base tb T V w) (hn:V.n<900000000000):
  Calls prog 159 #[.pointer (some ⟨tb,0,none⟩),ZT 2 a key,wv v] w fun e w'=>e=.returned (.tuple #[])/\TTo base tb T V (Yt T 2 a key v) 2 w w':=by
 have h2:=h.below (zaW w 2 a key v);obtain⟨y,hrun,hpm,htu⟩:=h2.pas.store (by unfold maxLen;omega) a key v;have hrun:(Instr.mapUpdate 128 (.map (some V.pb)) (.agg #[.int .i64 2,.int .u64 (za a 0),.int .u64 (za a 1),.int .u64 (za a 2),.int .u64 (za a 3),.int .u64 (za key 0),.int .u64 (za key 1),.int .u64 (za key 2),.int .u64 (za key 3)]) (wv v)).run prog _=.ok () y:=hrun;have c0:=h2.row.cell (i:=1) (by decide);rw[show trC V 1=.map (some V.pb) from rfl] at c0
 have HO:Hid (TTo base tb T V (Yt T 2 a key v) 2 w y):=by
  obtain⟨t1,t2,t3,t4,t5⟩:=zgX htu;have hto:=(h2.pas_to ⟨t1,t2,t3,t4,fun k hk hn=>t5 k hk (by simpa using hn)⟩ (Nat.le_succ _) hpm).pre (zaW w 2 a key v);exact hto.mono (by show V.n+1 - V.n<=2;omega)
 clear h h2 hpm htu;go_enter func159,ntmps159;go_wp2
 go_region
 go_wp2;go_end0;exact⟨rfl,HO.out⟩
theorem zjG {base tb:Nat} {T:TS} {V:TV} (at' key v:Nat) (w:World) (h:Tr base tb T V w) (hl:T.ch.length<1000000000) (hn:V.n<900000000000):
  Calls prog 154 #[.pointer (some ⟨tb,0,none⟩),ZT 2 at' key,wv v] w fun e w'=>e=.returned (.tuple #[])/\TTo base tb T V (Yo T 2 at' key v) 2 w w':=
 zk1 2 at' key v _ w h rfl hl (fun x hx=>zek at' key x hx) (fun T' V' x hx hv=>zdw at' key v x hx (by omega))
end
section
open Go.Maps
def Ya:List Chg->TS->TS
 |[],T=>T
 |c::r,T=>Yt (Ya r T) c.kind c.at' c.key c.old
def zjl (T:TS) (m1 m2:Nat):TS:={Ya (T.ch.drop m1) T with ch:=T.ch.take m1,logs:=T.logs.take m2}
theorem zbm (T:TS) (k a key v:Nat):(Yt T k a key v).ch=T.ch/\(Yt T k a key v).logs=T.logs:=by
 unfold Yt;split
 ·exact⟨rfl,rfl⟩
 ·split<;>exact⟨rfl,rfl⟩
theorem zbF (T:TS):∀l:List Chg,(Ya l T).ch=T.ch/\(Ya l T).logs=T.logs
 |[]=>⟨rfl,rfl⟩
 |c::r=>by
  have h:=zbF T r;have h2:=zbm (Ya r T) c.kind c.at' c.key c.old;exact⟨h2.1.trans h.1,h2.2.trans h.2⟩
def chC1 (c:Chg):List Value:=[.int .i64 (c.kind:Int),.int .u64 (za c.at' 0),.int .u64 (za c.at' 1),.int .u64 (za c.at' 2),.int .u64 (za c.at' 3),.int .u64 (za c.key 0),.int .u64 (za c.key 1),.int .u64 (za c.key 2),.int .u64 (za c.key 3)]
theorem zkt:∀(l:List Chg) (j:Nat) (h:j<l.length) (i:Nat),i<13->(chL l)[j*13+i]? =(chC l[j])[i]?
 |c::l,0,h,i,hi=>by
  rw[Nat.zero_mul,Nat.zero_add];show(chC c++chL l)[i]? =_;rw[List.getElem?_append_left (by show i<13;exact hi)];rfl
 |c::l,j+1,h,i,hi=>by
  have ih:=zkt l j (by simpa using h) i hi;show(chC c++chL l)[(j+1)*13+i]? =_;rw[List.getElem?_append_right (by show 13<=_;omega),show(j+1)*13+i - (chC c).length=j*13+i by show _ - 13=_;omega];exact ih
theorem znA {w:World} {base g cp i:Nat} {l:List Chg} {c:Chg} (hs:w.ownsRow base 220 13 (.slice (some ⟨g,0,none⟩) l.length cp) l.length (chL l)) (hi:i<l.length) (hc:l[i]=c):w.rangeAt g (i*13) (chC1 c):=by
 intro j v hv;have hj:j<9:=(List.getElem?_eq_some_iff.1 hv).1;have h1:=World.ownsRow.cellAt hs (i*13+j) (by omega);rw[zkt l i hi j (by omega),hc] at h1;rw[h1,<-hv];exact List.getElem?_append_left (l₁:=chC1 c) (l₂:=wl c.old) hj
theorem znq {w:World} {base g cp i:Nat} {l:List Chg} {c:Chg} (hs:w.ownsRow base 220 13 (.slice (some ⟨g,0,none⟩) l.length cp) l.length (chL l)) (hi:i<l.length) (hc:l[i]=c):w.rangeAt g (i*13+9) (wl c.old):=by
 intro j v hv;have hj:j<4:=(List.getElem?_eq_some_iff.1 hv).1;have h1:=World.ownsRow.cellAt hs (i*13+9+j) (by omega);rw[Nat.add_assoc,zkt l i hi (9+j) (by omega),hc] at h1;rw[Nat.add_assoc,h1,<-hv];show(chC1 c++wl c.old)[9+j]? =_;rw[List.getElem?_append_right (by show 9<=_;omega)];show(wl c.old)[9+j - 9]? =_;rw[Nat.add_sub_cancel_left]
theorem zjp:∀{l:List Chg} {m:Nat},m<=l.length->chL (l.take m)=(chL l).take (m*13)
 |_,0,_=>by simp[chL]
 |c::l,m+1,h=>by
  have ih:=zjp (l:=l) (m:=m) (by simpa using h);show chC c++chL (l.take m)=(chC c++chL l).take ((m+1)*13);rw[ih,show(m+1)*13=(chC c).length+m*13 by show _=13+_;omega,List.take_length_add_append]
theorem info_cl:(prog.info? 217).map (·.size)=some 9:=by kernel_rfl
def za4 (v:Value) (m:Nat):Value:=match v with
 |.slice (some a) _ cp=>.slice (some a) m cp
 |v=>v
def SlOk (v:Value) (n:Nat):Prop:=(v=.slice none 0 0/\n=0)\/∃g cp:Nat,v=.slice (some ⟨g,0,none⟩) n cp/\n<=cp/\cp<=maxLen
theorem zfn {w:World} {base e size n:Nat} {v:Value} {xs:List Value} (h:w.ownsRow base e size v n xs):SlOk v n:=by
 rcases h.2 with h1|⟨g,cap,cur,h1,h2,h3,h4,h5,h6,h7⟩
 ·exact Or.inl h1
 ·exact Or.inr ⟨g,cap,h1,h4,h5⟩
theorem zhN {w:World} {base e size n:Nat} {v:Value} {xs:List Value} (h:w.ownsRow base e size v n xs) {m:Nat} (hm:m<=n):w.ownsRow base e size (za4 v m) m (xs.take (m*size)):=by
 have hms:m*size<=n*size:=Nat.mul_le_mul_right _ hm;refine⟨by rw[List.length_take,h.1];omega, ?_⟩;rcases h.2 with⟨rfl,rfl⟩|⟨g,cap,cur,rfl,h2,h3,h4,h5,h6,h7⟩
 ·exact Or.inl ⟨rfl,by omega⟩
 ·exact Or.inr ⟨g,cap,cur,rfl,h2,h3,by omega,h5,h6,by rw[<-h7,List.take_take];congr 1;omega⟩
theorem zfR (v:Value) (m:Nat):(za4 v m).ownBlock=v.ownBlock:=by
 unfold za4;split<;>rfl
theorem zmy {v:Value} {n:Nat} (h:SlOk v n) (m:Nat):∃ad a b,za4 v m=.slice ad a b:=by
 rcases h with⟨rfl,_⟩|⟨g,cp,rfl,_⟩
 ·exact⟨_,_,_,rfl⟩
 ·exact⟨_,_,_,rfl⟩
section
variable {s:Act} {x:World} {pos:String} {af:Array Edge} {gd:Option (Nat×Bool)} {K:Act->World->Prop} {Q:Exit->Act->World->Prop}
theorem ziv {t u d j len cap gg:Nat} {ty:TypeId} (he:s.tmps.getD t undef=.slice (some ⟨gg,0,none⟩) len cap) (hu:s.tmps.getD u undef=.int .i64 (j:Int)) (hj:j<len) (hK:K (s.put (some d) (.pointer (some ⟨gg,j*13,none⟩))) x):
  Oper.wp prog ⟨some d,.indexAddr 129 (.tmp t) (.tmp u),ty,pos,af,gd⟩ s x K Q:=by
 have he2:s.eval (.tmp t)=.slice (some ⟨gg,0,none⟩) len cap:=he;have hu2:s.eval (.tmp u)=.int .i64 (j:Int):=hu;go_simp;exact hK
theorem zph {sv:Value} {t u d m n sz:Nat} {T ty e:TypeId} (hT:prog.underlying T=some (.slice e)) (hS:∀x,(sizeOf e).run prog x=.ok sz x) (h1:s.tmps.getD t undef=sv) (h2:s.tmps.getD u undef=.int .i64 (m:Int)) (hs:SlOk sv n) (hm:m<=n) (hK:K (s.put (some d) (za4 sv m)) x):
  Oper.wp prog ⟨some d,.slice T (.tmp t) none (some (.tmp u)) none,ty,pos,af,gd⟩ s x K Q:=by
 have f1:s.eval (.tmp t)=sv:=h1;have f2:s.eval (.tmp u)=.int .i64 (m:Int):=h2;rcases hs with⟨rfl,rfl⟩|⟨g,cp,rfl,hc,hc2⟩
 ·obtain rfl:m=0:=by omega
  have hS:=hS x;go_simp;exact hK
 ·unfold maxLen at hc2;have hS:=hS x;have hmc:m<=cp:=by omega
  go_simp;exact hK
end
def PhM1 (R:World->Prop) (w:World):Nat->World->Prop
 |0,x=>Below w.heap.size w x
 |_,x=>R x
theorem zdd {R:World->Prop} {w x:World} {k:Nat} (h:PhM1 R w k x) (hk:k<=0):Below w.heap.size w x:=by
 obtain rfl:k=0:=by omega
 exact h
theorem zoL {R:World->Prop} {w:World} (hR:∀x x',R x->Below x.heap.size x x'->R x') (k:Nat) (x x':World) (h:PhM1 R w k x) (hb:Below x.heap.size x x'):PhM1 R w k x':=by
 match k,h with
 |0,h=>exact(show Below w.heap.size w x from h).trans (hb.mono (show Below w.heap.size w x from h).size)
 |_+1,h=>exact hR x x' h hb
theorem zqs {base tb:Nat} {T:TS} {V:TV} (k a key v:Nat) (hk:k<3) (w:World) (h:Tr base tb T V w) (hn:V.n<900000000000):
  Calls prog 159 #[.pointer (some ⟨tb,0,none⟩),ZT k a key,wv v] w fun e w'=>e=.returned (.tuple #[])/\TTo base tb T V (Yt T k a key v) 2 w w':=by
 rcases ltq3 hk with rfl|rfl|rfl
 ·exact ze4 a key v w h hn
 ·exact zc2 a key v w h hn
 ·exact zdw a key v w h hn
theorem drop_at {l:List Chg} {i:Nat} (h:i<l.length):l.drop i=l[i]::l.drop (i+1):=List.drop_eq_getElem_cons h
theorem zbc {s:Act} {x:World} {pos:String} {af:Array Edge} {gd:Option (Nat×Bool)} {K:Act->World->Prop} {Q:Exit->Act->World->Prop} {T ty:TypeId} (hS:∀x,(sizeOf T).run prog x=.ok 1 x) {t1 t2 b off:Nat} {v u:Value} (hv:∃ad n c,v=.slice ad n c) (h1:s.tmps.getD t1 undef=.pointer (some ⟨b,off,none⟩)) (h2:s.tmps.getD t2 undef=v) (hc:x.cell? ⟨b,off,none⟩=some u) (hf:x.frozen? ⟨b,off,none⟩=false) (hK:K (s.put none undef) (x.setCell ⟨b,off,none⟩ v)):
  Oper.wp prog ⟨none,.store T (.tmp t1) (.tmp t2),ty,pos,af,gd⟩ s x K Q:=by
 obtain⟨ad,n,c,rfl⟩:=hv;have f1:s.eval (.tmp t1)=.pointer (some ⟨b,off,none⟩):=h1;have f2:s.eval (.tmp t2)=.slice ad n c:=h2;have hS:=hS x;go_simp;exact hK
def PhC (w:World) (p:Addr) (v:Value):Nat->World->Prop
 |0,x=>Below w.heap.size w x
 |_,x=>∃y,Below w.heap.size w y/\Below (y.setCell p v).heap.size (y.setCell p v) x
theorem zeK {w:World} {p:Addr} {v:Value} (k:Nat) (x x':World) (h:PhC w p v k x) (hb:Below x.heap.size x x'):PhC w p v k x':=by
 match k,h with
 |0,h=>exact(show Below w.heap.size w x from h).trans (hb.mono (show Below w.heap.size w x from h).size)
 |_+1,⟨y,h1,h2⟩=>exact⟨y,h1,h2.trans (hb.mono h2.size)⟩
theorem zaE {w x:World} {p:Addr} {v:Value} {k:Nat} (h:PhC w p v k x) (hk:k<=0):Below w.heap.size w x:=by
 obtain rfl:k=0:=by omega
 exact h
theorem zoS:(112:Nat)≠24:=by decide
theorem Tr.lo_to {base tb:Nat} {T:TS} {V:TV} {w w':World} {v':Value} {tv':List Value} {L':List LogE} (h:Tr base tb T V w) (hu:Up V.lv.ownBlock.toList tb 3 v' w w') (ho:Lo w' base v' tv' L') (hf:Fresh w V.lv v') (htv:∀t∈tv',∀k,t.ownBlock=some k->(∃t'∈V.tv,t'.ownBlock=some k)\/w.heap.size<=k):TTo base tb T V {T with logs:=L'} 0 w w':=by
 have hcb:∀k,V.lv.ownBlock=some k->base<=k:=fun k hk=>(h.lo.2.1.lt k hk).1
 have hS:∀k∈tb::V.lv.ownBlock.toList,k=tb\/V.lv.ownBlock=some k:=fun k hk=>by simpa using hk
 have hnm:∀k,(∃es cl,w.heap[k]? =some (.map es cl))->k∉tb::V.lv.ownBlock.toList:=fun k hm hk=>by
  rcases hS k hk with e|e
  ·exact ZN h.row hm e.symm
  ·exact yf h.lo.2.1 hm e
 have hdis:∀{e size n v xs b},w.ownsRow b e size v n xs->131≠e->112≠e->∀k,v.ownBlock=some k->k∉tb::V.lv.ownBlock.toList:=fun ho h1 h2 k hk hm=>by
  rcases hS k hm with e|e
  ·exact zJ h.row ho h1 k hk e
  ·rcases zcE h.lo.2.1 ho h2 with e2|e2
   ·rw[e] at e2;cases e2
   ·exact e2 (e.trans hk.symm)
 have h0:0∉tb::V.lv.ownBlock.toList:=fun hm=>by
  rcases hS 0 hm with e|e
  ·have h1:=h.row.cell (i:=0) (by decide);rw[<-e] at h1;rw[h.zr.1.1] at h1;cases h1
  ·have:=hcb 0 e;have:=h.hb1;omega
 have hT:Tr base tb {T with logs:=L'} {V with lv:=v',tv:=tv'} w':=by
  refine⟨?_,h.acc.kb hu.kb (fun k hk hm=>hnm k (h.acc.isMap hm) hk),h.pas.kb hu.kb (hnm _ h.pas.is),hu.kb.own h.ch (hdis h.ch zfu (Ne.symm zkV)),ho,h.zr.kb hu.kb h0,Nat.le_trans h.hb hu.kb.size,h.hb1,h.pn⟩;refine(hu.row h.row).congr fun i hi=> ?_
  have hi:i<4:=hi;rcases ltq4 hi with rfl|rfl|rfl|rfl<;>rfl
 refine⟨_,_,hT,Nat.le_refl _,hu.kb,fun k hk=> ?_,fun k hk=> ?_,rfl⟩
 ·rcases hS k hk with e|e
  ·exact Or.inl e
  ·exact Or.inr (Or.inr (Or.inr (Or.inr (Or.inl e))))
 ·rcases hk with e|e|e|e|e|⟨t,ht,e⟩
  ·exact Or.inl (Or.inl e)
  ·exact Or.inl (Or.inr (Or.inl e))
  ·exact Or.inl (Or.inr (Or.inr (Or.inl e)))
  ·exact Or.inl (Or.inr (Or.inr (Or.inr (Or.inl e))))
  ·rcases hf with e2|e2
   ·exact Or.inl (Or.inr (Or.inr (Or.inr (Or.inr (Or.inl (e2▸e))))))
   ·exact Or.inr (e2 k e)
  ·rcases htv t ht k e with e|e
   ·exact Or.inl (Or.inr (Or.inr (Or.inr (Or.inr (Or.inr e)))))
   ·exact Or.inr e
theorem zi4:∀{L:List LogE} {tv:List Value} {m:Nat},tv.length=L.length->m<=L.length->loL (L.take m) (tv.take m)=(loL L tv).take (m*6)
 |_,_,0,_,_=>by simp[loL]
 |l::L,t::tv,m+1,h1,h=>by
  have ih:=zi4 (L:=L) (tv:=tv) (m:=m) (by simpa using h1) (by simpa using h);show loC l t++loL (L.take m) (tv.take m)=(loC l t++loL L tv).take ((m+1)*6);rw[ih,show(m+1)*6=(loC l t).length+m*6 by show _=6+_;omega,List.take_length_add_append]
theorem Lo.take {w:World} {base:Nat} {lv:Value} {tv:List Value} {L:List LogE} (h:Lo w base lv tv L) {m:Nat} (hm:m<=L.length):Lo w base (za4 lv m) (tv.take m) (L.take m):=by
 refine⟨by rw[List.length_take,List.length_take,h.1], ?_,fun i l t h1 h2=>h.2.2 i l t ?_ ?_⟩
 ·rw[zi4 h.1 hm,show(L.take m).length=m by rw[List.length_take];omega];exact zhN h.2.1 hm
 ·rw[List.getElem?_take] at h1;split at h1
  ·exact h1
  ·cases h1
 ·rw[List.getElem?_take] at h2;split at h2
  ·exact h2
  ·cases h2
theorem zhL {base tb:Nat} {T:TS} {V:TV} (m1 m2:Nat) (w:World) (h:Tr base tb T V w) (hm1:m1<=T.ch.length) (hm2:m2<=T.logs.length) (hkd:∀c∈T.ch,c.kind<3) (hn:V.n+2*T.ch.length<900000000000):
  Calls prog 96 #[.pointer (some ⟨tb,0,none⟩),.agg #[.int .i64 (m1:Int),.int .i64 (m2:Int)]] w fun e w'=>e=.returned (.tuple #[])/\TTo base tb T V (zjl T m1 m2) (2*(T.ch.length - m1)) w w':=by
 have hB:Below w.heap.size w (w.alloc (.cells #[.int .i64 (m1:Int),.int .i64 (m2:Int)] 186)):=bal (Below.refl _ w) _;have c2:=(h.below hB).row.cell (i:=2) (by decide);rw[show trC V 2=V.cv from rfl] at c2;obtain⟨ad,cp,hcv⟩:=zS h.ch;rw[hcv] at c2;go_enter func96,ntmps96;go_wp2;obtain⟨w1,HW⟩:∃w1,Hid (w1=w.alloc (.cells #[.int .i64 (m1:Int),.int .i64 (m2:Int)] 186)):=⟨_,rfl⟩;have h1:=h.below hB;have b0:(w.alloc (.cells #[.int .i64 (m1:Int),.int .i64 (m2:Int)] 186)).cell? ⟨w.heap.size,0,none⟩=some (.int .i64 (m1:Int)):=by simp[go_sem]
 have b1:(w.alloc (.cells #[.int .i64 (m1:Int),.int .i64 (m2:Int)] 186)).cell? ⟨w.heap.size,1,none⟩=some (.int .i64 (m2:Int)):=by simp[go_sem]
 have hs1:w.heap.size<(w.alloc (.cells #[.int .i64 (m1:Int),.int .i64 (m2:Int)] 186)).heap.size:=by simp
 have HFT:Hid (∀k,zG tb T V k->k<w.heap.size):=fun k hk=>h.lt hk
 rw[<-HW.out] at b0 b1 hB h1 c2 hs1⊢;have HB:=zb hB;have H1:=zb h1
 have HB0:Hid (∀T' k x,TTo base tb T V T' k w1 x->x.cell? ⟨w.heap.size,0,none⟩=some (.int .i64 (m1:Int))/\x.cell? ⟨w.heap.size,1,none⟩=some (.int .i64 (m2:Int))/\w.heap.size<x.heap.size):=fun T' k x ht=>by
  obtain⟨V',S,_,_,hk,hS,_⟩:=ht;have e:=hk.block w.heap.size hs1 (fun hm=>absurd (HFT.out _ (hS _ hm)) (Nat.lt_irrefl _));exact⟨(World.cell?_of_block e).trans b0,(World.cell?_of_block e).trans b1,Nat.lt_of_lt_of_le hs1 hk.size⟩
 have hcl:T.ch.length<900000000000:=by omega
 have HKD:=zb hkd;clear h b0 b1 hB h1 c2 hcv hkd
 go_loopw [4] (fun t4 wr=>∃i:Nat,m1<=i/\i<=T.ch.length/\t4=.int .i64 ((i:Int) - 1)/\Hid (TTo base tb T V (Ya (T.ch.drop i) T) (2*(T.ch.length - i)) w1 wr)) (fun t4 _=>(RowKit.intOf t4+1).toNat)
 case atStart=>
  refine⟨T.ch.length,hm1,Nat.le_refl _,rfl, ?_⟩;rw[List.drop_length,Nat.sub_self];exact H1.out.to (Below.refl _ _)
 case round=>
  obtain⟨i,hi1,hi2,rfl,HT⟩:=hrel;obtain⟨q0,q1,q2⟩:=HB0.out _ _ _ HT.out;by_cases hlt:m1<i
  ·obtain⟨j,rfl⟩:∃j,i=j+1:=⟨i - 1,by omega⟩;have hd:decide ((m1:Int)<=((j+1:Nat):Int) - 1)=true:=decide_eq_true (by omega);have e1:((j+1:Nat):Int) - 1=(j:Int):=by omega
   rw[e1] at hd;rw[e1];obtain⟨V',S',t1,t2,t3,t4,t5,t6⟩:=HT.out;have hs:=t1.ch;rw[(zbF T (T.ch.drop (j+1))).1] at hs;obtain⟨g,cp',hcv', -, -, -⟩:=zI hs (by omega);rw[hcv'] at hs;have hc:=t1.row.cell (i:=2) (by decide);rw[show trC V' 2=V'.cv from rfl,hcv'] at hc;have hlt:=t1.row.lt;have hi:j<T.ch.length:=by omega
   obtain⟨c,hci⟩:∃c,T.ch[j]=c:=⟨_,rfl⟩
   have hput:∀x,Below wr.heap.size wr x->Calls prog 159 #[.pointer (some ⟨tb,0,none⟩),ZT c.kind c.at' c.key,wv c.old] x fun e y=>e=.returned (.tuple #[])/\TTo base tb T V (Ya (T.ch.drop j) T) (2*(T.ch.length - j)) w1 y:=fun x hx=>by
    refine(zqs c.kind c.at' c.key c.old (HKD.out c (by rw[<-hci];exact List.getElem_mem _)) x (t1.below hx) (by omega)).mono ?_;rintro e y ⟨e2,hy⟩;refine⟨e2, ?_⟩;have:=TTo.comp t2 (t3.below hx) t4 t5 t6 hy;rw[show 2*(T.ch.length - (j+1))+2=2*(T.ch.length - j) by omega] at this;rw[drop_at hi,hci];exact this
   have hR:∀x x',TTo base tb T V (Ya (T.ch.drop j) T) (2*(T.ch.length - j)) w1 x->Below x.heap.size x x'->TTo base tb T V (Ya (T.ch.drop j) T) (2*(T.ch.length - j)) w1 x':=fun x x' h hb=>h.below hb
   have hR':∃R:World->Prop,R=fun x=>TTo base tb T V (Ya (T.ch.drop j) T) (2*(T.ch.length - j)) w1 x:=⟨_,rfl⟩
   clear t1 t2 t3 t4 t5 t6 HT hcv' e1;go_wp2
   refine zt (PhM1 (fun x=>TTo base tb T V (Ya (T.ch.drop j) T) (2*(T.ch.length - j)) w1 x) wr) (fun _ _ _=>True) [(0,(.pointer (some ⟨tb,0,none⟩))),(4,(.int .i64 (j:Int)))] [(some 17,.v (.pointer (some ⟨tb,0,none⟩))),(some 18,.v (.pointer (some ⟨tb,0,none⟩))),(some 19,.v (.pointer (some ⟨tb,0,none⟩))),(some 20,.v (.pointer (some ⟨tb,2,none⟩))),(some 21,.v (.slice (some ⟨g,0,none⟩) T.ch.length cp')),(some 22,.v (.int .i64 (j:Int))),(some 23,.v (.pointer (some ⟨g,j*13,none⟩))),(some 24,.v (.pointer (some ⟨g,j*13,none⟩))),(some 25,.v (ZT c.kind c.at' c.key)),(some 26,.v (.pointer (some ⟨tb,0,none⟩))),(some 27,.v (.pointer (some ⟨tb,0,none⟩))),(some 28,.v (.pointer (some ⟨tb,2,none⟩))),(some 29,.v (.slice (some ⟨g,0,none⟩) T.ch.length cp')),(some 30,.v (.int .i64 (j:Int))),(some 31,.v (.pointer (some ⟨g,j*13,none⟩))),(some 32,.v (.pointer (some ⟨g,j*13+9,none⟩))),(some 33,.v (wv c.old)),(some 34,.v (.tuple #[]))] [17] [4,6,8,12,14,16] (by kernel_rfl) (by rfl) (by rfl) (by kernel_rfl) ((Below.refl _ wr).drew) (zoL hR)
     (zf _ _ _ rfl rfl
     (fun s x hph hdf hv hl K hK=>by
     refine zZ hv (hput x hph) (by kernel_rfl) (fun v y h=> ?_) (fun l y h=> ?_) (fun y h=> ?_)
     ·obtain⟨e,hR⟩:=h;injection e with e
      subst e;exact hK _ y hR trivial nn1 rfl
     ·cases h.1
     ·cases h.1)
     True.intro)
     (zf _ _ _ rfl rfl
     (fun k s x hk hlo hhi hph hdf hv hl K hK=>by
     have hx:Below wr.heap.size wr x:=zdd hph (hhi 0 17 rfl (by kernel_rfl));exact zv (v:=(.slice (some ⟨g,0,none⟩) T.ch.length cp')) (fun w=>by kernel_rfl) (hv 20 _ rfl) ((hx.cell (by exact hlt)).trans hc) (hK _ x (Below.refl _ _) nn1 rfl))
     (zf _ _ _ rfl rfl
     (fun k s x hk hlo hhi hph hdf hv hl K hK=>by
     exact ziv (j:=j) (hv 21 _ rfl) (hv 22 _ rfl) hi (hK _ x (Below.refl _ _) nn1 rfl))
     (zf _ _ _ rfl rfl
     (fun k s x hk hlo hhi hph hdf hv hl K hK=>by
     have hx:Below wr.heap.size wr x:=zdd hph (hhi 0 17 rfl (by kernel_rfl));exact wp_load_mid 217 (.tmp 24) rfl g (j*13) (hv 24 _ rfl) (chC1 c) _ (znA (zj hs hx) hi hci) underlying217 rfl info_cl (hK _ x (Below.refl _ _) nn1 rfl))
     (zf _ _ _ rfl rfl
     (fun k s x hk hlo hhi hph hdf hv hl K hK=>by
     have hx:Below wr.heap.size wr x:=zdd hph (hhi 0 17 rfl (by kernel_rfl));exact zv (v:=(.slice (some ⟨g,0,none⟩) T.ch.length cp')) (fun w=>by kernel_rfl) (hv 28 _ rfl) ((hx.cell (by exact hlt)).trans hc) (hK _ x (Below.refl _ _) nn1 rfl))
     (zf _ _ _ rfl rfl
     (fun k s x hk hlo hhi hph hdf hv hl K hK=>by
     exact ziv (j:=j) (hv 29 _ rfl) (hv 30 _ rfl) hi (hK _ x (Below.refl _ _) nn1 rfl))
     (zf _ _ _ rfl rfl
     (fun k s x hk hlo hhi hph hdf hv hl K hK=>by
     have hx:Below wr.heap.size wr x:=zdd hph (hhi 0 17 rfl (by kernel_rfl));exact wp_load_mid 24 (.tmp 32) rfl g (j*13+9) (hv 32 _ rfl) (wl c.old) _ (znq (zj hs hx) hi hci) underlying24 rfl zjK (hK _ x (Below.refl _ _) nn1 rfl))
     True.intro))))))
     (fun _ _ _ h=>(zu rfl h).elim) (fun _ _ _ h=>(zu rfl h).elim) ?_
   intro gg x hph _;have HR:=zb (show TTo base tb T V (Ya (T.ch.drop j) T) (2*(T.ch.length - j)) w1 x from hph);clear hph hput hs hc hR;simp only[yx,yB,yA,Zj,zF,List.foldl_cons,List.foldl_nil,Act.put];simp only[sx9];go_wp2
   go_roundw
   case rel=>exact⟨j,by omega,by omega,rfl,HR.out⟩
   case measure=>simp[RowKit.intOf]
  ·have hd:decide ((m1:Int)<=(i:Int) - 1)=false:=decide_eq_false (by omega);obtain rfl:i=m1:=by omega
   obtain⟨V',S',t1,t2,t3,t4,t5,t6⟩:=HT.out;have hch:=t1.ch;have hlo:=t1.lo.2.1;rw[(zbF T (T.ch.drop i)).1] at hch;rw[(zbF T (T.ch.drop i)).2] at hlo;have hsl:=zfn hch;have gsl:=zfn hlo;have hc:=t1.row.cell (i:=2) (by decide);have hz:=t1.row.frozen 2;rw[show trC V' 2=V'.cv from rfl] at hc;have hlt:=t1.row.lt;have hlo':=zhN hlo hm2;have hch':=zhN hch hm1;have HCV:Hid (V'.cv=V'.cv):=rfl;go_wp2
   refine zt (PhC wr ⟨tb,2,none⟩ (za4 V'.cv i)) (fun _ _ _=>True) [(0,(.pointer (some ⟨tb,0,none⟩))),(3,(.pointer (some ⟨w.heap.size,0,none⟩)))] [(some 35,.v (.pointer (some ⟨tb,0,none⟩))),(some 36,.v (.pointer (some ⟨tb,0,none⟩))),(some 37,.v (.pointer (some ⟨tb,0,none⟩))),(some 38,.v (.pointer (some ⟨tb,2,none⟩))),(some 39,.v V'.cv),(some 40,.v (.pointer (some ⟨w.heap.size,0,none⟩))),(some 41,.v (.int .i64 (i:Int))),(some 42,.v (za4 V'.cv i)),(some 43,.v (.pointer (some ⟨tb,0,none⟩))),(some 44,.v (.pointer (some ⟨tb,2,none⟩))),(none,.v undef)] [10] [4,6,7] (by kernel_rfl) (by rfl) (by rfl) (by kernel_rfl) ((Below.refl _ wr).drew) (zeK)
     (zf _ _ _ rfl rfl
     (fun s x hph hdf hv hl K hK=>by
     have hx:Below wr.heap.size wr x:=hph;exact zbc (u:=V'.cv) (fun _=>by kernel_rfl) (zmy hsl _) (hv 44 _ rfl) (hv 42 _ rfl) ((hx.cell (by exact hlt)).trans hc) ((hx.frozen (by exact hlt)).trans hz) (hK _ _ ⟨x,hx,Below.refl _ _⟩ trivial (fun _=>rfl) rfl))
     True.intro)
     (zf _ _ _ rfl rfl
     (fun k s x hk hlo hhi hph hdf hv hl K hK=>by
     have hx:Below wr.heap.size wr x:=zaE hph (hhi 0 10 rfl (by kernel_rfl));exact zv (v:=V'.cv) (fun w=>by kernel_rfl) (hv 38 _ rfl) ((hx.cell (by exact hlt)).trans hc) (hK _ x (Below.refl _ _) nn1 rfl))
     (zf _ _ _ rfl rfl
     (fun k s x hk hlo hhi hph hdf hv hl K hK=>by
     have hx:Below wr.heap.size wr x:=zaE hph (hhi 0 10 rfl (by kernel_rfl));exact zv (v:=.int .i64 (i:Int)) (fun w=>by kernel_rfl) (hv 40 _ rfl) ((hx.cell (by exact q2)).trans q0) (hK _ x (Below.refl _ _) nn1 rfl))
     (zf _ _ _ rfl rfl
     (fun k s x hk hlo hhi hph hdf hv hl K hK=>by
     exact zph (T:=129) (e:=220) (sz:=13) (n:=T.ch.length) (by kernel_rfl) (fun _=>by kernel_rfl) (hv 39 _ rfl) (hv 41 _ rfl) hsl hm1 (hK _ x (Below.refl _ _) nn1 rfl))
     True.intro)))
     (fun _ _ _ h=>(zu rfl h).elim) (fun _ _ _ h=>(zu rfl h).elim) ?_
   intro gg xq hph _;obtain⟨y,hy1,hy2⟩:PhC wr ⟨tb,2,none⟩ (za4 V'.cv i) 1 xq:=hph;have k1:V'.cv.ownBlock=(za4 V'.cv i).ownBlock:=(zfR _ _).symm;have hni:tb∉V'.cv.ownBlock.toList:=zlW t1
   obtain⟨u1,u2⟩:=t1.ch_to (c':=T.ch.take i) (Up.mk' (o:=2) (za4 V'.cv i) (Kb.of_below (S:=V'.cv.ownBlock.toList) hy1) hni hlt) (by
    rw[show(T.ch.take i).length=i by rw[List.length_take];omega];exact yR (zj (by rw[zjp hm1];exact hch') hy1) (fun k hk e=>hni (by rw[<-e,k1,hk];simp)) _ _) (Or.inl k1.symm) (fun k hk=>(hch.lt k hk).1)
   have u2:=TTo.comp t2 t3 t4 t5 t6 (u2.below hy2);clear u1 hy1 hy2 k1 hni t1 t2 t3 t4 t5 t6 hc hz hlt hch hch' hlo hlo' hsl gsl q0 q1 q2 HT;obtain⟨q0,q1,q2⟩:=HB0.out _ _ _ u2;obtain⟨V2,S2,x1,x2,x3,x4,x5,x6⟩:=u2;have hlo:=x1.lo;rw[show TS.logs {Ya (T.ch.drop i) T with ch:=T.ch.take i}=T.logs from(zbF T _).2] at hlo;have hsl:=zfn hlo.2.1;have hc:=x1.row.cell (i:=3) (by decide);have hz:=x1.row.frozen 3;rw[show trC V2 3=V2.lv from rfl] at hc;have hlt:=x1.row.lt;simp only[yx,yB,yA,Zj,zF,List.foldl_cons,List.foldl_nil,Act.put];simp only[sx9];go_wp2
   refine zt (PhC xq ⟨tb,3,none⟩ (za4 V2.lv m2)) (fun _ _ _=>True) [(0,(.pointer (some ⟨tb,0,none⟩))),(3,(.pointer (some ⟨w.heap.size,0,none⟩)))] [(some 45,.v (.pointer (some ⟨tb,0,none⟩))),(some 46,.v (.pointer (some ⟨tb,0,none⟩))),(some 47,.v (.pointer (some ⟨tb,0,none⟩))),(some 48,.v (.pointer (some ⟨tb,3,none⟩))),(some 49,.v V2.lv),(some 50,.v (.pointer (some ⟨w.heap.size,1,none⟩))),(some 51,.v (.int .i64 (m2:Int))),(some 52,.v (za4 V2.lv m2)),(some 53,.v (.pointer (some ⟨tb,0,none⟩))),(some 54,.v (.pointer (some ⟨tb,3,none⟩))),(none,.v undef)] [10] [4,6,7] (by kernel_rfl) (by rfl) (by rfl) (by kernel_rfl) ((Below.refl _ xq).drew) (zeK)
     (zf _ _ _ rfl rfl
     (fun s x hph hdf hv hl K hK=>by
     have hx:Below xq.heap.size xq x:=hph;exact zbc (u:=V2.lv) (fun _=>by kernel_rfl) (zmy hsl _) (hv 54 _ rfl) (hv 52 _ rfl) ((hx.cell (by exact hlt)).trans hc) ((hx.frozen (by exact hlt)).trans hz) (hK _ _ ⟨x,hx,Below.refl _ _⟩ trivial (fun _=>rfl) rfl))
     True.intro)
     (zf _ _ _ rfl rfl
     (fun k s x hk hlo hhi hph hdf hv hl K hK=>by
     have hx:Below xq.heap.size xq x:=zaE hph (hhi 0 10 rfl (by kernel_rfl));exact zv (v:=V2.lv) (fun w=>by kernel_rfl) (hv 48 _ rfl) ((hx.cell (by exact hlt)).trans hc) (hK _ x (Below.refl _ _) nn1 rfl))
     (zf _ _ _ rfl rfl
     (fun k s x hk hlo hhi hph hdf hv hl K hK=>by
     have hx:Below xq.heap.size xq x:=zaE hph (hhi 0 10 rfl (by kernel_rfl));exact zv (v:=.int .i64 (m2:Int)) (fun w=>by kernel_rfl) (hv 50 _ rfl) ((hx.cell (by exact q2)).trans q1) (hK _ x (Below.refl _ _) nn1 rfl))
     (zf _ _ _ rfl rfl
     (fun k s x hk hlo hhi hph hdf hv hl K hK=>by
     exact zph (T:=36) (e:=112) (sz:=6) (n:=T.logs.length) (by kernel_rfl) (fun _=>by kernel_rfl) (hv 49 _ rfl) (hv 51 _ rfl) hsl hm2 (hK _ x (Below.refl _ _) nn1 rfl))
     True.intro)))
     (fun _ _ _ h=>(zu rfl h).elim) (fun _ _ _ h=>(zu rfl h).elim) ?_
   intro gg z hph _;obtain⟨y,hy1,hy2⟩:PhC xq ⟨tb,3,none⟩ (za4 V2.lv m2) 1 z:=hph;have hni:tb∉V2.lv.ownBlock.toList:=fun hm=>zJ x1.row x1.lo.2.1 zge tb (by simpa using hm) rfl
   have hu:Up V2.lv.ownBlock.toList tb 3 (za4 V2.lv m2) xq (y.setCell ⟨tb,3,none⟩ (za4 V2.lv m2)):=Up.mk' (o:=3) (za4 V2.lv m2) (Kb.of_below (S:=V2.lv.ownBlock.toList) hy1) hni hlt
   have hnew:Lo (y.setCell ⟨tb,3,none⟩ (za4 V2.lv m2)) base (za4 V2.lv m2) (V2.tv.take m2) (T.logs.take m2):=by
    have h9:=(hlo.kb (Kb.of_below (S:=[]) hy1) (by simp) (by simp)).take hm2;refine h9.kb ((Kb.refl [tb] y).setCell (p:=⟨tb,3,none⟩) (Or.inl (by simp)) _) (fun k hk hm=>hni ?_) (fun t ht k hk hm=> ?_)
    ·rw[zfR] at hk;rw[<-List.mem_singleton.1 hm,hk];simp
    ·obtain⟨l,hl⟩:=hlo.tv (List.mem_of_mem_take ht);exact zJ x1.row hl zhC k hk (List.mem_singleton.1 hm)
   have u3:=x1.lo_to hu hnew (Or.inl (zfR _ _)) (fun t ht k hk=>Or.inl ⟨t,List.mem_of_mem_take ht,hk⟩);have HFIN:Hid (TTo base tb T V (zjl T i m2) (2*(T.ch.length - i)) w z):=TTo.pre HB.out (TTo.comp x2 x3 x4 x5 x6 (u3.below hy2));clear u3 hnew hu hni hy1 hy2 x1 x2 x3 x4 x5 x6 hc hz hlt hlo;simp only[yx,yB,yA,Zj,zF,List.foldl_cons,List.foldl_nil,Act.put];simp only[sx9];go_wp2;go_end0;exact⟨rfl,HFIN.out⟩
end
section
theorem znE (w:World) (d:Option Addr) (c:Nat) (s:ByteArray) (ty sT:TypeId):(Builtin.copy_ #[26,sT] ty #[.slice d 0 c,.string s]).run prog w=.ok (goInt 0) w:=by
 have hs:=zmP;cases hq:prog.info? 5 with
 |none=>rw[hq] at hs;cases hs
 |some i=>
  cases d<;>simp[Builtin.copy_,run_underlying Yw,Builtin.lenOf,Builtin.firstCells,sizeOf,typeInfo,hq,storeCells]
theorem zno {base fb:Nat} {F:Fz} {S:List Nat} {sv mv v:Value} {x:World} {a b:Nat} (s:ByteArray) (hf:Fr base fb F S sv mv x) (hp:PartOf mv v a b) (ty sT:TypeId):
  ∃r x',(Builtin.copy_ #[26,sT] ty #[v,.string s]).run prog x=.ok r x'/\Fr base fb {F with mem:=splice F.mem a ((bl s).take b)} S sv mv x'/\Kb S x x':=by
 obtain⟨ad,c,rfl,hbc,hp⟩:=hp;by_cases hb:b=0
 ·subst hb;refine⟨_,x,znE x ad c s ty sT, ?_,Kb.refl _ _⟩;rw[List.take_zero,zf3];exact hf
 ·obtain⟨g,len,cap,rfl,rfl,hle⟩:=hp hb;rcases hf.me with⟨hxl,⟨h1,_⟩|⟨g',cap',cur,h1,h2,h3,h4,h5,h6,h7⟩⟩
  ·injection h1 with h1;cases h1
  ·injection h1 with h1 h8 h9
   injection h1 with h1
   injection h1 with h1
   subst h1 h8 h9;have hL:((bl s).take b).length=Nat.min s.size b:=by rw[List.length_take,zaH];exact Nat.min_comm _ _
   have hLb:((bl s).take b).length<=b:=by rw[List.length_take];omega
   have hrun:=zjd x g a b c (Nat.min s.size b) s cur 5 h3 rfl (by rw[<-hL,h6];omega) ty sT
   have e:((bl s).map u8v).take (Nat.min s.size b)=((bl s).take b).map u8v:=by
    rw[<-List.map_take];congr 1;by_cases hh:s.size<=b
    ·rw[show Nat.min s.size b=s.size from Nat.min_eq_left hh,List.take_of_length_le (by rw[zaH];omega),List.take_of_length_le (by rw[zaH];omega)]
    ·rw[show Nat.min s.size b=b from Nat.min_eq_right (by omega)]
   rw[e,<-hL] at hrun;generalize(bl s).take b=L at*;refine⟨_,_,hrun, ?_, ?_⟩
   ·refine hf.written (m:=splice F.mem a L) (length_splice _ _ _ (by omega)) ((Kb.refl _ x).setRow (Or.inl (by simp[Value.ownBlock])) _) ?_;refine⟨by rw[List.length_map];omega,Or.inr ⟨g,cap,_, ?_,h2,setRow_heap x g _ _ _ _ h3, ?_,h5, ?_, ?_⟩⟩
    ·rw[length_splice _ _ _ (by omega)]
    ·rw[length_splice _ _ _ (by omega)];exact h4
    ·have h9:cur.toList.length=cap*1:=by rw[<-h6];rfl
     show(_:List Value).length=_;rw[List.length_append,List.length_append,List.length_take,List.length_drop,List.length_map,h9];omega
    ·rw[length_splice _ _ _ (by omega),zfw,<-h7]
     have e:∀(q:List Value),q=splice cur.toList a (L.map u8v)->q.take (F.mem.length*1)=splice (cur.toList.take (F.mem.length*1)) a (L.map u8v):=fun q hq=>by
      rw[hq];exact zej _ _ _ _ (by rw[List.length_map];omega) (by simp;omega)
     refine e _ ?_;unfold splice;rw[List.length_map,List.append_assoc]
   ·refine(Kb.refl _ x).setRow (Or.inl ?_) _;rw[hf.foot];exact List.mem_cons_of_mem _ (List.mem_append_right _ (by simp[Value.ownBlock]))
section
variable {s:Act} {x:World} {pos:String} {af:Array Edge} {gd:Option (Nat×Bool)} {K:Act->World->Prop} {Q:Exit->Act->World->Prop}
theorem st_addI {t u d a b:Nat} {ty:TypeId} (h1:s.tmps.getD t undef=.int .i64 (a:Int)) (h2:s.tmps.getD u undef=.int .i64 (b:Int)) (hl:a+b<=10000000) (hK:K (s.put (some d) (.int .i64 ((a+b:Nat):Int))) x):
  Oper.wp prog ⟨some d,.binOp .add 3 (.tmp t) (.tmp u) 3,ty,pos,af,gd⟩ s x K Q:=by
 have f1:s.eval (.tmp t)=.int .i64 (a:Int):=h1;have f2:s.eval (.tmp u)=.int .i64 (b:Int):=h2;have e:((a+b:Nat):Int)=(a:Int)+(b:Int):=by omega
 rw[e] at hK;have hw:IntKind.i64.wrap ((a:Int)+(b:Int))=(a:Int)+(b:Int):=by simp[IntKind.wrap,IntKind.bits,IntKind.signed];omega
 go_simp;exact hK
theorem zj1 {d g n:Nat} {ty:TypeId} (c0:x.cell? ⟨g,0,none⟩=some (.int .u64 (za n 0))) (c1:x.cell? ⟨g,1,none⟩=some (.int .u64 (za n 1))) (c2:x.cell? ⟨g,2,none⟩=some (.int .u64 (za n 2))) (c3:x.cell? ⟨g,3,none⟩=some (.int .u64 (za n 3))) (hK:K (s.put (some d) (wv n)) x):
  Oper.wp prog ⟨some d,.load 24 (.global g),ty,pos,af,gd⟩ s x K Q:=by
 go_simp;exact hK
end
theorem ziH (F:Fz) (sv mv:Value) (v:ByteArray):(fun i=>if i=21 then .string v else F.cell sv mv i)=({F with ret:=v}:Fz).cell sv mv:=by
 funext i;by_cases h:i=21
 ·subst h;rfl
 ·simp only[Fz.cell,if_neg h]
def zei (F:Fz) (g:Nat) (out:ByteArray) (a b:Nat):Fz:={F with gas:=F.gas+g,ret:=out,mem:=splice F.mem a ((bl out).take b)}
def yO (F:Fz) (st g:Nat) (out:ByteArray) (a b:Nat):Option (Unit×Fz):=zm (if st=0 then 1 else 0) (zei F g out a b)
theorem zkc {α:Type} {r:Option (α×Fz)} {val:α->Value} {base fb:Nat} {S:List Nat} {w w1 w':World} {e:Ending} (hk:Kb S w w1) (h:Out r val base fb S w1 e w'):Out r val base fb S w e w':=by
 cases r with
 |none=>exact⟨h.1,hk.trans h.2 (fun i hi=>Or.inl hi)⟩
 |some y=>obtain⟨a,F'⟩:=y;exact⟨h.1,To.pre hk (fun k hk=>Or.inl hk) h.2⟩
theorem zhM {base fb:Nat} {F:Fz} {S:List Nat} {sv mv:Value} {room lv:Value} {a b:Nat} (st g:Nat) (out:ByteArray) (hst:st<=255) (hlv:∃ad n c,lv=.slice ad n c) (w:World) (h:Fr base fb F S sv mv w) (hg:F.gas+g<=100000) (hp:PartOf mv room a b):
  Calls prog 280 #[.pointer (some ⟨fb,0,none⟩),zaJ st g out lv,room] w (Out (yO F st g out a b) zy base fb S w):=by
 obtain⟨lad,ln,lc,rfl⟩:=hlv;have hB:Below w.heap.size w (w.alloc (.cells (zdP st g out (.slice lad ln lc)) 38)):=bal (Below.refl _ w) _;have h1:=h.below hB;have hlt:=h1.row.lt;have cg:=h1.row.cell (i:=16) (by decide);have fg:=h1.row.frozen 16;rw[show F.cell sv mv 16=.int .i64 (F.gas:Int) from rfl] at cg;have b0:(w.alloc (.cells (zdP st g out (.slice lad ln lc)) 38)).cell? ⟨w.heap.size,0,none⟩=some (.int .u8 (st:Int)):=by simp[go_sem]
 have b1:(w.alloc (.cells (zdP st g out (.slice lad ln lc)) 38)).cell? ⟨w.heap.size,1,none⟩=some (.int .i64 (g:Int)):=by simp[go_sem]
 have b2:(w.alloc (.cells (zdP st g out (.slice lad ln lc)) 38)).cell? ⟨w.heap.size,2,none⟩=some (.string out):=by simp[go_sem]
 have hmlt:w.heap.size<(w.alloc (.cells (zdP st g out (.slice lad ln lc)) 38)).heap.size:=by simp
 have hnS:w.heap.size∉S:=fun hm=>absurd (h.footlt _ hm) (Nat.lt_irrefl _)
 obtain⟨w1,HW⟩:∃w1,Hid (w1=w.alloc (.cells (zdP st g out (.slice lad ln lc)) 38)):=⟨_,rfl⟩;obtain⟨mb,HMB⟩:∃mb,Hid (mb=w.heap.size):=⟨_,rfl⟩;rw[<-HW.out,<-HMB.out] at b0 b1 b2 hmlt;rw[<-HW.out] at h1 hlt cg fg hB;rw[<-HMB.out] at hnS;have HB:=zb hB;have H1:=zb h1;obtain⟨adr,cr,rfl,hp2⟩:=hp;have HP:Hid (PartOf mv (.slice adr b cr) a b):=⟨adr,cr,rfl,hp2⟩;clear h h1 hB hp2;unfold yO;obtain⟨n,HN⟩:∃n:Nat,Hid (n=if st=0 then 1 else 0):=⟨_,rfl⟩;obtain⟨F3,HF3⟩:∃F3:Fz,Hid (F3=zei F g out a b):=⟨_,rfl⟩;rw[<-HN.out,<-HF3.out];go_enter func280,ntmps280;go_wp2;rw[<-HW.out,<-HMB.out]
 refine zt (PhC w1 ⟨fb,16,none⟩ (.int .i64 ((F.gas+g:Nat):Int))) (fun _ _ _=>True) [(0,(.pointer (some ⟨fb,0,none⟩))),(4,(.pointer (some ⟨mb,0,none⟩)))] [(some 6,.v (.pointer (some ⟨fb,0,none⟩))),(some 7,.v (.pointer (some ⟨fb,0,none⟩))),(some 8,.v (.pointer (some ⟨fb,16,none⟩))),(some 9,.v (.int .i64 (F.gas:Int))),(some 10,.v (.pointer (some ⟨mb,1,none⟩))),(some 11,.v (.int .i64 (g:Int))),(some 12,.v (.int .i64 ((F.gas+g:Nat):Int))),(some 13,.v (.pointer (some ⟨fb,0,none⟩))),(some 14,.v (.pointer (some ⟨fb,16,none⟩))),(none,.v undef)] [9] [3,5,6] (by kernel_rfl) (by rfl) (by rfl) (by kernel_rfl) ((Below.refl _ _).drew) (zeK)
   (zf _ _ _ rfl rfl
   (fun s x hph hdf hv hl K hK=>by
    have hx:Below w1.heap.size w1 x:=hph;exact zdJ (v:=((F.gas+g:Nat):Int)) (hv 14 _ rfl) (hv 12 _ rfl) ((hx.cell (by exact hlt)).trans cg) ((hx.frozen (by exact hlt)).trans fg) (hK _ _ ⟨x,hx,Below.refl _ _⟩ trivial (fun _=>rfl) rfl))
   True.intro)
   (zf _ _ _ rfl rfl
   (fun k s x hk hlo hhi hph hdf hv hl K hK=>by
    have hx:Below w1.heap.size w1 x:=zaE hph (hhi 0 9 rfl (by kernel_rfl));exact zv (v:=.int .i64 (F.gas:Int)) (fun w=>by kernel_rfl) (hv 8 _ rfl) ((hx.cell (by exact hlt)).trans cg) (hK _ x (Below.refl _ _) nn1 rfl))
   (zf _ _ _ rfl rfl
   (fun k s x hk hlo hhi hph hdf hv hl K hK=>by
    have hx:Below w1.heap.size w1 x:=zaE hph (hhi 0 9 rfl (by kernel_rfl));exact zv (v:=.int .i64 (g:Int)) (fun w=>by kernel_rfl) (hv 10 _ rfl) ((hx.cell (by exact hmlt)).trans b1) (hK _ x (Below.refl _ _) nn1 rfl))
   (zf _ _ _ rfl rfl
   (fun k s x hk hlo hhi hph hdf hv hl K hK=>by
    exact st_addI (a:=F.gas) (b:=g) (hv 9 _ rfl) (hv 11 _ rfl) (by omega) (hK _ x (Below.refl _ _) nn1 rfl))
   True.intro)))
   (fun _ _ _ h=>(zu rfl h).elim) (fun _ _ _ h=>(zu rfl h).elim) ?_
 intro gg x hph _;obtain⟨y,hy1,hy2⟩:PhC w1 ⟨fb,16,none⟩ (.int .i64 ((F.gas+g:Nat):Int)) 1 x:=hph;have hkx:Kb [fb] w1 x:=((Kb.of_below (S:=[fb]) hy1).setCell (p:=⟨fb,16,none⟩) (Or.inl (by simp)) _).below hy2
 have hfx:Fr base fb {F with gas:=F.gas+g} S sv mv x:=by
  refine((H1.out.below hy1).own' (F':={F with gas:=F.gas+g}) rfl rfl rfl rfl hg (Yi (H1.out.below hy1).row (zak F sv mv (F.gas+g))) ((Kb.refl [fb] y).setCell (p:=⟨fb,16,none⟩) (Or.inl (by simp)) _)).below hy2
 have cr1:=hfx.row.cell (i:=21) (by decide);have fr1:=hfx.row.frozen 21;change _=some (Value.string F.ret) at cr1;have hmf:mb≠fb:=fun e=>hnS (by rw[e,H1.out.foot];simp)
 have hbx:=hkx.block mb hmlt (by simpa using hmf);have b0':=(World.cell?_of_block (a:=⟨mb,0,none⟩) hbx).trans b0;have b2':=(World.cell?_of_block (a:=⟨mb,2,none⟩) hbx).trans b2;obtain⟨F2,HF2⟩:∃F2:Fz,Hid (F2={F with gas:=F.gas+g,ret:=out}):=⟨_,rfl⟩
 have hf2:Fr base fb F2 S sv mv (x.setCell ⟨fb,21,none⟩ (.string out)):=by
  rw[HF2.out];exact hfx.own' (F':={F with gas:=F.gas+g,ret:=out}) rfl rfl rfl rfl hg (Yi hfx.row (ziH _ sv mv out)) ((Kb.refl [fb] x).setCell (p:=⟨fb,21,none⟩) (Or.inl (by simp)) _)
 obtain⟨r,x',hrun,hf3,hk3⟩:=zno out hf2 HP.out 3 9;have HX2:Hid (Kb [fb] w1 (x.setCell ⟨fb,21,none⟩ (.string out))):=hkx.setCell (p:=⟨fb,21,none⟩) (Or.inl (by simp)) _;have hne2:(⟨fb,21,none⟩:Addr).block≠mb:=fun e=>hmf e.symm
 have HFB:Hid (fb∈S):=by show fb∈S;rw[H1.out.foot];simp
 have HK3:Hid (Kb S w x'):=by
  refine((Kb.of_below (S:=S) HB.out).trans HX2.out (fun i hi=>Or.inl (by rw[List.mem_singleton.1 hi];exact HFB.out))).trans hk3 (fun i hi=>Or.inl hi)
 have hkS:Kb S w1 x':=(HX2.out.mono (fun i hi=>by rw[List.mem_singleton.1 hi];exact HFB.out)).trans hk3 (fun i hi=>Or.inl hi);have hb0:x'.cell? ⟨mb,0,none⟩=some (.int .u8 (st:Int)):=(World.cell?_of_block (a:=⟨mb,0,none⟩) (hkS.block mb hmlt hnS)).trans b0;have HS3:Hid (∀k∈S,k∈S\/w.heap.size<=k):=fun k hk=>Or.inl hk
 have hf3:Fr base fb F3 S sv mv x':=by
  rw[HF3.out];rw[HF2.out] at hf3;exact hf3
 clear hkS hk3 hf2 hfx hkx hy1 hy2 b0 b1 b2 cg fg HX2 hbx;simp only[yx,yB,yA,Zj,zF,List.foldl_cons,List.foldl_nil,Act.put];simp only[sx9];by_cases hs0:st=0
 ·subst hs0;have hn1:n=1:=HN.out;subst hn1;go_wp2
  refine zt (PhF base fb (fun k=>match k with|0=>F3|_=>zh (zm 1 F3)) S x') (fun _ _ _=>True) [(0,(.pointer (some ⟨fb,0,none⟩)))] [(some 27,.v (.pointer (some ⟨fb,0,none⟩))),(some 28,.v (.pointer (some ⟨fb,0,none⟩))),(some 29,.v (.pointer (some ⟨fb,19,none⟩))),(some 30,.v (wv 1)),(some 31,.v (.tuple #[]))] [4] [3] (by kernel_rfl) (by rfl) (by rfl) (by kernel_rfl) (PhF.init hf3) (PhF.bel)
    (zf _ _ _ rfl rfl
    (fun s x hph hdf hv hl K hK=>by
     refine ZO (val:=zy) (c:=.tuple #[]) hph hv (fun S' sv mv hf=>yi (1) x hf) (by kernel_rfl) rfl (fun _ _ _=>rfl) (fun hno u pv x' hk=> ?_) (fun x' hp=>hK _ x' hp trivial nn1 rfl);refine⟨hdf, ?_⟩;show Out (zm 1 F3) zy base fb S w _ _;rw[show zm 1 F3=none from hno];exact⟨⟨_,_,rfl⟩,HK3.out.trans hk HS3.out⟩)
    True.intro)
    (zf _ _ _ rfl rfl
    (fun k s x hk hlo hhi hph hdf hv hl K hK=>by
     refine zZ hv (ZI 1 (by omega) x) (by kernel_rfl) (fun v y h=> ?_) (fun l y h=>absurd h.1 (by simp)) (fun y h=>absurd h.1 (by simp));obtain⟨e,hb⟩:=h;injection e with e
     subst e;exact hK _ y hb nn1 rfl)
    True.intro)
    (fun _ _ _ h=>(zu rfl h).elim) (fun _ _ _ h=>(zu rfl h).elim) ?_
  intro gg z hz _;have HO:=zb (zkc HK3.out (PhF.out1 hz));clear hz hf3;simp only[yx,yB,yA,Zj,zF,List.foldl_cons,List.foldl_nil,Act.put];simp only[sx9];go_wp2;go_end0;exact HO.out
 ·have hn0:n=0:=HN.out.trans (if_neg hs0);subst hn0;have hsz:((st:Int)==0)=false:=by simp;omega
  go_wp2
  refine zt (PhF base fb (fun k=>match k with|0=>F3|_=>zh (zm 0 F3)) S x') (fun _ _ _=>True) [(0,(.pointer (some ⟨fb,0,none⟩)))] [(some 32,.v (.pointer (some ⟨fb,0,none⟩))),(some 33,.v (.pointer (some ⟨fb,0,none⟩))),(some 34,.v (.pointer (some ⟨fb,19,none⟩))),(some 35,.v (wv 0)),(some 36,.v (.tuple #[]))] [4] [3] (by kernel_rfl) (by rfl) (by rfl) (by kernel_rfl) (PhF.init hf3) (PhF.bel)
    (zf _ _ _ rfl rfl
    (fun s x hph hdf hv hl K hK=>by
     refine ZO (val:=zy) (c:=.tuple #[]) hph hv (fun S' sv mv hf=>yi (0) x hf) (by kernel_rfl) rfl (fun _ _ _=>rfl) (fun hno u pv x' hk=> ?_) (fun x' hp=>hK _ x' hp trivial nn1 rfl);refine⟨hdf, ?_⟩;show Out (zm 0 F3) zy base fb S w _ _;rw[show zm 0 F3=none from hno];exact⟨⟨_,_,rfl⟩,HK3.out.trans hk HS3.out⟩)
    True.intro)
    (zf _ _ _ rfl rfl
    (fun k s x hk hlo hhi hph hdf hv hl K hK=>by
     obtain⟨S',sv',mv',hf,_⟩:=hph;exact zj1 (n:=0) ((hf.zr 0 (by omega)).trans (by rw[zn])) ((hf.zr 1 (by omega)).trans (by rw[zn])) ((hf.zr 2 (by omega)).trans (by rw[zn])) ((hf.zr 3 (by omega)).trans (by rw[zn])) (hK _ x (Below.refl _ _) nn1 rfl))
    True.intro)
    (fun _ _ _ h=>(zu rfl h).elim) (fun _ _ _ h=>(zu rfl h).elim) ?_
  intro gg z hz _;have HO:=zb (zkc HK3.out (PhF.out1 hz));clear hz hf3;simp only[yx,yB,yA,Zj,zF,List.foldl_cons,List.foldl_nil,Act.put];simp only[sx9];go_wp2;go_end0;exact HO.out
end
section
open Go.RowKit Go.Maps Go.Sort Go.Shelf
def zfb:Code:=(Code.region 2 #[⟨some 5,.alloc 24,0,"iter.go:51",#[],none⟩,⟨none,.store 24 (.tmp 5) (.tmp 7),0,"iter.go:51",#[⟨0,.data⟩,⟨0,.phase⟩],none⟩] false)
def zkj:Code:=(Code.block 1 (Code.region 3 #[⟨some 8,.load 110 (.tmp 2),110,"iter.go:52",#[],none⟩,⟨some 9,.load 24 (.tmp 5),24,"iter.go:52",#[],none⟩,⟨some 10,.buildSlice 110 1 #[(0,.tmp 9)],110,"iter.go:52",#[⟨1,.data⟩],none⟩,⟨some 11,.call ⟨.builtin Builtin.append,#[.tmp 8,.tmp 10],#[110,110]⟩,110,"iter.go:52",#[⟨0,.data⟩,⟨2,.data⟩],none⟩,⟨none,.store 110 (.tmp 2) (.tmp 11),0,"iter.go:52",#[⟨3,.data⟩,⟨3,.chain⟩,⟨0,.phase⟩,⟨1,.phase⟩,⟨2,.phase⟩,⟨3,.phase⟩],none⟩] false))
def zbu (fn:FuncId) (sv:Value) (Bs D:Nat) (st:LoopState) (pend:Option Code):Loop:=
 {state:=st,pending:=pend,fn,tmps:=#[.slice none 0 0,sv,.pointer (some ⟨Bs,0,none⟩),undef,.slice none 0 0,undef,sv,undef,undef,undef,undef,undef,undef],params:=#[7],assign:=zfb,body:=zkj,defers:=D}
structure ApAt (w0:World) (fn:FuncId) (sv:Value) (Bs l D:Nat) (ss:List Nat) (W:World):Prop where
 box:∃v,W.heap[Bs]? =some (.cells #[v] 110 (0,0))/\W.ownsRow w0.heap.size 24 4 v ss.length (Zu ss)
 L:W.heap[l]? =some (.loop (zbu fn sv Bs D .ready none))
 K:W.heap[D]? =some (.deferred (some []))
 below:Below w0.heap.size w0 W
theorem zgS (w0:World) (fn:FuncId) (sv:Value) (Bs l D B:Nat) (hB:w0.heap.size<=B):AbidesFrom B (ApAt w0 fn sv Bs l D):=fun s W W' row h hg hrow=>by
 have hrow':∀r,row=some r->∃o:Obj,W.heap[r]? =some o/\o.isWalk=true:=fun r e=>(hrow r e).2
 obtain⟨v,hv,hr⟩:=h.box
 exact⟨⟨v,(grownBy_keeps hg hrow' hv rfl).trans hv,ownsRow_abides_a hr hg hrow'⟩,(grownBy_keeps hg hrow' h.L rfl).trans h.L,(grownBy_keeps hg hrow' h.K rfl).trans h.K,
  h.below.grown hg h.below.size (fun k e=>Nat.le_trans hB (hrow k e).1)⟩
theorem zcw {F:Fence} {n:Nat} {P:Program} (w:World) {ops:Array Oper} {rest:List Oper} {o:Oper} {a:Act} {Q:Exit->Act->World->Prop} (hg:o.guard=none) (s x:Operand) (t:TypeId) (hop:o.op=Op.call {callee:=Callee.builtin Builtin.append,args:=#[s,x],argTypes:=#[t,t]})
  (vs vx:Value) (hs:a.eval s=vs) (hx:a.eval x=vx) (v':Value) (w':World) (hrun:(Builtin.append_ #[t,t] o.type #[vs,vx]).run P w=.ok v' w') (hK:wpListIn F n P ops Q rest (a.put o.dst v') w'):wpListIn F n P ops Q (o::rest) a w:=by
 refine wpListIn_plain hg fun K hK'=> ?_
 unfold Oper.wpIn;refine⟨?_, ?_⟩
 ·simp[Oper.about,hop,resolve,Target.leads,Sem.run_pure]
 ·rw[Oper.semAt_plain F _ _ (by rw[hop];intro c hc';cases hc')];simp[execOp,hop,resolve,invoke,builtin,hs,hx,hrun,Result.andThen];exact hK' _ _ hK
theorem t_ne:(110:TypeId)≠24:=by decide
theorem apYield (m:Nat) (w0:World) (fn:FuncId) (sv:Value) (Bs l D:Nat) (hBl:Bs≠l) (hDl:D≠l) (hDB:D≠Bs) (h0B:w0.heap.size<=Bs) (h0l:w0.heap.size<=l)
  (N:Nat) (hN:N<=1000000000000) (ss:List Nat) (x:Nat) (W:World) (h:ApAt w0 fn sv Bs l D ss W) (hlen:ss.length<N):
  YieldAt FA m prog l #[wv x] W fun e W'=>e=.returned (.bool true)/\ApAt w0 fn sv Bs l D (ss++[x]) W'/\KeepsWalks W W':=by
 have hne:=t_ne;obtain⟨i0,hi0,hz0,hz1,hz2⟩:=info_parts zh3;refine⟨fn,#[.slice none 0 0,sv,.pointer (some ⟨Bs,0,none⟩),undef,.slice none 0 0,undef,sv,wv x,undef,undef,undef,undef,undef],zfb,zkj,by simpa[zbu] using run_yield (P:=prog) (args:=#[wv x]) h.L rfl,roundIn_of_wpIn trivial ?_⟩;have hlw:l<W.heap.size:=(Array.getElem?_eq_some_iff.1 h.L).1;obtain⟨Wa,hWa⟩:∃Wa,W.alloc (.cells #[.int .u64 (za x 0),.int .u64 (za x 1),.int .u64 (za x 2),.int .u64 (za x 3)] 24)=Wa:=⟨_,rfl⟩;have hsa:Wa.heap.size=W.heap.size+1:=by rw[<-hWa];simp
 have hxa:Wa.cell? ⟨W.heap.size,0,none⟩=some (.int .u64 (za x 0))/\Wa.cell? ⟨W.heap.size,1,none⟩=some (.int .u64 (za x 1))/\Wa.cell? ⟨W.heap.size,2,none⟩=some (.int .u64 (za x 2))/\Wa.cell? ⟨W.heap.size,3,none⟩=some (.int .u64 (za x 3)):=by
  rw[<-hWa];refine⟨?_, ?_, ?_, ?_⟩<;>simp[go_sem]
 have hka:KeepsWalks W Wa:=by rw[<-hWa];exact KeepsWalks.alloc _ _
 have h:ApAt w0 fn sv Bs l D ss Wa:=by
  rw[<-hWa];exact zgS w0 fn sv Bs l D w0.heap.size (Nat.le_refl _) ss W _ none h (grownBy_alloc W _) (fun r e=>by cases e)
 obtain⟨v,hv,hrow⟩:=h.box;have hl:l<Wa.heap.size:=(Array.getElem?_eq_some_iff.1 h.L).1;have hbr:=run_beginRound (P:=prog) h.L rfl;obtain⟨W2,hW2⟩:∃W2,Wa.putObj l (.loop {zbu fn sv Bs D .ready none with state:=.busy})=W2:=⟨_,rfl⟩;rw[hW2] at hbr;have hg2:Wa.grownBy W2 (some l):=by rw[<-hW2];exact grownBy_putObj_a _ _ _
 have hk2:KeepsWalks Wa W2:=by rw[<-hW2];exact KeepsWalks.putObj _ h.L rfl
 have hv2:W2.heap[Bs]? =some (.cells #[v] 110 (0,0)):=by rw[<-hW2];exact(World.putObj_heap_other hBl).trans hv
 have hK2:W2.heap[D]? =some (.deferred (some [])):=by rw[<-hW2];exact(World.putObj_heap_other hDl).trans h.K
 have hL2:W2.heap[l]? =some (.loop {zbu fn sv Bs D .ready none with state:=.busy}):=by rw[<-hW2];exact World.putObj_heap_same hl
 have hrow2:W2.ownsRow w0.heap.size 24 4 v ss.length (Zu ss):=hrow.kept hg2 (ownsRow_ne_a hrow h.L (fun cur e=>by first|cases e|exact hne (Obj.cells.inj e).2.1));have hb2:Below w0.heap.size w0 W2:=h.below.grown hg2 h.below.size (fun k e=>by cases e;exact h0l);have hBlt:Bs<W2.heap.size:=(Array.getElem?_eq_some_iff.1 hv2).1;have hl2:l<W2.heap.size:=(Array.getElem?_eq_some_iff.1 hL2).1;have hDlt:D<W2.heap.size:=(Array.getElem?_eq_some_iff.1 hK2).1
 have ne_of:∀{j:Nat} {o:Obj},W2.heap[j]? =some o->(∀cur,o≠.cells cur 24 (0,0))->some j≠v.ownBlock:=fun hj hno=>by
  rcases ownsRow_ne_a hrow2 hj hno with e|e
  ·rw[e];simp
  ·exact fun e'=>e e'.symm
 have hbk:W2.heap[W.heap.size]? =Wa.heap[W.heap.size]? :=hg2.block _ (by omega) (fun e=>by cases e;omega);obtain⟨x0,x1,x2,x3⟩:=hxa;have x0:=(World.cell?_of_block (a:=⟨W.heap.size,0,none⟩) hbk).trans x0;have x1:=(World.cell?_of_block (a:=⟨W.heap.size,1,none⟩) hbk).trans x1;have x2:=(World.cell?_of_block (a:=⟨W.heap.size,2,none⟩) hbk).trans x2;have x3:=(World.cell?_of_block (a:=⟨W.heap.size,3,none⟩) hbk).trans x3;obtain⟨hc2,hf2⟩:=cell_of_box_a hv2;obtain⟨v',w3,hrun,hown',hg3,hfre⟩:=yE (P:=prog) (W2.alloc (.cells #[.int .u64 (za x 0),.int .u64 (za x 1),.int .u64 (za x 2),.int .u64 (za x 3)] 24)) w0.heap.size 110 110 24 i0 (.agg #[.int .u64 0,.int .u64 0,.int .u64 0,.int .u64 0]) 4 32 (by kernel_rfl) hi0 hz0 hz1 hz2 rfl (by decide) v ss.length (Zu ss) (zj hrow2 (bal (Below.refl _ W2) _)) ⟨W2.heap.size,0,none⟩ 1 1 [.int .u64 (za x 0),.int .u64 (za x 1),.int .u64 (za x 2),.int .u64 (za x 3)] rfl (zV W2 #[.int .u64 (za x 0),.int .u64 (za x 1),.int .u64 (za x 2),.int .u64 (za x 3)] 24) (by intro u hu;simp at hu;rcases hu with rfl|rfl|rfl|rfl<;>rfl) (by unfold maxLen;omega) (by omega) (by have:=hb2.size;simp;omega);have hv3:w3.heap[Bs]? =some (.cells #[v] 110 (0,0)):=(hg3.block Bs (by simp;omega) (ne_of hv2 (fun cur e=>by first|cases e|exact hne (Obj.cells.inj e).2.1))).trans ((Below.heap_alloc _ _ Bs (by omega)).trans hv2);obtain⟨hc3,hf3⟩:=cell_of_box_a hv3;obtain⟨ad',cp',hsl'⟩:=zS hown';subst hsl';have HRUN:=zb hrun;have HOWN:=zb hown';have HG3:=zb hg3;clear hrun hown' hg3 hfre;unfold zfb
 gi_wp2_with gi_round_op_a
 unfold zkj
 gi_wp2_with (first
  |(gi_at_builtin;refine zcw _ rfl _ _ _ rfl _ _ rfl rfl _ _ HRUN.out ?_;go_frame)
  |gi_round_op_a)
 have hown':=HOWN.out;have hg3':=HG3.out;have hL3:w3.heap[l]? =some (.loop {zbu fn sv Bs D .ready none with state:=.busy}):=(hg3'.block l (by simp;omega) (ne_of hL2 (fun cur e=>by first|cases e|exact hne (Obj.cells.inj e).2.1))).trans ((Below.heap_alloc _ _ l hl2).trans hL2);have hK3:w3.heap[D]? =some (.deferred (some [])):=(hg3'.block D (by simp;omega) (ne_of hK2 (fun cur e=>by first|cases e|exact hne (Obj.cells.inj e).2.1))).trans ((Below.heap_alloc _ _ D hDlt).trans hK2);obtain⟨w4,hw4⟩:∃w4,w3.setCell ⟨Bs,0,none⟩ (.slice ad' (ss.length+1) cp')=w4:=⟨_,rfl⟩;rw[hw4];have hg4:w3.grownBy w4 (some Bs):=by rw[<-hw4];exact grownBy_setCell0_a _ _ _
 have hv4:w4.heap[Bs]? =some (.cells #[.slice ad' (ss.length+1) cp'] 110 (0,0)):=by rw[<-hw4];exact heap_setCell_box_a _ hv3
 have hL4:w4.heap[l]? =some (.loop {zbu fn sv Bs D .ready none with state:=.busy}):=(hg4.block l (Array.getElem?_eq_some_iff.1 hL3).1 (fun e=>hBl (by cases e;rfl))).trans hL3;have hK4:w4.heap[D]? =some (.deferred (some [])):=(hg4.block D (Array.getElem?_eq_some_iff.1 hK3).1 (fun e=>hDB (by cases e;rfl))).trans hK3;have hrow4:=hown'.kept hg4 (ownsRow_ne_a hown' hv3 (fun cur e=>by first|cases e|exact hne (Obj.cells.inj e).2.1));have hl4:l<w4.heap.size:=(Array.getElem?_eq_some_iff.1 hL4).1;have hb3:Below w0.heap.size w0 w3:=(hb2.alloc hb2.size _).grown hg3' (by have:=hb2.size;simp;omega) (fun k e=>(hrow2.lt k e).1);have hb4:Below w0.heap.size w0 w4:=hb3.grown hg4 hb3.size (fun k e=>by cases e;exact h0B);have hk4:KeepsWalks W w4:=(((hka.trans hk2).trans (KeepsWalks.alloc _ _)).trans (KeepsWalks.of_grownBy hg3' (ownsRow_not_walk_a (hrow2.alloc _)))).trans (by rw[<-hw4];exact KeepsWalks.setCell _ _ _);clear hw4;refine⟨_,_,run_endRound none hL4,rfl,⟨⟨_,(World.putObj_heap_other hBl).trans hv4, ?_⟩,World.putObj_heap_same hl4,(World.putObj_heap_other hDl).trans hK4,hb4.grown (grownBy_putObj_a _ _ _) hb4.size (fun k e=>by cases e;exact h0l)⟩,hk4.trans (KeepsWalks.putObj _ hL4 rfl)⟩;have:=hrow4.kept (grownBy_putObj_a w4 l (.loop {{zbu fn sv Bs D .ready none with state:=.busy} with state:=if (none:Option Code).isNone then .ready else .done,pending:=none})) (ownsRow_ne_a hrow4 hL4 (fun cur e=>by first|cases e|exact hne (Obj.cells.inj e).2.1));rw[zbB,List.length_append];exact this
theorem ziK (n:Nat) (hn:2<=n) (g:Nat) (lb:Array Value) (eg:∀args w,(callFunc g args).run prog w=.ok (.enter g args) w)
  (S:List Nat->Prop) (N:Nat) (hN:N<=1000000000000) (w:World) (hseq:SeqGives FA (n - 1) prog g lb wv S N w):
  CallsIn FA n prog 190 #[.slice none 0 0,.func (.func g) #[] lb] w fun e w'=>∃(v:Value) (ss:List Nat),e=.returned v/\S ss/\w'.ownsRow w.heap.size 24 4 v ss.length (Zu ss)/\Below w.heap.size w w':=by
 have h1:1<=n:=by omega
 have hne:=t_ne;refine callsIn_of_wp_marks func190 rfl trivial ?_ rfl;simp only[ntmps190,List.size_toArray,List.length_cons,List.length_nil,Nat.reduceAdd,Nat.reduceSub,Array.replicate_succ,Array.replicate_zero,List.push_toArray,List.append_toArray,List.nil_append,List.cons_append]
 gi_wp2
 refine wpIn_rangeFunc ?_;intro fn hfn;rw[show FA.round=none from rfl];obtain⟨W0,hW0⟩:∃W0,w.alloc (.cells #[.slice none 0 0] 110)=W0:=⟨_,rfl⟩;have hs0:W0.heap.size=w.heap.size+1:=by rw[<-hW0];simp
 have hv0:W0.heap[w.heap.size]? =some (.cells #[.slice none 0 0] 110 (0,0)):=by rw[<-hW0];exact World.alloc_heap_new w _
 have hb0:Below w.heap.size w W0:=by rw[<-hW0];exact(Below.refl _ w).alloc (Nat.le_refl _) _
 rw[hW0];obtain⟨W1,hW1⟩:∃W1,(W0.alloc (.deferred (some []))).alloc (.loop (zbu fn (.func (.func g) #[] lb) w.heap.size W0.heap.size .ready none))=W1:=⟨_,rfl⟩
 have hold:∀k,k<W0.heap.size->W1.heap[k]? =W0.heap[k]? :=fun k hk=>by
  rw[<-hW1];exact(Below.heap_alloc _ _ k (by simp;omega)).trans (Below.heap_alloc _ _ k hk)
 have hb1:Below w.heap.size w W1:=by rw[<-hW1];exact(hb0.alloc hb0.size _).alloc (by have:=hb0.size;simp;omega) _
 have hs1:W1.heap.size=W0.heap.size+2:=by rw[<-hW1];simp
 have hM:ApAt w fn (.func (.func g) #[] lb) w.heap.size (W0.heap.size+1) W0.heap.size [] W1:=
  ⟨⟨_,(hold w.heap.size (by omega)).trans hv0,⟨rfl,.inl ⟨rfl,rfl⟩⟩⟩,
   by rw[<-hW1];have:=World.alloc_heap_new (W0.alloc (.deferred (some []))) (.loop (zbu fn (.func (.func g) #[] lb) w.heap.size W0.heap.size .ready none));rwa[World.size_alloc] at this,
   by rw[<-hW1];exact(Below.heap_alloc _ _ _ (by simp)).trans (World.alloc_heap_new W0 _),hb1⟩
 refine⟨W0.heap.size+1,[{target:=.collected W0.heap.size,args:=#[]}],W1,{target:=.fn (.func g) lb,args:=#[.func (.yield (W0.heap.size+1)) #[] #[]]},W1,g,
  #[.func (.yield (W0.heap.size+1)) #[] #[]]++lb,W1, ?_, ?_, ?_, ?_,fun _=>h1, ?_⟩
 ·rw[<-hW1];exact run_enterLoop_outer _ _ _ _ _
 ·simp[resolve,go_sem]
 ·intro f' hf';exact trivial
 ·simp[invoke,go_sem,eg]
 ·refine(hseq (W0.heap.size+1) (ApAt w fn (.func (.func g) #[] lb) w.heap.size (W0.heap.size+1) W0.heap.size) W1 hb1 (zgS _ _ _ _ _ _ _ hb1.size)
   (fun pre x W hJ hl=>apYield (n - 1 - 1) w fn _ w.heap.size (W0.heap.size+1) W0.heap.size (by omega) (by omega) (by omega) (Nat.le_refl _) (by omega) N hN pre x W hJ hl) hM).mono ?_
  rintro e W2 ⟨⟨v0,rfl⟩,ss,hS,h2⟩;obtain⟨v,hv,hrow⟩:=h2.box;have hend:=run_endLoop (P:=prog) h2.L (by simp[zbu]);obtain⟨W3,hW3⟩:∃W3,W2.putObj (W0.heap.size+1) (.loop {zbu fn (.func (.func g) #[] lb) w.heap.size W0.heap.size .ready none with state:=.exhausted})=W3:=⟨_,rfl⟩;rw[hW3] at hend;have hg3:W2.grownBy W3 (some (W0.heap.size+1)):=by rw[<-hW3];exact grownBy_putObj_a _ _ _
  have hv3:W3.heap[w.heap.size]? =some (.cells #[v] 110 (0,0)):=by rw[<-hW3];exact(World.putObj_heap_other (by omega)).trans hv
  have hK3:W3.heap[W0.heap.size]? =some (.deferred (some [])):=by rw[<-hW3];exact(World.putObj_heap_other (by omega)).trans h2.K
  have hrow3:=hrow.kept hg3 (ownsRow_ne_a hrow h2.L (fun cur e=>by first|cases e|exact hne (Obj.cells.inj e).2.1));have hb3:Below w.heap.size w W3:=h2.below.grown hg3 h2.below.size (fun k e=>by cases e;omega);obtain⟨hc3,hf3⟩:=cell_of_box_a hv3;clear hW3;refine⟨none,W3,hend, ?_⟩
  gi_wp2
  rw[<-hs0];refine⟨by simp,.inl ⟨_,_,rfl,run_takeDeferred hK3, ?_⟩⟩;exact⟨_,results_tmp rfl _ _ _,v,ss,rfl,hS,hrow3.kept (grownBy_putObj_a _ _ _) (ownsRow_ne_a hrow3 hK3 (fun cur e=>by first|cases e|exact hne (Obj.cells.inj e).2.1)),hb3.grown (grownBy_putObj_a _ _ _) hb3.size (fun k e=>by cases e;omega)⟩
theorem zns (n:Nat) (hn:3<=n) (g:Nat) (lb:Array Value) (eg:∀args w,(callFunc g args).run prog w=.ok (.enter g args) w)
  (S:List Nat->Prop) (N:Nat) (hN:N<=1000000000000) (w:World) (hseq:SeqGives FA (n - 1 - 1) prog g lb wv S N w):
  CallsIn FA n prog 134 #[.func (.func g) #[] lb] w fun e w'=>∃(v:Value) (ss:List Nat),e=.returned v/\S ss/\w'.ownsRow w.heap.size 24 4 v ss.length (Zu ss)/\Below w.heap.size w w':=by
 have h1:1<=n:=by omega
 refine callsIn_of_wp func134 rfl trivial ?_ rfl;simp only[ntmps134,List.size_toArray,List.length_cons,List.length_nil,Nat.reduceAdd,Nat.reduceSub,Array.replicate_succ,Array.replicate_zero,List.push_toArray,List.append_toArray,List.nil_append,List.cons_append]
 gi_wp2_with (gi_at_call 190;refine(ziK (n - 1) (by omega) g lb eg S N hN _ hseq).mono ?_;rintro e w' ⟨v,ss,rfl,hS,hrow,hb⟩)
 go_ret;exact⟨v,ss,rfl,hS,hrow,hb⟩
theorem zoj (n l Bm:Nat) (J:List Nat->World->Prop) (W:World) (hJ:AbidesFrom W.heap.size J) (hm:W.cell? ⟨Bm,0,none⟩=some (.map none)) (h0:J [] W):
  CallsIn FA n prog 193 #[.func (.yield l) #[] #[],.pointer (some ⟨Bm,0,none⟩)] W fun e W'=>(∃v,e=.returned v)/\∃ss:List Nat,ss=[]/\J ss W':=by
 refine callsIn_of_wp func193 rfl trivial ?_ rfl;simp only[ntmps193,List.size_toArray,List.length_cons,List.length_nil,Nat.reduceAdd,Nat.reduceSub,Array.replicate_succ,Array.replicate_zero,List.push_toArray,List.append_toArray,List.nil_append,List.cons_append];have hrg:=run_range_nilMap (P:=prog) W 93 24 24 (by kernel_rfl);have hnx:∀ty,(Instr.next (.pointer (some ⟨W.heap.size,0,none⟩)) false ty).run prog (W.alloc (.mapIter none 0 #[] 0))=_:=fun ty=>run_next_nilMap _ ty 0 0 #[]
 gi_wp2
 refine wpIn_loop_rounds 1 ?_;rw[roundsIn_succ]
 gi_wp2
 go_end0;exact⟨⟨_,rfl⟩,[],rfl,hJ [] W _ none h0 (World.grownBy_alloc W _ none) (fun r e=>by cases e)⟩
theorem zpp (n nn Bm:Nat) (w:World) (hBm:Bm<w.heap.size) (hm:w.cell? ⟨Bm,0,none⟩=some (.map none)):
  SeqGives FA n prog 193 #[.pointer (some ⟨Bm,0,none⟩)] wv (zci (fun _=>none)) nn w:=fun l J W hW hJ _ h0=>by
 refine(zoj n l Bm J W hJ ((hW.cell (p:=⟨Bm,0,none⟩) hBm).trans hm) h0).mono ?_;rintro e W' ⟨h1,ss,rfl,h2⟩;exact⟨h1,[],⟨List.nodup_nil,fun m=>by simp⟩,h2⟩
end
section
open Go.RowKit Go.Maps Go.Sort Go.Shelf
abbrev cpW (w:World) (a b:Nat):World:=(w.alloc (.cells #[.int .u64 (za a 0),.int .u64 (za a 1),.int .u64 (za a 2),.int .u64 (za a 3)] 24)).alloc (.cells #[.int .u64 (za b 0),.int .u64 (za b 1),.int .u64 (za b 2),.int .u64 (za b 3)] 24)
theorem znn {w x:World} (h:∃q,x=w.drewN q):∃q,x.drew=w.drewN q:=by
 obtain⟨q,rfl⟩:=h;exact⟨q+1,rfl⟩
theorem zgW {w x:World} {a b:Nat} (h:∃q,x=(cpW w a b).drewN q):∃q os,x=grow (w.drewN q) os:=by
 obtain⟨q,rfl⟩:=h;refine⟨q,#[.cells #[.int .u64 (za a 0),.int .u64 (za a 1),.int .u64 (za a 2),.int .u64 (za a 3)] 24]++#[.cells #[.int .u64 (za b 0),.int .u64 (za b 1),.int .u64 (za b 2),.int .u64 (za b 3)] 24], ?_⟩;show(cpW w a b).drewN q=_;unfold cpW;rw[alloc_eq_grow,alloc_eq_grow,grow_grow];rfl
theorem zfe {w x:World} (h:∃q os,x=grow (w.drewN q) os):∃q os,x.drew=grow (w.drewN q) os:=by
 obtain⟨q,os,rfl⟩:=h;exact⟨q+1,os,rfl⟩
theorem zio (a b:Nat) (w:World):Calls prog 33 #[wv a,wv b] w fun e w'=>e=.returned (.int .i64 (Z7 a b))/\∃q os',w'=grow (w.drewN q) os':=by
 go_enter func33,ntmps33;go_wp2
 go_loopw [5] (fun t5 wr=>∃k:Nat,k<=3/\t5=.int .i64 k/\Hid (∀j,k<j->j<4->za a j=za b j)/\
   wr.rowIs w.heap.size 24 4 (zo (za a))/\wr.rowIs (w.heap.size+1) 24 4 (zo (za b))/\Hid (∃q,wr=(cpW w a b).drewN q))
   (fun t5 _=>(RowKit.intOf t5).toNat)
 case atStart=>
  refine⟨3,by omega,rfl,fun j h1 h2=>by omega, ?_, ?_,⟨0,rfl⟩⟩
  ·exact(zk _ rfl rfl rfl rfl rfl).alloc _
  ·exact zk (za b) (by simp) rfl rfl rfl rfl
 case round=>
  obtain⟨k,hk,rfl,HE,hra,hrb,hbel⟩:=hrel;have c0:=hra.cell (i:=0) (by omega);have d0:=hrb.cell (i:=0) (by omega);have c1:=hra.cell (i:=k) (by omega);have c2:=hrb.cell (i:=k) (by omega);simp only[zo] at c0 d0 c1 c2;by_cases hlt:0<k
  ·have t1:decide ((0:Int)<(k:Int))=true:=decide_eq_true (by omega);by_cases hne:za a k=za b k
   ·have t2:(za a k !=za b k)=false:=by simp[hne]
    have HN:Hid (∀j,k - 1<j->j<4->za a j=za b j):=fun j h1 h2=>by
     by_cases e:j=k
     ·rw[e];exact hne
     ·exact HE.out j (by omega) h2
    clear hne;go_wp2
    go_region
    all_goals go_wp2
    all_goals go_roundw
    case rel=>exact⟨k - 1,by omega,by go_num,HN,hra.drew,hrb.drew,zb (znn hbel.out)⟩
    case measure=>simp[RowKit.intOf];omega
   ·have t2:(za a k !=za b k)=true:=by simp[hne]
    have HR:Hid (zjV (za a k) (za b k)=Z7 a b):=zb3 a b k (by omega) HE.out (Or.inl hne);clear hne;go_wp2
    go_region
    all_goals go_wp2
    all_goals go_region_with (go_at_call 59;refine(zdf _ _ _).mono ?_;rintro e w1 ⟨rfl,rfl⟩)
    all_goals go_wp2
    all_goals go_ret
    all_goals exact⟨congrArg (fun z=>Ending.returned (Value.int .i64 z)) HR.out,by repeat' (first|exact zgW hbel.out|refine zfe ?_)⟩
  ·obtain rfl:k=0:=by omega
   have HR:Hid (zjV (za a 0) (za b 0)=Z7 a b):=zb3 a b 0 (by omega) HE.out (Or.inr rfl);go_wp2_with (go_at_call 59;refine(zdf _ _ _).mono ?_;rintro e w1 ⟨rfl,rfl⟩)
   go_ret;exact⟨congrArg (fun z=>Ending.returned (Value.int .i64 z)) HR.out,by repeat' (first|exact zgW hbel.out|refine zfe ?_)⟩
end
section
open Go.RowKit Go.Maps Go.Sort Go.Shelf
open Go.Proofs
def sortW_ren:Go.Shelf.Ren:=⟨fun|6=>135|15=>192|14=>191|28=>225|29=>211|20=>217|21=>218|22=>219|23=>220|24=>221|25=>222|26=>223|27=>224|46=>250|47=>251|48=>252|49=>253|50=>254|57=>281|n=>n,fun|22=>110|24=>24|25=>92|3=>3|39=>173|0=>0|53=>83|55=>22|4=>4|46=>267|45=>266|50=>114|5=>5|9=>9|66=>278|70=>282|76=>295|77=>241|n=>n,fun|n=>n⟩
theorem sortW:Go.Proofs.SlLaysF0.n6 prog sortW_ren:={
 mixed:=by kernel_rfl
 f6:=⟨f135.name,by decide,func135.trans (congrArg some (by kernel_rfl))⟩
 f14:=⟨f191.name,by decide,func191.trans (congrArg some (by kernel_rfl))⟩
 f15:=func192.trans (congrArg some (by kernel_rfl))
 f20:=⟨f217.name,by decide,func217.trans (congrArg some (by kernel_rfl))⟩
 f21:=⟨f218.name,by decide,func218.trans (congrArg some (by kernel_rfl))⟩
 f22:=⟨f219.name,by decide,func219.trans (congrArg some (by kernel_rfl))⟩
 f23:=⟨f220.name,by decide,func220.trans (congrArg some (by kernel_rfl))⟩
 f24:=⟨f221.name,by decide,func221.trans (congrArg some (by kernel_rfl))⟩
 f25:=⟨f222.name,by decide,func222.trans (congrArg some (by kernel_rfl))⟩
 f26:=⟨f223.name,by decide,func223.trans (congrArg some (by kernel_rfl))⟩
 f27:=⟨f224.name,by decide,func224.trans (congrArg some (by kernel_rfl))⟩
 f28:=func225.trans (congrArg some (by kernel_rfl))
 f29:=func211.trans (congrArg some (by kernel_rfl))
 f46:=⟨f250.name,by decide,func250.trans (congrArg some (by kernel_rfl))⟩
 f47:=func251.trans (congrArg some (by kernel_rfl))
 f48:=func252.trans (congrArg some (by kernel_rfl))
 f49:=⟨f253.name,by decide,func253.trans (congrArg some (by kernel_rfl))⟩
 f50:=⟨f254.name,by decide,func254.trans (congrArg some (by kernel_rfl))⟩
 f57:=⟨f281.name,by decide,func281.trans (congrArg some (by kernel_rfl))⟩
 t0:=underlying0
 a0:=isAgg0
 z0:=sizeOf0
 v0:=zeroValue0
 t3:=underlying3
 a3:=isAgg3
 z3:=sizeOf3
 v3:=zeroValue3
 t4:=underlying4
 a4:=isAgg4
 z4:=sizeOf4
 v4:=zeroValue4
 t5:=underlying5
 a5:=isAgg5
 z5:=sizeOf5
 v5:=zeroValue5
 t9:=underlying9
 a9:=isAgg9
 z9:=sizeOf9
 v9:=zeroValue9
 t22:=underlying110
 a22:=isAgg110
 z22:=sizeOf110
 v22:=zeroValue110
 t25:=underlying92
 a25:=isAgg92
 z25:=sizeOf92
 v25:=zeroValue92
 t39:=underlying173
 a39:=isAgg173
 z39:=sizeOf173
 v39:=zeroValue173
 t45:=underlying266
 a45:=isAgg266
 z45:=sizeOf266
 v45:=zeroValue266
 t46:=underlying267
 a46:=isAgg267
 z46:=sizeOf267
 v46:=zeroValue267
 t50:=underlying114
 a50:=isAgg114
 z50:=sizeOf114
 v50:=zeroValue114
 t53:=underlying83
 a53:=isAgg83
 z53:=sizeOf83
 v53:=zeroValue83
 t55:=underlying22
 a55:=isAgg22
 z55:=sizeOf22
 v55:=zeroValue22
 t66:=underlying278
 a66:=isAgg278
 z66:=sizeOf278
 v66:=zeroValue278
 t70:=underlying282
 a70:=isAgg282
 z70:=sizeOf282
 v70:=zeroValue282
 t76:=underlying295
 a76:=isAgg295
 z76:=sizeOf295
 v76:=zeroValue295
 t77:=underlying241
 a77:=isAgg241
 z77:=sizeOf241
 v77:=zeroValue241}
def ZF (n:Nat):List Value:=[.int .u64 (za n 0),.int .u64 (za n 1),.int .u64 (za n 2),.int .u64 (za n 3)]
theorem zeN (a b:Nat):ltOf Z7 a b=decide (a%M<b%M):=by
 unfold ltOf Z7;by_cases h1:a%M<b%M
 ·simp[h1]
 ·by_cases h2:b%M<a%M<;>simp[h1,h2]
theorem zqz:SWO (ltOf Z7) where
 irrefl x:=by rw[zeN];simp
 trans x y z h1 h2:=by rw[zeN] at*;simp at*;omega
 ntrans x y z h1 h2:=by rw[zeN] at*;simp at*;omega
theorem za3:∀(l:List Nat) (j:Nat),j<l.length*4->(Zu l)[j]? =some ((ZF l[j/4]!)[j%4]!)
 |[],j,h=>by simp at h
 |n::r,j,h=>by
  show(ZF n++Zu r)[j]? =_;by_cases hj:j<4
  ·rw[List.getElem?_append_left (by simpa[ZF] using hj)];rcases ltq4 hj with rfl|rfl|rfl|rfl<;>rfl
  ·rw[List.getElem?_append_right (by simp[ZF];omega)];have e:(ZF n).length=4:=rfl;rw[e,za3 r (j - 4) (by simp at h;omega)];have e1:j/4=(j - 4)/4+1:=by omega
   have e2:j%4=(j - 4)%4:=by omega
   rw[e1,e2];rfl
theorem flat_w (d:Array Nat):(flatK ZF 4 d).toList=Zu d.toList:=by
 refine List.ext_getElem? fun j=> ?_
 by_cases hj:j<d.size*4
 ·rw[za3 _ j (by simpa using hj),Array.getElem?_toList,Array.getElem?_eq_getElem (by simpa using hj),<-getElem!_pos _ j (by simpa using hj),get_flatK _ _ _ _ hj]
  have e:d.toList[j/4]! =d[j/4]! :=by
   have hl:j/4<d.size:=by omega
   rw[getElem!_pos d.toList _ (by simpa using hl),getElem!_pos d _ hl];rfl
  rw[e]
 ·rw[List.getElem?_eq_none (by simp;omega),List.getElem?_eq_none (by rw[Yx];simp;omega)]
theorem zdY {w:World} {base e size n:Nat} {v:Value} {xs:List Value} (h:w.ownsRow base e size v n xs) {g cap:Nat} (hv:v=.slice (some ⟨g,0,none⟩) n cap):∃cur,w.heap[g]? =some (.cells cur e (0,0))/\base<=g/\n<=cap/\cap<=maxLen/\cur.size=cap*size/\cur.toList.take (n*size)=xs:=by
 rcases h.2 with⟨rfl,_⟩|⟨g',cap',cur,rfl,h2,h3,h4,h5,h6,h7⟩
 ·cases hv
 ·cases hv;exact⟨cur,h3,h2,h4,h5,h6,h7⟩
theorem holds_w {w:World} {base g cap:Nat} {ss:List Nat} (h:w.ownsRow base 24 4 (.slice (some ⟨g,0,none⟩) ss.length cap) ss.length (Zu ss)):HoldsK ZF 4 w g 0 ss.toArray:=by
 obtain⟨cur,h3,h2,h4,h5,h6,h7⟩:=zdY h rfl;intro j hj;have hj:j<ss.length*4:=by simpa using hj
 refine⟨?_,by simp[World.frozen?,h3]⟩;rw[Nat.zero_add,h.cellAt j hj,za3 ss j hj];show _=some ((flatK ZF 4 ss.toArray)[j]!);rw[get_flatK _ _ _ _ (by simpa using hj)];simp
theorem zkY {w:World} {g n:Nat} {os:Array Obj} {cur:Array Value} {e:TypeId} {fr:Nat×Nat} (d:Array Nat) (hb:w.heap[g]? =some (.cells cur e fr)):
  (sortWorldK ZF 4 w g 0 n d os).heap[g]? =some (.cells (putCells id 0 (flatK ZF 4 d) cur) e fr):=by
 have hg:g<w.heap.size:=(Array.getElem?_eq_some_iff.1 hb).1;unfold sortWorldK putRowK;rw[heap_grow_old _ _ (by simpa using hg)];simp[putRow,mapBlock,Sort.ahead,Array.getElem?_modify,hb,onCells]
theorem zoc {w:World} {base g cap n:Nat} {os:Array Obj} {ss:List Nat} (h:w.ownsRow base 24 4 (.slice (some ⟨g,0,none⟩) ss.length cap) ss.length (Zu ss)) (d:Array Nat) (hd:d.size=ss.length):
  (sortWorldK ZF 4 w g 0 n d os).ownsRow base 24 4 (.slice (some ⟨g,0,none⟩) ss.length cap) ss.length (Zu d.toList):=by
 obtain⟨cur,h3,h2,h4,h5,h6,h7⟩:=zdY h rfl;refine⟨by rw[Yx];simp[hd],Or.inr ⟨g,cap,_,rfl,h2,zkY d h3,h4,h5,by simp[putCells,h6], ?_⟩⟩;refine List.ext_getElem? fun j=> ?_
 by_cases hj:j<ss.length*4
 ·have hjc:j<cur.size:=by rw[h6];omega
  rw[List.getElem?_take_of_lt hj,Array.getElem?_toList];rw[<-flat_w,Array.getElem?_toList];have hjd:j<(flatK ZF 4 d).size:=by rw[size_flatK,hd];exact hj
  unfold putCells;rw[Array.getElem?_mapIdx,Array.getElem?_eq_getElem hjc,Array.getElem?_eq_getElem hjd];simp only[Option.map_some];rw[if_pos ⟨Nat.zero_le _,by rw[Nat.zero_add];exact hjd⟩];show some (id (flatK ZF 4 d)[j - 0]!)=_;rw[Nat.sub_zero,getElem!_pos _ j hjd];rfl
 ·rw[List.getElem?_take_eq_none (by omega),List.getElem?_eq_none (by rw[Yx];simp[hd];omega)]
theorem zi5 {w0 w:World} {base g n:Nat} {os:Array Obj} (d:Array Nat) (hb:Below base w0 w) (hg:base<=g) (hs:base<=w.heap.size):Below base w0 (sortWorldK ZF 4 w g 0 n d os):=by
 refine hb.grown (row:=some g) ⟨rfl,rfl,rfl, ?_,fun k hk hne=> ?_⟩ hs (fun k e=>by cases e;exact hg)
 ·unfold sortWorldK putRowK;simp[grow,putRow,mapBlock,Sort.ahead]
 ·unfold sortWorldK putRowK;rw[heap_grow_old _ _ (by simpa using hk)];have:g≠k:=fun e=>hne (by rw[e])
  simp[putRow,mapBlock,Sort.ahead,Array.getElem?_modify,this]
def SortedKeys (f:Nat->Option Value) (ts:List Nat):Prop:=ts.Pairwise (·<·)/\∀m,m∈ts↔m<M/\(f m).isSome=true
theorem zco {f:Nat->Option Value} {ss ts:List Nat} (h:zci f ss) (hp:ts.Perm ss) (hs:ts.Pairwise (fun a b=>ltOf Z7 b a=false)):SortedKeys f ts:=by
 have hm:∀m,m∈ts↔m<M/\(f m).isSome=true:=fun m=>(hp.mem_iff).trans (h.2 m)
 refine⟨?_,hm⟩;have hnd:ts.Nodup:=hp.nodup_iff.2 h.1;refine List.Pairwise.imp_of_mem ?_ (hs.and hnd);intro a b ha hb hab;have h1:=hab.1;rw[zeN,Nat.mod_eq_of_lt ((hm b).1 hb).1,Nat.mod_eq_of_lt ((hm a).1 ha).1] at h1;have h1:¬b<a:=of_decide_eq_false h1;have h2:a≠b:=hab.2;omega
theorem zcp {ts us:List Nat} (h1:ts.Pairwise (·<·)) (h2:us.Pairwise (·<·)) (h:∀m,m∈ts↔m∈us):ts=us:=by
 have hp:ts.Perm us:=(List.perm_ext_iff_of_nodup (h1.imp fun h=>Nat.ne_of_lt h) (h2.imp fun h=>Nat.ne_of_lt h)).2 h;exact hp.eq_of_pairwise (le:=fun a b=>a<b) (fun a b _ _ h3 h4=>absurd h3 (by omega)) h1 h2
theorem SortedKeys.unique {f g:Nat->Option Value} {ts us:List Nat} (h1:SortedKeys f ts) (h2:SortedKeys g us) (h:∀m,m<M->(f m).isSome=(g m).isSome):ts=us:=
 zcp h1.1 h2.1 fun m=>by
  rw[h1.2,h2.2];exact and_congr_right fun hm=>by rw[h m hm]
end
end cin
end Go.Proofs.YtohoajjdoihekaaGreatDoor
