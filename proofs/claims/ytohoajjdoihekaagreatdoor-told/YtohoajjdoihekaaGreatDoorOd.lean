import Derived.Test.YtohoajjdoihekaaGreatDoorNo
import Derived.Conc.RwLib
import Derived.Conc.MuData
import Derived.Conc.MuLone
import Derived.KernelRfl
import Derived.Lib.BufferWrite
import Derived.Lib.UnsafeStr
import Derived.Laws.MakeOwn
set_option linter.unusedVariables false
set_option linter.unusedSimpArgs false
namespace Go.Proofs.YtohoajjdoihekaaGreatDoor
namespace cin
open Go.RowKit Go.Proofs.Tryz Tryz
set_option maxRecDepth 100000
set_option maxHeartbeats 8000000
section
open Go.Maps
abbrev msgC (fr tt val:Nat) (data:ByteArray) (gas:Nat):Array Value:=#[.int .u64 (za fr 0),.int .u64 (za fr 1),.int .u64 (za fr 2),.int .u64 (za fr 3),.int .u64 (za tt 0),.int .u64 (za tt 1),.int .u64 (za tt 2),.int .u64 (za tt 3),.int .u64 (za val 0),.int .u64 (za val 1),.int .u64 (za val 2),.int .u64 (za val 3),.string data,.int .i64 (gas:Int)]
abbrev msgV (fr tt val:Nat) (data:ByteArray) (gas:Nat):Value:=.agg (msgC fr tt val data gas)
abbrev d2 (w:World) (fr tt val:Nat) (data:ByteArray) (gas:Nat):World:=(w.alloc (.cells (msgC fr tt val data gas) 43)).alloc rc0
def MsgAt (x:World) (b fr tt val:Nat) (data:ByteArray) (gas:Nat):Prop:=x.rowIs b 43 14 (fun i=>(msgC fr tt val data gas).getD i undef)
theorem zjh (w:World) (fr tt val:Nat) (data:ByteArray) (gas:Nat):MsgAt (w.alloc (.cells (msgC fr tt val data gas) 43)) w.heap.size fr tt val data gas:=by
 refine World.rowIs_alloc w _ _ _ fun i hi=> ?_
 rw[Array.getD_eq_getD_getElem?,Array.getElem?_eq_getElem hi];rfl
def msgF (tb:Nat) (code:ByteArray) (jd:Value) (fr tt val:Nat) (data:ByteArray) (gas:Nat):Fz:={zcw tb code jd with depth:=1,self:=tt,caller:=fr,value:=val,data:=data,gas:=gas}
theorem zeJ {base tb:Nat} {rg:Nat} {ro:ByteArray} {T T':TS} {V:TV} {k:Nat} (fr tt val gas:Nat) (data:ByteArray) (w:World) (h:Tr base tb T V w) (hg:gas<=100000) (hcs:(T.acc tt).code.size<=1000)
  (hc:∀jd,∃F',Chain k (msgF tb (T.acc tt).code jd fr tt val data gas) (za4 T val fr tt) (some F') T'/\F'.status=0/\F'.gas=rg/\F'.out=ro) (hlo:T'.logs=[]) (hn:V.n+4+2*k<800000000000) (hl:T.ch.length<999999990):
  Calls prog 35 #[.pointer (some ⟨tb,0,none⟩),msgV fr tt val data gas] w fun e w'=>e=.returned (zdo 0 rg ro noL)/\zfM base tb T T' V [] (4+2*k) w w':=by
 go_enter func35,ntmps35;go_wp2;have hB:Below w.heap.size w (d2 w fr tt val data gas):=bal (bal (Below.refl _ w) _) _;have h2:=h.below hB;have hm:MsgAt (d2 w fr tt val data gas) w.heap.size fr tt val data gas:=zf (zjh w fr tt val data gas) (bal (Below.refl _ _) _);obtain⟨f,hf,hf'⟩:=h2.acc.map;obtain⟨sv,e1,e3,e4,e5⟩:=h2.acc.read tt hf';obtain⟨om,rfl⟩:=e3.is;have c0:=h2.row.cell (i:=0) (by decide);rw[show trC V 0=.map (some V.ab) from rfl] at c0;refine zik (tt:=tt) (mb:=w.heap.size) (ab:=V.ab) (bl:=(T.acc tt).bal) (code:=(T.acc tt).code) (o:=om) _ _ h2 hcs h2.row.lt c0 (fun x hx=> ?_) (fun x hx=> ?_) (Below.refl _ _).drew rfl rfl rfl ?_
 ·have hr:=zf hm hx;exact⟨hr.cell (i:=4) (by decide),hr.cell (i:=5) (by decide),hr.cell (i:=6) (by decide),hr.cell (i:=7) (by decide)⟩
 ·have:=(hf.kb (Kb.of_below (S:=[]) hx) (by simp)).look yB yD tt;rw[e1] at this;exact this
 rintro x z9 z10 hx - ⟨-,fb,jd,rfl,hfb,hbx,hft⟩;obtain⟨F',hcj,hst,rfl,rfl⟩:=hc jd;simp only[zL,List.foldl_cons,List.foldl_nil,Act.put];simp only[sx9];have cd:=hft.fr.row.cell (i:=18) (by decide);have fd:=hft.fr.row.frozen 18;rw[show(zcw tb (T.acc tt).code jd).cell noL noL 18=.int .i64 0 from rfl] at cd
 have hd:FT base fb tb {zcw tb (T.acc tt).code jd with depth:=1} T [fb] noL noL V (x.setCell ⟨fb,18,none⟩ (.int .i64 1)):=
  hft.own rfl rfl rfl rfl rfl hft.fr.gal (zfp hft.fr.row (zhF _ noL noL 1)) ((Kb.refl [fb] x).setCell (Or.inl (by simp)) _)
 have hkd:Kb [fb] x (x.setCell ⟨fb,18,none⟩ (.int .i64 1)):=(Kb.refl [fb] x).setCell (Or.inl (by simp)) _;have hfb2:w.heap.size+1<fb:=by simp at hfb;omega
 have hmx:=zf hm hbx;go_wp2;generalize x.setCell ⟨fb,18,none⟩ (.int .i64 1)=x1 at*;have hm1:∀y,Kb [fb] x1 y->MsgAt y w.heap.size fr tt val data gas:=fun y hy=>(hkd.trans hy (fun i hi=>Or.inl hi)).row hmx (by simp;omega)
 refine zhE (mb:=w.heap.size) (fr:=fr) (tt:=tt) (val:=val) _ x1 hd (fun y hy=> ?_) (fun y hy=> ?_) (fun y hy=> ?_) ⟨hd.below (Below.refl _ _).drew,(Kb.refl _ _).drew⟩ rfl rfl rfl ?_
 ·have hr:=hm1 y hy;exact⟨hr.cell (i:=4) (by decide),hr.cell (i:=5) (by decide),hr.cell (i:=6) (by decide),hr.cell (i:=7) (by decide)⟩
 ·have hr:=hm1 y hy;exact⟨hr.cell (i:=0) (by decide),hr.cell (i:=1) (by decide),hr.cell (i:=2) (by decide),hr.cell (i:=3) (by decide)⟩
 ·have hr:=hm1 y hy;exact⟨hr.cell (i:=8) (by decide),hr.cell (i:=9) (by decide),hr.cell (i:=10) (by decide),hr.cell (i:=11) (by decide)⟩
 rintro x3 ⟨hf3,hk3⟩;simp only[zL,List.foldl_cons,List.foldl_nil,Act.put];simp only[sx9];go_wp2;refine zhQ (mb:=w.heap.size) (gs:=gas) (data:=data) _ x3 hf3 hg (fun y hy=> ?_) (fun y hy=> ?_) ⟨hf3.below (Below.refl _ _).drew,(Kb.refl _ _).drew⟩ rfl rfl rfl ?_
 ·exact(hm1 y (hk3.trans hy (fun i hi=>Or.inl hi))).cell (i:=12) (by decide)
 ·exact(hm1 y (hk3.trans hy (fun i hi=>Or.inl hi))).cell (i:=13) (by decide)
 rintro x4 ⟨hf4,hk4⟩;have hkx:Kb [fb] x x4:=(hkd.trans hk3 (fun i hi=>Or.inl hi)).trans hk4 (fun i hi=>Or.inl hi);have hm4:=hm1 x4 (hk3.trans hk4 (fun i hi=>Or.inl hi));have m0:=hm4.cell (i:=0) (by decide);have m1:=hm4.cell (i:=1) (by decide);have m2:=hm4.cell (i:=2) (by decide);have m3:=hm4.cell (i:=3) (by decide);have m4:=hm4.cell (i:=4) (by decide);have m5:=hm4.cell (i:=5) (by decide);have m6:=hm4.cell (i:=6) (by decide);have m7:=hm4.cell (i:=7) (by decide);have m8:=hm4.cell (i:=8) (by decide);have m9:=hm4.cell (i:=9) (by decide);have m10:=hm4.cell (i:=10) (by decide);have m11:=hm4.cell (i:=11) (by decide);simp only[msgC,Array.getD_eq_getD_getElem?,List.getElem?_toArray,List.getElem?_cons_zero,List.getElem?_cons_succ,Option.getD_some] at m0 m1 m2 m3 m4 m5 m6 m7 m8 m9 m10 m11;have HW:=ze (zkk val fr tt x4 hf4 hcj hst hn hl);have HKX:Hid (Below w.heap.size w x/\Kb [fb] x x4/\w.heap.size+1<fb):=⟨hB.trans (hbx.mono hB.size),hkx,hfb2⟩
 have HRA:Hid (ResAt x4 (w.heap.size+1) 0 0 ⟨#[]⟩ noL):=by
  have h0:ResAt (d2 w fr tt val data gas) (w.heap.size+1) 0 0 ⟨#[]⟩ noL:=by unfold ResAt;simp[go_sem]
  exact(h0.below hbx).kb hkx (by simp;omega)
 have HS4:Hid (w.heap.size+1<x4.heap.size):=zaM HRA.out.1.1;have HTL:Hid (∀k,zF tb T V k->k<w.heap.size):=fun k hk=>h.lt hk
 clear hm4 hkx hk4 hf4 hk3 hf3 hm1 hmx hkd hd cd fd hft hbx hfb hx c0 e1 e3 e4 e5 hf hf' hm h2 hB h hc hcj hn hl;simp only[zL,List.foldl_cons,List.foldl_nil,Act.put];simp only[sx9];go_wp2_with fail
 refine HW.out.mono ?_;rintro e w5 ⟨rfl,ht⟩;obtain⟨V5,S5,t1,t2,t3,t4,t5,t6⟩:=ht;clear m0 m1 m2 m3 m4 m5 m6 m7 m8 m9 m10 m11 HW;obtain⟨ad,cp,hlv⟩:=ZN t1.lo.2.1;rw[hlo] at hlv;have t7:=t1.below ((bal (Below.refl _ w5) (.cells #[.int .u8 0,.int .i64 (F'.gas:Int),.string F'.out,.slice none 0 0] 38)).drew);have c3:=t7.row.cell (i:=3) (by decide);rw[show trC V5 3=V5.lv from rfl,hlv] at c3;have HT:=ze (And.intro t1 (And.intro t2 (And.intro t3 (And.intro t4 (And.intro t5 t6)))))
 have hrs5:ResAt w5 (w.heap.size+1) 0 0 ⟨#[]⟩ noL:=by
  refine HRA.out.kb t2 fun hm=> ?_
  rcases t3 _ hm with e|e
  ·have:=HKX.out.2.2;simp at e;omega
  ·have:=HTL.out _ e;omega
 obtain⟨⟨k0,k1,k2,k3⟩,f0,f1,f2,f3⟩:=hrs5.below (bal (Below.refl _ w5) (.cells #[.int .u8 0,.int .i64 (F'.gas:Int),.string F'.out,.slice none 0 0] 38));clear t1 t2 t3 t4 t5 t6 t7 hlv HRA
 have HRP:Hid (ResAt (yJ (w5.alloc (.cells #[.int .u8 0,.int .i64 (F'.gas:Int),.string F'.out,.slice none 0 0] 38)) (w.heap.size+1) 0 F'.gas F'.out noL).drew (w.heap.size+1) 0 F'.gas F'.out noL):=by
  show ResAt _ _ _ _ _ _;exact((hrs5.below (bal (Below.refl _ w5) _)).put (st:=0) (gs:=F'.gas) (out:=F'.out) (lv:=noL)).below (Below.refl _ _).drew
 have HTP:Hid (zfM base tb T T' V [] (4+2*k) w (yJ (w5.alloc (.cells #[.int .u8 0,.int .i64 (F'.gas:Int),.string F'.out,.slice none 0 0] 38)) (w.heap.size+1) 0 F'.gas F'.out noL).drew):=by
  obtain⟨t1,t2,t3,t4,t5,t6⟩:=HT.out;obtain⟨hbx,hkx,hfb9⟩:=HKX.out
  have hs4:w.heap.size+1<x4.heap.size:=by
   exact HS4.out
  have hnb:¬zF tb T' V5 (w.heap.size+1):=fun hf=>by
   rcases t4 _ hf with e|e
   ·have:=HTL.out _ e;omega
   ·omega
  refine⟨V5,S5.filter (fun k=>decide (k<w.heap.size)),((t1.below (bal (Below.refl _ _) _)).kb (Yh (Kb.refl [w.heap.size+1] _) (Or.inl (by simp))) (fun k hk hf=>hnb (by simp at hk;rw[<-hk];exact hf)) (by simp)).below (Below.refl _ _).drew, ?_,fun i hi=> ?_,fun i hi=> ?_,t5,t6⟩
  ·refine(Yh (Kb.alloc ?_ _) (Or.inr (by omega))).drew;refine((Kb.of_below hbx).trans hkx (fun i hi=>Or.inr (by simp at hi;omega))).trans t2 (fun i hi=> ?_);by_cases hl:i<w.heap.size
   ·exact Or.inl (List.mem_filter.2 ⟨hi,by simpa using hl⟩)
   ·exact Or.inr (by omega)
  ·obtain⟨e1,e2⟩:=List.mem_filter.1 hi;have e2:i<w.heap.size:=by simpa using e2
   rcases t3 i e1 with e|e
   ·simp at e;omega
   ·exact Or.inr e
  ·rcases t4 i hi with e|e
   ·exact Or.inl e
   ·exact Or.inr (by omega)
 clear HT hrs5;cases ad
 all_goals (
  go_wp2
  go_region
  go_wp2;change bodyPost prog f35 _ _ _ (yJ (w5.alloc (.cells #[.int .u8 0,.int .i64 (F'.gas:Int),.string F'.out,.slice none 0 0] 38)) (w.heap.size+1) 0 F'.gas F'.out noL).drew;generalize(yJ (w5.alloc (.cells #[.int .u8 0,.int .i64 (F'.gas:Int),.string F'.out,.slice none 0 0] 38)) (w.heap.size+1) 0 F'.gas F'.out noL).drew=z at*;obtain⟨⟨y0,y1,y2,y3⟩,_⟩:=HRP.out;refine bodyPost_ret (v:=zdo 0 F'.gas F'.out noL) (by simp[results,results35,go_sem,y0,y1,y2,y3]) rfl ⟨rfl,HTP.out⟩)
end
section
open Go.Maps
abbrev muLink:Go.Conc.Locks.MuLink:={lock:=31,unlock:=32,ilock:=57,iunlock:=58,lockSlow:=87,unlockSlow:=90,disable:=83,enable:=85,acquire:=86,relMerge:=88,cas32:=84,add32:=89,tMutex:=87,tIMutex:=85,tPMutex:=126,tPIMutex:=176,tPI32:=178,tUP:=180,tNoCopy:=82,tU32:=83}
theorem muLib:Go.Conc.Locks.MuLib prog muLink:=
 ⟨func31,func32,func57,func58,func83,func85,func86,func88,func84,func89,underlying85,runUnderlying85,sizeOf85,isAgg85,zeroValue85,underlying87,runUnderlying87,sizeOf87,isAgg87,zeroValue87,underlying126,runUnderlying126,sizeOf126,isAgg126,zeroValue126,underlying176,runUnderlying176,sizeOf176,isAgg176,zeroValue176,underlying178,runUnderlying178,sizeOf178,isAgg178,zeroValue178,underlying180,runUnderlying180,sizeOf180,isAgg180,zeroValue180,underlying82,runUnderlying82,sizeOf82,isAgg82,zeroValue82,underlying21,runUnderlying21,sizeOf21,isAgg21,zeroValue21,(by kernel_rfl)⟩
end
section
open Go.Maps
def T0 (A:Nat->Acc):TS:={acc:=A,pas:=fun _ _=>0,ch:=[],logs:=[]}
def V0 (ab pb n:Nat) (sb:Nat->Value):TV:={ab:=ab,pb:=pb,n:=n,sb:=sb,cv:=.slice none 0 0,lv:=.slice none 0 0,tv:=[]}
abbrev nt2 (w:World) (ab:Nat):World:=(w.alloc (.map #[] 0)).alloc (.cells #[.map (some ab),.map (some w.heap.size),.slice none 0 0,.slice none 0 0] 131)
theorem zfU {ab n:Nat} {A:Nat->Acc} {sb:Nat->Value} {w:World} (h:Accs ab n A sb w) (hz:Zr w):Tr w.heap.size (w.heap.size+1) (T0 A) (V0 ab w.heap.size n sb) (nt2 w ab):=by
 have hB:Below w.heap.size w (nt2 w ab):=bal (bal (Below.refl _ w) _) _;have hs:(w.alloc (.map #[] 0)).heap.size=w.heap.size+1:=by simp
 refine⟨?_,h.kb (Kb.of_below (S:=[]) hB) (by simp), ?_,World.ownsRow_nil _ _ _ _,⟨rfl,World.ownsRow_nil _ _ _ _,fun i l t hl=>by simp[T0] at hl⟩,hz.below hB,hB.size,hz.2,fun hf=> ?_⟩
 ·have hr:=World.rowIs_alloc (w.alloc (.map #[] 0)) #[.map (some ab),.map (some w.heap.size),.slice none 0 0,.slice none 0 0] 131 (trC (V0 ab w.heap.size n sb)) (fun i hi=>by
   have hi:i<4:=hi;rcases k4 hi with rfl|rfl|rfl|rfl<;>rfl)
  rw[hs] at hr;exact hr
 ·refine PM.mono (n:=0) ⟨fun _=>none, ?_,fun a k=>rfl⟩ (Nat.zero_le _);refine(MapV.made prog 217 w).block ?_;have:=(bal (Below.refl _ (w.alloc (.map #[] 0))) (.cells #[.map (some ab),.map (some w.heap.size),.slice none 0 0,.slice none 0 0] 131)).block w.heap.size (by simp);exact this
 ·have:=h.lt hf;exact absurd this (by show¬w.heap.size<_;omega)
theorem zeW {ab n:Nat} {A:Nat->Acc} {sb:Nat->Value} (w:World) (h:Accs ab n A sb w) (hz:Zr w):
  Calls prog 34 #[.map (some ab)] w fun e w'=>e=.returned (.pointer (some ⟨w.heap.size+1,0,none⟩))/\Below w.heap.size w w'/\Tr w.heap.size (w.heap.size+1) (T0 A) (V0 ab w.heap.size n sb) w':=by
 have HT:=ze (zfU h hz);have hmm:=@run_makeMap prog;clear h hz;go_enter func34,ntmps34;go_wp2;refine bodyPost_ret (v:=.pointer (some ⟨w.heap.size+1,0,none⟩)) (by simp[results,results34,go_sem]) rfl ⟨rfl,bal (bal (Below.refl _ w) _) _,HT.out⟩
theorem zd3 (fr tt val gas:Nat) (data:ByteArray) (hd:data.size<=500) (hg:gas<=100000) (w:World):
  Calls prog 30 #[msgV fr tt val data gas] w fun e w'=>e=.returned (.bool true)/\Below w.heap.size w w':=by
 have d1:decide ((data.size:Int)<=500)=true:=decide_eq_true (by omega);have d2:decide ((0:Int)<=(gas:Int))=true:=decide_eq_true (by omega);have d3:decide ((gas:Int)<=100000)=true:=decide_eq_true (by omega);go_enter func30,ntmps30;go_wp2;refine bodyPost_ret (v:=.bool true) (by simp[results,results30,go_sem]) rfl ⟨rfl,bal (Below.refl _ w) _⟩
end
section
open Go.Maps
theorem zge:Own 33:=fun _ _=>by kernel_rfl
theorem zeM:Own 34:=fun _ _=>by kernel_rfl
theorem zf3:Own 35:=fun _ _=>by kernel_rfl
theorem MsgAt.cells {x:World} {b fr tt val gs:Nat} {data:ByteArray} (h:MsgAt x b fr tt val data gs):x.cell? ⟨b,0,none⟩=some (.int .u64 (za fr 0))/\x.cell? ⟨b,1,none⟩=some (.int .u64 (za fr 1))/\x.cell? ⟨b,2,none⟩=some (.int .u64 (za fr 2))/\x.cell? ⟨b,3,none⟩=some (.int .u64 (za fr 3))/\x.cell? ⟨b,4,none⟩=some (.int .u64 (za tt 0))/\x.cell? ⟨b,5,none⟩=some (.int .u64 (za tt 1))/\x.cell? ⟨b,6,none⟩=some (.int .u64 (za tt 2))/\x.cell? ⟨b,7,none⟩=some (.int .u64 (za tt 3))/\x.cell? ⟨b,8,none⟩=some (.int .u64 (za val 0))/\x.cell? ⟨b,9,none⟩=some (.int .u64 (za val 1))/\x.cell? ⟨b,10,none⟩=some (.int .u64 (za val 2))/\x.cell? ⟨b,11,none⟩=some (.int .u64 (za val 3))/\x.cell? ⟨b,12,none⟩=some (.string data)/\x.cell? ⟨b,13,none⟩=some (.int .i64 (gs:Int)):=by
 refine⟨h.cell (i:=0) (by decide),h.cell (i:=1) (by decide),h.cell (i:=2) (by decide),h.cell (i:=3) (by decide),h.cell (i:=4) (by decide),h.cell (i:=5) (by decide),h.cell (i:=6) (by decide),h.cell (i:=7) (by decide),h.cell (i:=8) (by decide),h.cell (i:=9) (by decide),h.cell (i:=10) (by decide),h.cell (i:=11) (by decide),h.cell (i:=12) (by decide),h.cell (i:=13) (by decide)⟩
def TrK (A:Nat->Acc) (ab n:Nat) (sb:Nat->Value) (w:World):Kp:=fun p v x=>∃tb pb base,v=.pointer (some ⟨tb,0,none⟩)/\(p=1->Tr base tb (T0 A) (V0 ab pb n sb) x/\tb=base+1/\pb=base/\w.heap.size<=base)
def PhZ (R:World->Prop) (b st rg:Nat) (out:ByteArray) (w:World):Nat->World->Prop
 |0,x=>Below w.heap.size w x
 |1,x=>Below w.heap.size w x
 |2,x=>R x
 |_,x=>∃y,R y/\x=yJ y b st rg out noL
theorem ziJ {R:World->Prop} {b st rg:Nat} {out:ByteArray} {w x:World} {k:Nat} (h:PhZ R b st rg out w k x) (hk:k<=1):Below w.heap.size w x:=by
 match k,hk,h with
 |0,_,h=>exact h
 |1,_,h=>exact h
theorem send_r5 {gb mb ab bl fr tt val gs:Nat} {o:Option Nat} {code data:ByteArray} {Q:Exit->Act->World->Prop} (a:Act) (w:World) (hlt:gb<w.heap.size) (hab:w.cell? ⟨gb,2,none⟩=some (.map (some ab))) (hm:MsgAt w mb fr tt val data gs) (hlook:∀x,Below w.heap.size w x->(Instr.lookup 89 (.map (some ab)) (wv fr) false).run prog x=.ok (Zx bl code (.map o)) x) (h0:Below w.heap.size w w.drew) (hsz:([17,18,19,20,21,22,23,24,25,26,27,28]:List Nat).all (fun d=>decide (d<a.tmps.size))=true) (c0:a.tmps.getD 0 undef=.pointer (some ⟨gb,0,none⟩)) (c3:a.tmps.getD 3 undef=.pointer (some ⟨mb,0,none⟩))
  (hok:∀(x:World),(PhO (fun x=>Below w.heap.size w x) w) 1 x->Q .normal (zL a [(17,.pointer (some ⟨gb,0,none⟩)),(18,.pointer (some ⟨gb,0,none⟩)),(19,.pointer (some ⟨gb,2,none⟩)),(20,.map (some ab)),(21,.pointer (some ⟨mb,0,none⟩)),(22,wv fr),(23,Zx bl code (.map o)),(24,wv bl),(25,.pointer (some ⟨mb,8,none⟩)),(26,wv val),(27,.int .i64 (zaT bl val)),(28,.bool (decide (zaT bl val<0)))]) x):
  (Code.region 5 #[⟨some 17,.move (.tmp 0),29,"host.go:31",#[],none⟩,⟨some 18,.nilCheck (.tmp 17),0,"host.go:31",#[⟨0,.data⟩],none⟩,⟨some 19,.fieldAddr 91 (.tmp 18) 1,0,"host.go:31",#[⟨1,.data⟩],none⟩,⟨some 20,.load 89 (.tmp 19),89,"host.go:31",#[⟨2,.data⟩],none⟩,⟨some 21,.fieldAddr 43 (.tmp 3) 0,0,"host.go:31",#[],none⟩,⟨some 22,.load 24 (.tmp 21),24,"host.go:31",#[⟨4,.data⟩],none⟩,⟨some 23,.lookup 89 (.tmp 20) (.tmp 22) false,95,"host.go:31",#[⟨3,.data⟩,⟨5,.data⟩],none⟩,⟨some 24,.field 95 (.tmp 23) 0,24,"host.go:31",#[⟨6,.data⟩],none⟩,⟨some 25,.fieldAddr 43 (.tmp 3) 2,0,"host.go:31",#[],none⟩,⟨some 26,.load 24 (.tmp 25),24,"host.go:31",#[⟨8,.data⟩],none⟩,⟨some 27,.call ⟨.value (.func 33),#[.tmp 24,.tmp 26],#[24,24]⟩,3,"host.go:31",#[⟨7,.data⟩,⟨9,.data⟩],none⟩,⟨some 28,.binOp .lss 3 (.tmp 27) (.const (.int .i64 0)) 3,4,"host.go:31",#[⟨10,.data⟩],none⟩] true).wp prog Q a w:=by
 refine zX (PhO (fun x=>Below w.heap.size w x) w) (fun _ _ _=>True) [(0,.pointer (some ⟨gb,0,none⟩)),(3,.pointer (some ⟨mb,0,none⟩))] [(some 17,.v (.pointer (some ⟨gb,0,none⟩))),(some 18,.v (.pointer (some ⟨gb,0,none⟩))),(some 19,.v (.pointer (some ⟨gb,2,none⟩))),(some 20,.v (.map (some ab))),(some 21,.v (.pointer (some ⟨mb,0,none⟩))),(some 22,.v (wv fr)),(some 23,.v (Zx bl code (.map o))),(some 24,.v (wv bl)),(some 25,.v (.pointer (some ⟨mb,8,none⟩))),(some 26,.v (wv val)),(some 27,.v (.int .i64 (zaT bl val))),(some 28,.v (.bool (decide (zaT bl val<0))))] [10] [3,5,6,7,9] (by kernel_rfl) hsz (zW c0 (zW c3 rfl)) (by kernel_rfl) h0
  (zk _ _ _ rfl rfl (fun s x hph hdf hv hl K hK=>by
   have hph:Below w.heap.size w x:=hph;refine zN zge (ev2 (hv 24 _ rfl) (hv 26 _ rfl)) (YO bl val x) ?_;rintro e y ⟨rfl,hB⟩;exact⟨_,rfl,hK _ y (hph.trans (hB.mono hph.size)) trivial nn1 rfl⟩
  )
  True.intro)
  (zk _ _ _ rfl rfl (fun k s x hk hlo hhi hph hdf hv hl K hK=>by
   have k0:x.cell? ⟨gb,2,none⟩=some (.map (some ab)):=((Z3 hph (by have:=hhi 0 10 rfl (by kernel_rfl);omega)).cell hlt).trans hab;exact Zh (fun w=>by kernel_rfl) (hv 19 _ rfl) k0 (hK _ x rfl nn1 rfl)
  )
  (zk _ _ _ rfl rfl (fun k s x hk hlo hhi hph hdf hv hl K hK=>by
   obtain⟨q0,q1,q2,q3,q4,q5,q6,q7,q8,q9,q10,q11,q12,q13⟩:=(show MsgAt x mb fr tt val data gs from zf hm (Z3 hph (by have:=hhi 0 10 rfl (by kernel_rfl);omega))).cells;exact Zb (n:=fr) (hv 21 _ rfl) q0 q1 q2 q3 (hK _ x rfl nn1 rfl)
  )
  (zk _ _ _ rfl rfl (fun k s x hk hlo hhi hph hdf hv hl K hK=>by
   have hk:=hlook x (Z3 hph (by have:=hhi 0 10 rfl (by kernel_rfl);omega));have e20:=hv 20 _ rfl;have f20:s.eval (.tmp 20)=_:=e20;have e22:=hv 22 _ rfl;have f22:s.eval (.tmp 22)=_:=e22;clear hv hl hlo hhi hdf;go_simp;exact(hK _ x rfl nn1 rfl)
  )
  (zk _ _ _ rfl rfl (fun k s x hk hlo hhi hph hdf hv hl K hK=>by
   have hk:=zk4 bl code o x;have e23:=hv 23 _ rfl;have f23:s.eval (.tmp 23)=_:=e23;clear hv hl hlo hhi hdf;go_simp;exact(hK _ x rfl nn1 rfl)
  )
  (zk _ _ _ rfl rfl (fun k s x hk hlo hhi hph hdf hv hl K hK=>by
   obtain⟨q0,q1,q2,q3,q4,q5,q6,q7,q8,q9,q10,q11,q12,q13⟩:=(show MsgAt x mb fr tt val data gs from zf hm (Z3 hph (by have:=hhi 0 10 rfl (by kernel_rfl);omega))).cells;exact Zb (n:=val) (hv 25 _ rfl) q8 q9 q10 q11 (hK _ x rfl nn1 rfl)
  )
  True.intro)))))
  (fun _ _ _ h=>(yH rfl h).elim) ?_
 intro g x hph hT;exact hok x hph
theorem send_r7 {gb mb ab n fr tt val gs b st rg st0 rg0:Nat} {A:Nat->Acc} {sb:Nat->Value} {data out out0:ByteArray} {R:World->Prop} {Q:Exit->Act->World->Prop} (a:Act) (w:World) (hlt:gb<w.heap.size) (hab:w.cell? ⟨gb,2,none⟩=some (.map (some ab))) (hm:MsgAt w mb fr tt val data gs) (hacc:Accs ab n A sb w) (hz:Zr w) (hdel:∀tb pb base x,Below w.heap.size w x->Tr base tb (T0 A) (V0 ab pb n sb) x->tb=base+1->pb=base->w.heap.size<=base->Calls prog 35 #[.pointer (some ⟨tb,0,none⟩),.agg #[.int .u64 (za fr 0),.int .u64 (za fr 1),.int .u64 (za fr 2),.int .u64 (za fr 3),.int .u64 (za tt 0),.int .u64 (za tt 1),.int .u64 (za tt 2),.int .u64 (za tt 3),.int .u64 (za val 0),.int .u64 (za val 1),.int .u64 (za val 2),.int .u64 (za val 3),.string data,.int .i64 (gs:Int)]] x fun e w'=>e=.returned (.agg #[.int .u8 (st:Int),.int .i64 (rg:Int),.string out,.slice none 0 0])/\R w') (hres:∀x,R x->ResAt x b st0 rg0 out0 noL) (h0:Below w.heap.size w w.drew) (hsz:([30,31,32,33,34,35,36,5]:List Nat).all (fun d=>decide (d<a.tmps.size))=true) (c0:a.tmps.getD 0 undef=.pointer (some ⟨gb,0,none⟩)) (c3:a.tmps.getD 3 undef=.pointer (some ⟨mb,0,none⟩)) (c4:a.tmps.getD 4 undef=.pointer (some ⟨b,0,none⟩))
  (hok:∀(x:World) (z4:Value),(PhZ R b st rg out w) 3 x->(TrK A ab n sb w) 3 z4 x->Q .normal (zL a [(30,.pointer (some ⟨gb,0,none⟩)),(31,.pointer (some ⟨gb,0,none⟩)),(32,.pointer (some ⟨gb,2,none⟩)),(33,.map (some ab)),(34,z4),(35,.agg #[.int .u64 (za fr 0),.int .u64 (za fr 1),.int .u64 (za fr 2),.int .u64 (za fr 3),.int .u64 (za tt 0),.int .u64 (za tt 1),.int .u64 (za tt 2),.int .u64 (za tt 3),.int .u64 (za val 0),.int .u64 (za val 1),.int .u64 (za val 2),.int .u64 (za val 3),.string data,.int .i64 (gs:Int)]),(36,.agg #[.int .u8 (st:Int),.int .i64 (rg:Int),.string out,.slice none 0 0]),(5,.int .i64 0)]) x):
  (Code.region 7 #[⟨some 30,.move (.tmp 0),29,"host.go:34",#[],none⟩,⟨some 31,.nilCheck (.tmp 30),0,"host.go:34",#[⟨0,.data⟩],none⟩,⟨some 32,.fieldAddr 91 (.tmp 31) 1,0,"host.go:34",#[⟨1,.data⟩],none⟩,⟨some 33,.load 89 (.tmp 32),89,"host.go:34",#[⟨2,.data⟩],none⟩,⟨some 34,.call ⟨.value (.func 34),#[.tmp 33],#[89]⟩,96,"host.go:34",#[⟨3,.data⟩],none⟩,⟨some 35,.load 43 (.tmp 3),43,"host.go:34",#[],none⟩,⟨some 36,.call ⟨.value (.func 35),#[.tmp 34,.tmp 35],#[96,43]⟩,38,"host.go:34",#[⟨4,.data⟩,⟨5,.data⟩,⟨4,.chain⟩],none⟩,⟨none,.store 38 (.tmp 4) (.tmp 36),0,"host.go:34",#[⟨6,.data⟩,⟨6,.chain⟩,⟨0,.phase⟩,⟨1,.phase⟩,⟨2,.phase⟩,⟨3,.phase⟩,⟨4,.phase⟩,⟨5,.phase⟩,⟨6,.phase⟩],none⟩,⟨some 5,.assign (.const (.int .i64 0)),39,"host.go:34",#[⟨7,.chain⟩,⟨0,.phase⟩,⟨1,.phase⟩,⟨2,.phase⟩,⟨3,.phase⟩,⟨4,.phase⟩,⟨5,.phase⟩,⟨6,.phase⟩,⟨7,.phase⟩],none⟩] true).wp prog Q a w:=by
 refine zX (PhZ R b st rg out w) (fun _ _ _=>True) [(0,.pointer (some ⟨gb,0,none⟩)),(3,.pointer (some ⟨mb,0,none⟩)),(4,.pointer (some ⟨b,0,none⟩))] [(some 30,.v (.pointer (some ⟨gb,0,none⟩))),(some 31,.v (.pointer (some ⟨gb,0,none⟩))),(some 32,.v (.pointer (some ⟨gb,2,none⟩))),(some 33,.v (.map (some ab))),(some 34,.l (TrK A ab n sb w)),(some 35,.v (.agg #[.int .u64 (za fr 0),.int .u64 (za fr 1),.int .u64 (za fr 2),.int .u64 (za fr 3),.int .u64 (za tt 0),.int .u64 (za tt 1),.int .u64 (za tt 2),.int .u64 (za tt 3),.int .u64 (za val 0),.int .u64 (za val 1),.int .u64 (za val 2),.int .u64 (za val 3),.string data,.int .i64 (gs:Int)])),(some 36,.v (.agg #[.int .u8 (st:Int),.int .i64 (rg:Int),.string out,.slice none 0 0])),(none,.v undef),(some 5,.v (.int .i64 0))] [4,6,7] [3,5] (by kernel_rfl) hsz (zW c0 (zW c3 (zW c4 rfl))) (by kernel_rfl) h0
  (zk _ _ _ rfl rfl (fun s x hph hdf hv hl K hK=>by
   have hph:Below w.heap.size w x:=hph;refine zN zeM (ev1 (hv 33 _ rfl)) (zeW x (hacc.kb (Kb.of_below (S:=[]) hph) (by simp)) (hz.below hph)) ?_;rintro e y ⟨rfl,hB,hT⟩;exact⟨_,rfl,hK _ y (hph.trans (hB.mono hph.size)) trivial nn1 ⟨_,_,_,rfl,fun _=>⟨hT,rfl,rfl,hph.size⟩⟩⟩
  )
  (zk _ _ _ rfl rfl (fun s x hph hdf hv hl K hK=>by
   have hph:Below w.heap.size w x:=hph;have h34:=(hl 34 _ rfl);obtain⟨tb,pb,base,e34,hT⟩:=h34;obtain⟨hT,htb,hpb,hwb⟩:=hT rfl;refine zN zf3 (ev2 e34 (hv 35 _ rfl)) (hdel tb pb base x hph hT htb hpb hwb) ?_;rintro e y ⟨rfl,hR⟩;exact⟨_,rfl,hK _ y hR trivial nn1 rfl⟩
  )
  (zk _ _ _ rfl rfl (fun s x hph hdf hv hl K hK=>by
   exact zdB (st:=st) (gs:=rg) (out:=out) (hv 4 _ rfl) (hv 36 _ rfl) (hres x hph) (hK undef _ ⟨x,hph,rfl⟩ trivial (fun _=>rfl) rfl)
  )
  True.intro)))
  (zk _ _ _ rfl rfl (fun k s x hk hlo hhi hph hdf hv hl K hK=>by
   have k0:x.cell? ⟨gb,2,none⟩=some (.map (some ab)):=((ziJ hph (by have:=hhi 0 4 rfl (by kernel_rfl);omega)).cell hlt).trans hab;exact Zh (fun w=>by kernel_rfl) (hv 32 _ rfl) k0 (hK _ x rfl nn1 rfl)
  )
  (zk _ _ _ rfl rfl (fun k s x hk hlo hhi hph hdf hv hl K hK=>by
   obtain⟨q0,q1,q2,q3,q4,q5,q6,q7,q8,q9,q10,q11,q12,q13⟩:=(show MsgAt x mb fr tt val data gs from zf hm (ziJ hph (by have:=hhi 1 6 rfl (by kernel_rfl);omega))).cells;have e3:=hv 3 _ rfl;have f3:s.eval (.tmp 3)=_:=e3;clear hv hl hlo hhi hdf;go_simp;exact(hK _ x rfl nn1 rfl)
  )
  True.intro))
  (zcp (And.intro (fun p v x x' hne hpl hph hrel ht=>by
   obtain⟨tb,pb,base,e,h1⟩:=ht;have hp0:p≠0:=fun e2=>hne (by rw[e2];rfl)
   exact⟨tb,pb,base,e,fun h2=>absurd h2 (by omega)⟩)
  trivial)) ?_
 intro g x hph hT;exact hok x (g 4) hph (hT 4 _ _ rfl)
end
section
open Go.RowKit Go.Maps Go.MuLone
def hostC (ab i:Nat):Value:=if i=0 then .int .i32 0 else if i=1 then .int .u32 0 else .map (some ab)
structure HostAt (gb ab n:Nat) (A:Nat->Acc) (sb:Nat->Value) (w:World):Prop where
 row:w.rowIs gb 91 3 (hostC ab)
 acc:Accs ab n A sb w
 zr:Zr w
abbrev s2 (w:World) (fr tt val:Nat) (data:ByteArray) (gas:Nat):World:=(w.alloc (.cells (msgC fr tt val data gas) 43)).alloc rc0
def SentR (ab n m gb b:Nat) (A:Nat->Acc) (sb:Nat->Value) (T':TS) (w y:World):Prop:=∃(V':TV) (S2:List Nat),Accs ab V'.n T'.acc V'.sb y/\V'.n<=n+m/\Kb S2 w y/\(∀k∈S2,Za ab A sb k)/\Zr y/\(∀k,Za ab T'.acc V'.sb k->Za ab A sb k\/w.heap.size<=k)
theorem zlr {base tb pb ab n m gb b:Nat} {A:Nat->Acc} {sb:Nat->Value} {T':TS} {w x y:World} (hx:Below w.heap.size w x) (ha:Accs ab n A sb w) (htb:tb=base+1) (hpb:pb=base) (hwb:w.heap.size<=base) (h:zfM base tb (T0 A) T' (V0 ab pb n sb) [] m x y):SentR ab n m gb b A sb T' w y:=by
 obtain⟨V',S2,h1,h2,h3,h4,h5,h6⟩:=h;have hab:V'.ab=ab:=h6;have hacc:=h1.acc;rw[hab] at hacc
 have hT0:∀k,zF tb (T0 A) (V0 ab pb n sb) k->Za ab A sb k\/w.heap.size<=k:=fun k hk=>by
  rcases hk with e|e|e|e|e|⟨t,ht,e⟩
  ·exact Or.inr (by omega)
  ·exact Or.inl e
  ·exact Or.inr (by have:(V0 ab pb n sb).pb=pb:=rfl;omega)
  ·cases e
  ·cases e
  ·cases ht
 refine⟨V',S2.filter (fun k=>decide (k<w.heap.size)),hacc,h5,(Kb.of_below hx).trans h2 (fun i hi=> ?_),fun i hi=> ?_,h1.zr,fun k hk=> ?_⟩
 ·by_cases hl:i<w.heap.size
  ·exact Or.inl (List.mem_filter.2 ⟨hi,by simpa using hl⟩)
  ·exact Or.inr (by omega)
 ·obtain⟨e1,e2⟩:=List.mem_filter.1 hi;have e2:i<w.heap.size:=by simpa using e2
  rcases h3 i e1 with e|e
  ·cases e
  ·rcases hT0 i e with e|e
   ·exact e
   ·omega
 ·rcases h4 k (Or.inr (Or.inl (by rw[hab];exact hk))) with e|e
  ·exact hT0 k e
  ·exact Or.inr (Nat.le_trans hx.size e)
theorem zjR {gb ab n:Nat} {A:Nat->Acc} {sb:Nat->Value} {rg:Nat} {ro:ByteArray} {T':TS} {k:Nat} (fr tt val gas:Nat) (data:ByteArray) (w:World) (h:HostAt gb ab n A sb w) (hd:data.size<=500) (hg:gas<=100000) (hcmp:decide (zaT (A fr).bal val<0)=false) (hcs:(A tt).code.size<=1000)
  (hc:∀tb jd,∃F',Chain k (msgF tb (A tt).code jd fr tt val data gas) (za4 (T0 A) val fr tt) (some F') T'/\F'.status=0/\F'.gas=rg/\F'.out=ro) (hlo:T'.logs=[]) (hn:n+4+2*k<800000000000):
  Calls prog 13 #[.pointer (some ⟨gb,0,none⟩),msgV fr tt val data gas] w fun e w'=>e=.returned (.tuple #[zdo 0 rg ro noL,.int .i64 0])/\(∃n' sb',HostAt gb ab n' T'.acc sb' w'/\n'<=n+(4+2*k))/\∃S2,Kb (gb::S2) w w'/\∀k∈S2,Za ab A sb k:=by
 have hB:Below w.heap.size w (s2 w fr tt val data gas):=bal (bal (Below.refl _ w) _) _;have HM:=ze (zd3 fr tt val gas data hd hg (s2 w fr tt val data gas));have HH:=ze h;have HB:=ze hB;have HC:=ze hc;clear h hB hc
 go_enter_defers func13,ntmps13
 go_wp2_with fail
 refine HM.out.mono ?_;rintro e w1 ⟨rfl,hb1⟩;have hB1:Below w.heap.size w w1:=HB.out.trans (hb1.mono HB.out.size);have hr1:=zf HH.out.row hB1;have l0:=hr1.cell (i:=0) (by decide);have lz:=hr1.frozen 0;rw[show hostC ab 0=.int .i32 0 from rfl] at l0;have HLK:=ze (lock_free muLib ⟨gb,0,none⟩ w1 l0 lz);have hm1:MsgAt w1 w.heap.size fr tt val data gas:=zf (zf (zjh w fr tt val data gas) (bal (Below.refl _ _) _)) hb1
 have hrs1:ResAt w1 (w.heap.size+1) 0 0 ⟨#[]⟩ noL:=by
  have h0:ResAt (s2 w fr tt val data gas) (w.heap.size+1) 0 0 ⟨#[]⟩ noL:=by unfold ResAt;simp[go_sem]
  exact h0.below hb1
 have HX:=ze (And.intro hB1 (And.intro hm1 hrs1));clear hb1 hB1 hr1 l0 lz hm1 hrs1 HM;go_wp2_with fail
 refine HLK.out.mono ?_;rintro e w2 ⟨rfl,rfl⟩;have HH1:=zf HH.out.row HX.out.1;have hgl:gb<w1.heap.size:=HH1.lt;have hgw:gb<w.heap.size:=HH.out.row.lt;have hk2:Kb [gb] w1 (w1.setCell ⟨gb,0,none⟩ (.int .i32 1)):=(Kb.refl [gb] w1).setCell (Or.inl (by simp)) _;have hr2:(w1.setCell ⟨gb,0,none⟩ (.int .i32 1)).rowIs gb 91 3 (fun i=>if i=0 then .int .i32 1 else hostC ab i):=HH1.set 0 _;have hacc1:=HH.out.acc.kb (Kb.of_below (S:=[]) HX.out.1) (by simp);have hacc2:=hacc1.kb hk2 (fun k hk hf=>ZC HH1 (hacc1.isMap hf) (List.mem_singleton.1 hk).symm);have hz1:=HH.out.zr.below HX.out.1
 have hz2:Zr (w1.setCell ⟨gb,0,none⟩ (.int .i32 1)):=hz1.kb hk2 (fun hm=>by
  have e:(0:Nat)=gb:=by simpa using hm
  have h1:=HH1.cell (i:=0) (by decide);rw[<-e,hz1.1.1] at h1;cases h1)
 have hm2:MsgAt (w1.setCell ⟨gb,0,none⟩ (.int .i32 1)) w.heap.size fr tt val data gas:=hk2.row HX.out.2.1 (by simp;omega);have hs2:=HX.out.2.2.kb hk2 (by simp;omega);go_wp2;generalize w1.setCell ⟨gb,0,none⟩ (.int .i32 1)=x2 at*;obtain⟨f,hf,hf'⟩:=hacc2.map;obtain⟨sv,e1,e3,e4,e5⟩:=hacc2.read fr hf';obtain⟨om,rfl⟩:=e3.is;have c2:=hr2.cell (i:=2) (by decide);refine send_r5 (mb:=w.heap.size) (ab:=ab) (bl:=(A fr).bal) (code:=(A fr).code) (o:=om) (val:=val) _ x2 hr2.lt c2 hm2 (fun x hx=> ?_) (Below.refl _ _).drew rfl rfl rfl ?_
 ·have:=(hf.kb (Kb.of_below (S:=[]) hx) (by simp)).look yB yD fr;rw[e1] at this;exact this
 intro x3 hx3;have hx3:Below x2.heap.size x2 x3:=hx3;simp only[zL,List.foldl_cons,List.foldl_nil,Act.put];simp only[sx9];rw[hcmp];have hr3:=zf hr2 hx3;have hacc3:=hacc2.kb (Kb.of_below (S:=[]) hx3) (by simp);have hz3:=hz2.below hx3;have hm3:=zf hm2 hx3;have hs3:=hs2.below hx3;have c3:=hr3.cell (i:=2) (by decide);clear c2 e1 e3 e4 e5 hf hf' hr2 hacc2 hz2 hm2 hs2;go_wp2;have hnotA:∀b T N (f:Nat->Value),x3.rowIs b T N f->∀k,Za ab A sb k->b≠k:=fun b T N f hr k hk=>ZC hr (hacc3.isMap hk)
 refine send_r7 (mb:=w.heap.size) (ab:=ab) (n:=n) (A:=A) (sb:=sb) (b:=w.heap.size+1) (st:=0) (rg:=rg) (out:=ro) (st0:=0) (rg0:=0) (out0:=⟨#[]⟩) (R:=fun y=>SentR ab n (4+2*k) gb (w.heap.size+1) A sb T' x3 y/\ResAt y (w.heap.size+1) 0 0 ⟨#[]⟩ noL) _ x3 hr3.lt c3 hm3 hacc3 hz3 ?_ (fun y hy=>hy.2) (Below.refl _ _).drew rfl rfl rfl rfl ?_
 ·intro tb pb base x hx hT htb hpb hwb;refine(zeJ (T':=T') (k:=k) (rg:=rg) (ro:=ro) fr tt val gas data x hT hg hcs (fun jd=>HC.out tb jd) hlo hn (by simp[T0])).mono ?_;rintro e y ⟨h1,h2⟩;have h3:=zlr (gb:=gb) (b:=w.heap.size+1) hx hacc3 htb hpb hwb h2;refine⟨h1,h3, ?_⟩;obtain⟨V',S2,_,_,q1,q2,_⟩:=h3;refine hs3.kb q1 fun hm=> ?_
  obtain⟨⟨h0,_⟩,_⟩:=hs3;obtain⟨es,cl,q3⟩:=hacc3.isMap (q2 _ hm);simp[World.cell?,q3] at h0
 rintro x z4 ⟨y,⟨hR,hRs⟩,rfl⟩ -;obtain⟨V',S2,q1,q2,q3,q4,q5,q6⟩:=hR;have hry:=q3.row hr3 (fun hm=>hnotA _ _ _ _ hr3 _ (q4 _ hm) rfl);have hbg:w.heap.size+1≠gb:=by omega
 have hkp:Kb [w.heap.size+1] y (yJ y (w.heap.size+1) 0 rg ro noL):=Yh (Kb.refl _ y) (Or.inl (by simp));have hrp:=hkp.row hry (by simp;omega);have hbl:w.heap.size+1<x3.heap.size:=zaM hs3.1.1
 have hnb:∀k∈[w.heap.size+1],¬Za ab T'.acc V'.sb k:=fun k hk hf=>by
  obtain rfl:k=w.heap.size+1:=by simpa using hk
  obtain⟨es,cl,q7⟩:=q1.isMap hf;have h0:=hRs.1.1;simp[World.cell?,q7] at h0
 have hap:=q1.kb hkp hnb;have hzp:=q5.kb hkp (by simp);obtain⟨⟨y0,y1,y2,y3⟩,_⟩:=hRs.put (st:=0) (gs:=rg) (out:=ro) (lv:=noL);generalize yJ y (w.heap.size+1) 0 rg ro noL=z at*;have u0:=hrp.cell (i:=0) (by decide);have uz:=hrp.frozen 0;simp only[if_true] at u0
 have HHA:Hid (∃n' sb',HostAt gb ab n' T'.acc sb' (z.setCell ⟨gb,0,none⟩ (.int .i32 0))/\n'<=n+(4+2*k)):=by
  have hkz:Kb [gb] z (z.setCell ⟨gb,0,none⟩ (.int .i32 0)):=(Kb.refl [gb] z).setCell (Or.inl (by simp)) _;refine⟨V'.n,V'.sb,⟨?_,hap.kb hkz (fun k hk hf=>ZC hrp (hap.isMap hf) (List.mem_singleton.1 hk).symm),hzp.kb hkz (fun hm=> ?_)⟩,q2⟩
  ·refine(hrp.set 0 (.int .i32 0)).congr fun i hi=> ?_
   by_cases e:i=0
   ·subst e;rfl
   ·simp only[if_neg e]
  ·have e:(0:Nat)=gb:=by simpa using hm
   rw[<-e,hzp.1.1] at u0;cases u0
 have HZC:Hid ((z.setCell ⟨gb,0,none⟩ (.int .i32 0)).cell? ⟨w.heap.size+1,0,none⟩=some (.int .u8 0)/\(z.setCell ⟨gb,0,none⟩ (.int .i32 0)).cell? ⟨w.heap.size+1,1,none⟩=some (.int .i64 (rg:Int))/\(z.setCell ⟨gb,0,none⟩ (.int .i32 0)).cell? ⟨w.heap.size+1,2,none⟩=some (.string ro)/\(z.setCell ⟨gb,0,none⟩ (.int .i32 0)).cell? ⟨w.heap.size+1,3,none⟩=some noL):=by
  have hkz:Kb [gb] z (z.setCell ⟨gb,0,none⟩ (.int .i32 0)):=(Kb.refl [gb] z).setCell (Or.inl (by simp)) _;have e:=hkz.block (w.heap.size+1) (zaM y0) (by simp;omega);exact⟨(World.cell?_of_block e).trans y0,(World.cell?_of_block e).trans y1,(World.cell?_of_block e).trans y2,(World.cell?_of_block e).trans y3⟩
 have HKB:Hid (∃S2,Kb (gb::S2) w (z.setCell ⟨gb,0,none⟩ (.int .i32 0))/\∀k∈S2,Za ab A sb k):=by
  have hkz:Kb [gb] z (z.setCell ⟨gb,0,none⟩ (.int .i32 0)):=(Kb.refl [gb] z).setCell (Or.inl (by simp)) _;have b1:Kb (gb::S2) w w1:=Kb.of_below HX.out.1;have b2:=b1.trans hk2 (fun i hi=>Or.inl (by simp at hi;simp[hi]));have b3:=b2.trans (Kb.of_below (S:=[]) hx3) (by simp);have b4:=b3.trans q3 (fun i hi=>Or.inl (List.mem_cons_of_mem _ hi));have b5:=b4.trans hkp (fun i hi=>Or.inr (by simp at hi;omega));exact⟨S2,b5.trans hkz (fun i hi=>Or.inl (by simp at hi;simp[hi])),q4⟩
 clear hap hzp hrp hnb hkp hry q1 q2 q3 q4 q5 q6 hRs y0 y1 y2 y3;simp only[zL,List.foldl_cons,List.foldl_nil,Act.put];simp only[sx9];go_wp2;refine leaves_cons (f:=32) (args:=#[.pointer (some ⟨gb,0,none⟩)]) (by simp) (by simp[go_sem]) ?_;refine(unlock_deferred muLib ⟨gb,0,none⟩ .returning z u0 uz).mono ?_;rintro e u' w'' ⟨rfl,rfl,rfl⟩;obtain⟨k0,k1,k2,k3⟩:=HZC.out;exact⟨.tuple #[zdo 0 rg ro noL,.int .i64 0],by simp[results,results13,go_sem,k0,k1,k2,k3],rfl,HHA.out,HKB.out⟩
end
section
open Go.Maps
def ZQ (F:Fz) (c:Nat):Fz:={onF F with gas:=F.gas - c}
theorem To2.m2 {base fb tb m:Nat} {F':Fz} {T T':TS} {V:TV} {S:List Nat} {w w':World} (h:To2 base fb tb F' T T' V S m w w') (hm:m<=2):To2 base fb tb F' T T' V S 2 w w':=by
 obtain⟨S',sv',mv',V',h1,h2,h3,h4,h5,h6⟩:=h;exact⟨S',sv',mv',V',h1,h2,h3,h4,by omega,h6⟩
theorem yX {F F':Fz} {T:TS} {c:Nat} (hnx:F.nx<=1000000) (hcs:F.code.size<=1000) (hc:ZI (opF F)=some c) (hcl:c<=1000) (hpay:c<=F.gas) (ht:F'.trail=F.trail)
  (hdo:∀base fb S sv mv x,Fr base fb (ZQ F c) S sv mv x->Calls prog 205 #[.pointer (some ⟨fb,0,none⟩),.int .u8 (opF F:Int)] x (Out (some ((),F')) zM base fb S x)):Zl F T (some (F',T)):=by
 intro base fb tb S sv mv V w h hn;refine zel w h hnx hcs hc hcl hpay fun S1 sv1 mv1 x hx=> ?_
 refine(hdo base fb S1 sv1 mv1 x hx.fr).mono fun e y ho=> ?_
 exact⟨ho.1,(hx.lift (show F'.trail=(ZQ F c).trail from ht) ho.2).m2 (by omega)⟩
theorem ya {r:Option (Unit×Fz)} {base fb:Nat} {S:List Nat} {w:World}:zec (Out r zM base fb S w):=fun e w' h=>by
 cases r with
 |none=>exact Or.inr h.1
 |some y=>obtain⟨⟨⟩,F⟩:=y;exact Or.inl h.1
theorem zjK {F F':Fz} {T:TS} {n:Nat} (hnx:F.nx<=90000) (hcs:F.code.size<=1000) (hop:opF F=95+n) (hn:n<=32) (hpay:3<=F.gas) (ht:F'.trail=F.trail) (he:Yp n (ZQ F 3)=some ((),F')):Zl F T (some (F',T)):=by
 have hc:ZI (opF F)=some 3:=by
  rw[hop];unfold ZI yK;rw[if_neg (by omega),if_neg (by omega),if_neg (by omega),if_neg (by omega),if_neg (by omega),if_neg (by omega),if_neg (by omega),if_neg (by omega),if_neg (by unfold opN;simp;omega),if_pos (by unfold zbL;simp;omega)]
 refine yX (by omega) hcs hc (by omega) hpay ht fun base fb S sv mv x h=> ?_
 rw[hop];refine do_push fb (95+n) (by omega) (by omega) x ya ?_;rw[show 95+n - 95=n by omega,<-he];exact zf6 n hn (by exact hcs) (by show F.nx+1<=_;omega) x h
theorem zac {F F':Fz} {T:TS} {op c:Nat} (hnx:F.nx<=90000) (hcs:F.code.size<=1000) (hop:opF F=op) (ho:opN op=true) (hc:ZI op=some c) (hcl:c<=1000) (hpay:c<=F.gas) (ht:F'.trail=F.trail) (he:zc6 op (ZQ F c)=some ((),F')):Zl F T (some (F',T)):=by
 have hb:op<=255:=by
  unfold opN at ho;simp at ho;omega
 refine yX (by omega) hcs (by rw[hop];exact hc) hcl hpay ht fun base fb S sv mv x h=> ?_
 rw[hop];refine do_oper fb op hb ho x ya ?_;rw[<-he];exact zkC op hb x h
theorem zjp {F F':Fz} {T:TS} (hnx:F.nx<=90000) (hcs:F.code.size<=1000) (hop:opF F=86) (hpay:8<=F.gas) (ht:F'.trail=F.trail) (he:zbE (ZQ F 8)=some ((),F')):Zl F T (some (F',T)):=by
 refine yX (by omega) hcs (c:=8) (by rw[hop];rfl) (by omega) hpay ht fun base fb S sv mv x h=> ?_
 rw[hop];refine zaK fb 86 (by omega) (by omega) x ya ?_;rw[<-he];exact keep_86 (by show F.code.size<=_;omega) x h
theorem zkH {F:Fz} {T:TS} (hnx:F.nx<=90000) (hcs:F.code.size<=1000) (hop:opF F=91) (hpay:1<=F.gas):Zl F T (some (ZQ F 1,T)):=by
 refine yX (by omega) hcs (c:=1) (by rw[hop];rfl) (by omega) hpay rfl fun base fb S sv mv x h=> ?_
 rw[hop];refine zaK fb 91 (by omega) (by omega) x ya ?_;refine(keep_91 fb x).mono ?_;rintro e y ⟨h1,rfl⟩;exact⟨h1,h.to⟩
theorem zfC {F F':Fz} {T:TS} (hnx:F.nx<=90000) (hcs:F.code.size<=1000) (hop:opF F=82) (hpay:3<=F.gas) (ht:F'.trail=F.trail) (he:yf (ZQ F 3)=some ((),F')):Zl F T (some (F',T)):=by
 refine yX (by omega) hcs (c:=3) (by rw[hop];rfl) (by omega) hpay ht fun base fb S sv mv x h=> ?_
 rw[hop];refine zaK fb 82 (by omega) (by omega) x ya ?_;refine keep_82 fb x ya ?_;rw[<-he];exact zfG x h
theorem zhj {F F':Fz} {T:TS} (hnx:F.nx<=90000) (hcs:F.code.size<=1000) (hop:opF F=243) (ht:F'.trail=F.trail) (he:endF 243 (ZQ F 0)=some ((),F')):Zl F T (some (F',T)):=by
 refine yX (by omega) hcs (c:=0) (by rw[hop];rfl) (by omega) (Nat.zero_le _) ht fun base fb S sv mv x h=> ?_
 rw[hop];refine do_end fb 243 (by omega) x ya ?_;rw[<-he];exact zkf 243 (by omega) x h
theorem zhR {F F':Fz} {T:TS} (hnx:F.nx<=90000) (hcs:F.code.size<=1000) (hop:opF F=84) (hpay:100<=F.gas) (ht:F'.trail=F.trail) (he:zcO 1 (ZQ F 100) T=some ((),F')):Zl F T (some (F',T)):=by
 intro base fb tb S sv mv V w h hn;refine zel w h (by omega) hcs (c:=100) (by rw[hop];rfl) (by omega) hpay fun S1 sv1 mv1 x hx=> ?_
 rw[hop];refine zaK fb 84 (by omega) (by omega) x yd ?_;refine keep_84 fb x yd ?_;refine(load_of 1 x hx (fun y hy=>zbB _ _ y hy)).mono fun e y ho=> ?_
 change Out (zcO 1 (ZQ F 100) T) zM base fb S1 x e y at ho;rw[he] at ho;exact⟨ho.1,(hx.lift (show F'.trail=(ZQ F 100).trail from ht) ho.2).m2 (by omega)⟩
theorem zhb {F F':Fz} {T T':TS} (hnx:F.nx<=90000) (hcs:F.code.size<=1000) (hop:opF F=85) (hpay:200<=F.gas) (hch:T.ch.length<1000000000) (he:YM 1 (ZQ F 200) T=some (F',T')):Zl F T (some (F',T')):=by
 intro base fb tb S sv mv V w h hn;refine zel w h (by omega) hcs (c:=200) (by rw[hop];rfl) (by omega) hpay fun S1 sv1 mv1 x hx=> ?_
 rw[hop];refine zaK fb 85 (by omega) (by omega) x yd ?_;refine keep_85 fb x yd ?_;rw[<-he];exact zma 1 x hx (fun key v y hy=>zfL _ key v y hy hch (by omega))
end
theorem zl8:prog.cellsOf 5=1:=by kernel_rfl
theorem u8_info:(prog.info? 5).map (·.size)=some 1:=by kernel_rfl
theorem ty_u8s:prog.underlying 26=some (.slice 5):=by kernel_rfl
theorem ty_pu8:prog.underlying 253=some (.pointer 5):=by kernel_rfl
theorem zgP (s:ByteArray) (h0:s.size≠0) (hs:s.size<=100000) (w:World):Calls prog 146 #[.string s] w fun e w'=>e=.returned (.string s)/\Below w.heap.size w w':=by
 have hmk:=zaE s.size (by omega);have hZs:(madeCells #[Value.int .u8 0] s.size).size=s.size:=by simp[size_madeCells]
 generalize madeCells #[Value.int .u8 0] s.size=Z at*;have hcp:=Lib.run_copy_row_string (P:=prog) (w.alloc (.cells Z 5)) 26 9 3 5 w.heap.size 0 s.size s.size s Z 5 ty_u8s u8_info (heap_alloc_new w _) (Nat.le_refl _) (by omega)
 have hrow:(Z.toList.take 0++Lib.byteCells s.data.toList++Z.toList.drop (0+s.size)).toArray=(Lib.byteCells s.data.toList).toArray:=by
  rw[List.take_zero,List.nil_append,List.drop_of_length_le (by rw[Array.length_toList];omega),List.append_nil]
 rw[hrow] at hcp;have hbl:(Lib.byteCells s.data.toList).toArray.size=s.size:=by rw[List.size_toArray,Lib.byteCells_length,<-Lib.size_eq]
 have hg:=setRow_heap (w.alloc (.cells Z 5)) w.heap.size Z (Lib.byteCells s.data.toList).toArray 5 (0,0) (heap_alloc_new w _)
 have hus:=Lib.run_unsafeString_row (P:=prog) ((w.alloc (.cells Z 5)).setRow w.heap.size (Lib.byteCells s.data.toList).toArray) 253 3 9 5 ty_pu8 zl8 w.heap.size (Lib.byteCells s.data.toList).toArray.size (by unfold World.shape?;rw[hg]) s.data.toList (fun e=>h0 (by rw[Lib.size_eq,e];rfl)) (by rw[<-Lib.size_eq];omega) (by rw[<-Lib.size_eq];omega)
  (fun j x hx=>Lib.cells_of_row hg (Lib.byteCells s.data.toList).toArray.size j _ (by rw[List.take_of_length_le (by simp)];simp[Lib.byteCells,hx]))
 rw[<-Lib.size_eq] at hus;have hB:Below w.heap.size w ((w.alloc (.cells Z 5)).setRow w.heap.size (Lib.byteCells s.data.toList).toArray):=(bal (Below.refl _ w) _).trans ⟨rfl,rfl,rfl,by simp,fun k hk=>setRow_other _ _ _ _ (by omega)⟩;have HB:=ze (Lib.below_freeze hB (p:=⟨w.heap.size,0,none⟩) (Nat.le_refl _) s.size);have d0:((s.size:Int)==0)=false:=by rw[beq_eq_false_iff_ne];omega
 clear hB hg hrow;generalize(Lib.byteCells s.data.toList).toArray=Y at*;go_enter func146,ntmps146;go_wp2;go_ret;exact⟨rfl,HB.out⟩
theorem zkE (s:ByteArray) (hs:s.size<=100000) (w:World):Calls prog 82 #[.string s] w fun e w'=>e=.returned (.string s)/\Below w.heap.size w w':=by
 have HC:Hid (Calls prog 146 #[.string s] w fun e w'=>e=.returned (.string s)/\Below w.heap.size w w'):=by
  by_cases h0:s.size=0
  ·obtain rfl:s=⟨#[]⟩:=ByteArray.ext (Array.eq_empty_of_size_eq_zero h0);show Calls _ _ _ _ _;go_enter func146,ntmps146;go_wp2;go_ret;exact⟨rfl,Below.refl _ _⟩
  ·exact zgP s h0 hs w
 go_enter func82,ntmps82;go_wp2_with fail
 refine HC.out.mono ?_;rintro e w1 ⟨rfl,hb⟩;have HB:=ze hb;clear hb HC;go_wp2;go_ret;exact⟨rfl,HB.out⟩
section
open Go.Maps
abbrev zao (at' bal:Nat) (code:ByteArray):Array Value:=#[.int .u64 (za at' 0),.int .u64 (za at' 1),.int .u64 (za at' 2),.int .u64 (za at' 3),.int .u64 (za bal 0),.int .u64 (za bal 1),.int .u64 (za bal 2),.int .u64 (za bal 3),.string code,.slice none 0 0]
def AcctAt (x:World) (b at' bal:Nat) (code:ByteArray):Prop:=x.rowIs b 34 10 (fun i=>(zao at' bal code).getD i undef)
theorem ze7 (w:World):Calls prog 80 #[.slice none 0 0] w fun e w'=>e=.returned (.bool true)/\w'=w:=by
 go_enter func80,ntmps80;go_wp2
 go_loopw [10] (fun t10 wr=>t10=.int .i64 0/\wr=w) (fun _ _=>0)
 case atStart=>exact⟨rfl,rfl⟩
 case round=>
  obtain⟨rfl,rfl⟩:=hrel;go_wp2;go_ret;exact⟨rfl,rfl⟩
theorem AcctAt.cells {x:World} {b at' bal:Nat} {code:ByteArray} (h:AcctAt x b at' bal code):x.cell? ⟨b,0,none⟩=some (.int .u64 (za at' 0))/\x.cell? ⟨b,1,none⟩=some (.int .u64 (za at' 1))/\x.cell? ⟨b,2,none⟩=some (.int .u64 (za at' 2))/\x.cell? ⟨b,3,none⟩=some (.int .u64 (za at' 3))/\x.cell? ⟨b,4,none⟩=some (.int .u64 (za bal 0))/\x.cell? ⟨b,5,none⟩=some (.int .u64 (za bal 1))/\x.cell? ⟨b,6,none⟩=some (.int .u64 (za bal 2))/\x.cell? ⟨b,7,none⟩=some (.int .u64 (za bal 3))/\x.cell? ⟨b,8,none⟩=some (.string code)/\x.cell? ⟨b,9,none⟩=some (.slice none 0 0):=
 ⟨h.cell (i:=0) (by decide),h.cell (i:=1) (by decide),h.cell (i:=2) (by decide),h.cell (i:=3) (by decide),h.cell (i:=4) (by decide),h.cell (i:=5) (by decide),h.cell (i:=6) (by decide),h.cell (i:=7) (by decide),h.cell (i:=8) (by decide),h.cell (i:=9) (by decide)⟩
theorem zfW (g at' bal:Nat) (code:ByteArray) (hc:code.size<=1000) (w:World) (h:AcctAt w g at' bal code):Calls prog 55 #[.slice (some ⟨g,0,none⟩) 1 1] w fun e w'=>e=.returned (.bool true)/\Below w.heap.size w w':=by
 have HA:=ze h;have d1:decide ((1000:Int)<(code.size:Int))=false:=decide_eq_false (by omega);have HR:=ze ze7;clear h;go_enter func55,ntmps55;go_wp2
 go_loopw [10] (fun t10 wr=>∃k:Nat,k<=1/\t10=.int .i64 (k:Int)/\Hid (Below w.heap.size w wr)) (fun t10 _=>(1 - RowKit.intOf t10).toNat)
 case atStart=>exact⟨0,by omega,rfl,Below.refl _ _⟩
 case round=>
  obtain⟨k,hk,rfl,HB⟩:=hrel;by_cases h0:k=0
  ·subst h0;obtain⟨c0,c1,c2,c3,c4,c5,c6,c7,c8,c9⟩:=(show AcctAt wr g at' bal code from zf HA.out HB.out).cells;go_wp2
   go_quiet (fail)
   go_wp2_with (first|(go_at_call 80;refine(HR.out _).mono ?_;rintro e w9 ⟨rfl,rfl⟩)|fail)
   exact⟨⟨1,by omega,rfl,Ym (cin.bal HB.out _) _⟩,by simp[RowKit.intOf]⟩
  ·obtain rfl:k=1:=by omega
   go_wp2;go_ret;exact⟨rfl,HB.out⟩
end
section
open Go.Maps
theorem zka:Own 82:=fun _ _=>by kernel_rfl
theorem own_put:Own 81:=fun _ _=>by kernel_rfl
def PhK (R:World->Prop) (w:World):Nat->World->Prop
 |0,x=>Below w.heap.size w x
 |1,x=>Below w.heap.size w x
 |_,x=>R x
theorem zeY {R:World->Prop} {w x:World} {k:Nat} (h:PhK R w k x) (hk:k<=1):Below w.heap.size w x:=by
 match k,hk,h with
 |0,_,h=>exact h
 |1,_,h=>exact h
section
variable {pb ab sm at' bl:Nat} {code:ByteArray} {R:World->Prop} {s:Act} {x:World} {K:Act->World->Prop} {Q:Exit->Act->World->Prop} {ty1:TypeId} {po1:String} {af1:Array Edge} {gd1:Option (Nat×Bool)}
theorem zhn (e3:s.tmps.getD 3 undef=.map (some ab)) (hK:K (s.put (some 30) (.map (some ab))) x):
  Oper.wp prog ⟨some 30,.move (.tmp 3),ty1,po1,af1,gd1⟩ s x K Q:=by
 have f3:s.eval (.tmp 3)=_:=e3;go_simp;exact hK
theorem zgO (e5:s.tmps.getD 5 undef=.pointer (some ⟨pb,0,none⟩)) (hK:K (s.put (some 31) (.pointer (some ⟨pb,0,none⟩))) x):
  Oper.wp prog ⟨some 31,.fieldAddr 34 (.tmp 5) 0,ty1,po1,af1,gd1⟩ s x K Q:=by
 have f5:s.eval (.tmp 5)=_:=e5;go_simp;exact hK
theorem zfz (e31:s.tmps.getD 31 undef=.pointer (some ⟨pb,0,none⟩)) (c0:x.cell? ⟨pb,0,none⟩=some (.int .u64 (za at' 0))) (c1:x.cell? ⟨pb,1,none⟩=some (.int .u64 (za at' 1))) (c2:x.cell? ⟨pb,2,none⟩=some (.int .u64 (za at' 2))) (c3:x.cell? ⟨pb,3,none⟩=some (.int .u64 (za at' 3))) (hK:K (s.put (some 32) (.agg #[.int .u64 (za at' 0),.int .u64 (za at' 1),.int .u64 (za at' 2),.int .u64 (za at' 3)])) x):
  Oper.wp prog ⟨some 32,.load 24 (.tmp 31),ty1,po1,af1,gd1⟩ s x K Q:=by
 have f31:s.eval (.tmp 31)=_:=e31;go_simp;exact hK
theorem zgq (e5:s.tmps.getD 5 undef=.pointer (some ⟨pb,0,none⟩)) (hK:K (s.put (some 33) (.pointer (some ⟨pb,4,none⟩))) x):
  Oper.wp prog ⟨some 33,.fieldAddr 34 (.tmp 5) 1,ty1,po1,af1,gd1⟩ s x K Q:=by
 have f5:s.eval (.tmp 5)=_:=e5;go_simp;exact hK
theorem zhi (e33:s.tmps.getD 33 undef=.pointer (some ⟨pb,4,none⟩)) (c4:x.cell? ⟨pb,4,none⟩=some (.int .u64 (za bl 0))) (c5:x.cell? ⟨pb,5,none⟩=some (.int .u64 (za bl 1))) (c6:x.cell? ⟨pb,6,none⟩=some (.int .u64 (za bl 2))) (c7:x.cell? ⟨pb,7,none⟩=some (.int .u64 (za bl 3))) (hK:K (s.put (some 34) (.agg #[.int .u64 (za bl 0),.int .u64 (za bl 1),.int .u64 (za bl 2),.int .u64 (za bl 3)])) x):
  Oper.wp prog ⟨some 34,.load 24 (.tmp 33),ty1,po1,af1,gd1⟩ s x K Q:=by
 have f33:s.eval (.tmp 33)=_:=e33;go_simp;exact hK
theorem zgm (e5:s.tmps.getD 5 undef=.pointer (some ⟨pb,0,none⟩)) (hK:K (s.put (some 35) (.pointer (some ⟨pb,8,none⟩))) x):
  Oper.wp prog ⟨some 35,.fieldAddr 34 (.tmp 5) 2,ty1,po1,af1,gd1⟩ s x K Q:=by
 have f5:s.eval (.tmp 5)=_:=e5;go_simp;exact hK
theorem zf7 (e35:s.tmps.getD 35 undef=.pointer (some ⟨pb,8,none⟩)) (c8:x.cell? ⟨pb,8,none⟩=some (.string code)) (hK:K (s.put (some 36) (.string code)) x):
  Oper.wp prog ⟨some 36,.load 9 (.tmp 35),ty1,po1,af1,gd1⟩ s x K Q:=by
 have f35:s.eval (.tmp 35)=_:=e35;go_simp;exact hK
theorem zgt (e6:s.tmps.getD 6 undef=.map (some sm)) (hK:K (s.put (some 38) (.map (some sm))) x):
  Oper.wp prog ⟨some 38,.move (.tmp 6),ty1,po1,af1,gd1⟩ s x K Q:=by
 have f6:s.eval (.tmp 6)=_:=e6;go_simp;exact hK
theorem zhg (e34:s.tmps.getD 34 undef=.agg #[.int .u64 (za bl 0),.int .u64 (za bl 1),.int .u64 (za bl 2),.int .u64 (za bl 3)]) (e37:s.tmps.getD 37 undef=.string code) (e38:s.tmps.getD 38 undef=.map (some sm)) (hK:K (s.put (some 39) (.agg #[.int .u64 (za bl 0),.int .u64 (za bl 1),.int .u64 (za bl 2),.int .u64 (za bl 3),.string code,.map (some sm)])) x):
  Oper.wp prog ⟨some 39,.build 95 #[(0,.tmp 34),(1,.tmp 37),(2,.tmp 38)],ty1,po1,af1,gd1⟩ s x K Q:=by
 have f34:s.eval (.tmp 34)=_:=e34;have g34:s.tmps[34]?.getD undef=.agg #[.int .u64 (za bl 0),.int .u64 (za bl 1),.int .u64 (za bl 2),.int .u64 (za bl 3)]:=by rw[<-Array.getD_eq_getD_getElem?];exact e34
 have f37:s.eval (.tmp 37)=_:=e37;have g37:s.tmps[37]?.getD undef=.string code:=by rw[<-Array.getD_eq_getD_getElem?];exact e37
 have f38:s.eval (.tmp 38)=_:=e38;have g38:s.tmps[38]?.getD undef=.map (some sm):=by rw[<-Array.getD_eq_getD_getElem?];exact e38
 go_simp;exact hK
theorem zlV {pb ab sm at' bl:Nat} {code:ByteArray} {R:World->Prop} {Q:Exit->Act->World->Prop} (a:Act) (w:World) (hcs:code.size<=100000) (hcells:∀x,Below w.heap.size w x->x.cell? ⟨pb,0,none⟩=some (.int .u64 (za at' 0))/\x.cell? ⟨pb,1,none⟩=some (.int .u64 (za at' 1))/\x.cell? ⟨pb,2,none⟩=some (.int .u64 (za at' 2))/\x.cell? ⟨pb,3,none⟩=some (.int .u64 (za at' 3))/\x.cell? ⟨pb,4,none⟩=some (.int .u64 (za bl 0))/\x.cell? ⟨pb,5,none⟩=some (.int .u64 (za bl 1))/\x.cell? ⟨pb,6,none⟩=some (.int .u64 (za bl 2))/\x.cell? ⟨pb,7,none⟩=some (.int .u64 (za bl 3))/\x.cell? ⟨pb,8,none⟩=some (.string code)/\x.cell? ⟨pb,9,none⟩=some (.slice none 0 0)) (hput:∀x,Below w.heap.size w x->Calls prog 81 #[.map (some ab),.agg #[.int .u64 (za at' 0),.int .u64 (za at' 1),.int .u64 (za at' 2),.int .u64 (za at' 3)],.agg #[.int .u64 (za bl 0),.int .u64 (za bl 1),.int .u64 (za bl 2),.int .u64 (za bl 3),.string code,.map (some sm)]] x fun e w'=>e=.returned (.tuple #[])/\R w') (h0:Below w.heap.size w w.drew) (hsz:decide (40<a.tmps.size)=true) (c3:a.tmps.getD 3 undef=.map (some ab)) (c5:a.tmps.getD 5 undef=.pointer (some ⟨pb,0,none⟩)) (c6:a.tmps.getD 6 undef=.map (some sm))
  (hok:∀(x:World),(PhK R w) 2 x->Q .normal (zL a [(30,.map (some ab)),(31,.pointer (some ⟨pb,0,none⟩)),(32,.agg #[.int .u64 (za at' 0),.int .u64 (za at' 1),.int .u64 (za at' 2),.int .u64 (za at' 3)]),(33,.pointer (some ⟨pb,4,none⟩)),(34,.agg #[.int .u64 (za bl 0),.int .u64 (za bl 1),.int .u64 (za bl 2),.int .u64 (za bl 3)]),(35,.pointer (some ⟨pb,8,none⟩)),(36,.string code),(37,.string code),(38,.map (some sm)),(39,.agg #[.int .u64 (za bl 0),.int .u64 (za bl 1),.int .u64 (za bl 2),.int .u64 (za bl 3),.string code,.map (some sm)]),(40,Value.tuple #[])]) x):
  (Code.region 11 #[⟨some 30,.move (.tmp 3),89,"accounts.go:60",#[],none⟩,⟨some 31,.fieldAddr 34 (.tmp 5) 0,0,"accounts.go:60",#[],none⟩,⟨some 32,.load 24 (.tmp 31),24,"accounts.go:60",#[⟨1,.data⟩],none⟩,⟨some 33,.fieldAddr 34 (.tmp 5) 1,0,"accounts.go:60",#[],none⟩,⟨some 34,.load 24 (.tmp 33),24,"accounts.go:60",#[⟨3,.data⟩],none⟩,⟨some 35,.fieldAddr 34 (.tmp 5) 2,0,"accounts.go:60",#[],none⟩,⟨some 36,.load 9 (.tmp 35),9,"accounts.go:60",#[⟨5,.data⟩],none⟩,⟨some 37,.call ⟨.value (.func 82),#[.tmp 36],#[9]⟩,9,"accounts.go:60",#[⟨6,.data⟩],none⟩,⟨some 38,.move (.tmp 6),93,"accounts.go:60",#[],none⟩,⟨some 39,.build 95 #[(0,.tmp 34),(1,.tmp 37),(2,.tmp 38)],95,"accounts.go:60",#[⟨4,.data⟩,⟨7,.data⟩,⟨8,.data⟩],none⟩,⟨some 40,.call ⟨.value (.func 81),#[.tmp 30,.tmp 32,.tmp 39],#[89,24,95]⟩,0,"accounts.go:60",#[⟨0,.data⟩,⟨2,.data⟩,⟨9,.data⟩,⟨7,.chain⟩],none⟩] true).wp prog Q a w:=by
 have hsz:=of_decide_eq_true hsz;refine Yt (by kernel_rfl) (by kernel_rfl) (PhK R w) (fun _ _ _=>True) [(some 30,Cp (.map (some ab))),(some 31,Cp (.pointer (some ⟨pb,0,none⟩))),(some 32,Cp (.agg #[.int .u64 (za at' 0),.int .u64 (za at' 1),.int .u64 (za at' 2),.int .u64 (za at' 3)])),(some 33,Cp (.pointer (some ⟨pb,4,none⟩))),(some 34,Cp (.agg #[.int .u64 (za bl 0),.int .u64 (za bl 1),.int .u64 (za bl 2),.int .u64 (za bl 3)])),(some 35,Cp (.pointer (some ⟨pb,8,none⟩))),(some 36,Cp (.string code)),(some 37,Cp (.string code)),(some 38,Cp (.map (some sm))),(some 39,Cp (.agg #[.int .u64 (za bl 0),.int .u64 (za bl 1),.int .u64 (za bl 2),.int .u64 (za bl 3),.string code,.map (some sm)])),(some 40,Cp (Value.tuple #[]))] [7,10] rfl (by rfl) ?_ ?_ [(3,.map (some ab)),(5,.pointer (some ⟨pb,0,none⟩)),(6,.map (some sm))] ?_ (by rfl) (by kernel_rfl) (by rfl) (by rfl) ?_ ?_ ?_ ?_
 ·refine List.all_eq_true.2 fun d hd=>decide_eq_true ?_
  have hd2:d∈([30,31,32,33,34,35,36,37,38,39,40]:List Nat):=hd;simp at hd2;omega
 ·exact h0
 ·intro p hp;simp only[List.mem_cons,List.not_mem_nil,or_false] at hp;rcases hp with rfl|rfl|rfl
  ·exact c3
  ·exact c5
  ·exact c6
 ·intro j d T hj p v x x' hne hpl hph hrel ht;have hjl:j<11:=(List.getElem?_eq_some_iff.1 hj).1;rcases ltq11 hjl with rfl|rfl|rfl|rfl|rfl|rfl|rfl|rfl|rfl|rfl|rfl
  ·obtain⟨rfl,rfl⟩:=pk hj;exact ht
  ·obtain⟨rfl,rfl⟩:=pk hj;exact ht
  ·obtain⟨rfl,rfl⟩:=pk hj;exact ht
  ·obtain⟨rfl,rfl⟩:=pk hj;exact ht
  ·obtain⟨rfl,rfl⟩:=pk hj;exact ht
  ·obtain⟨rfl,rfl⟩:=pk hj;exact ht
  ·obtain⟨rfl,rfl⟩:=pk hj;exact ht
  ·obtain⟨rfl,rfl⟩:=pk hj;exact ht
  ·obtain⟨rfl,rfl⟩:=pk hj;exact ht
  ·obtain⟨rfl,rfl⟩:=pk hj;exact ht
  ·obtain⟨rfl,rfl⟩:=pk hj;exact ht
 ·intro i o d T ho ht hic k s x hk hlo hhi hph hdf hb hdep;have hi:i<11:=(Array.getElem?_eq_some_iff.1 ho).1;rcases ltq11 hi with rfl|rfl|rfl|rfl|rfl|rfl|rfl|rfl|rfl|rfl|rfl
  ·obtain rfl:=sj ho;obtain⟨rfl,rfl⟩:=pk ht;refine⟨zg rfl,fun K hK=> ?_⟩;exact zhn (hb (3,.map (some ab)) (List.Mem.head _)) (hK _ nn1 rfl)
  ·obtain rfl:=sj ho;obtain⟨rfl,rfl⟩:=pk ht;refine⟨zg rfl,fun K hK=> ?_⟩;exact zgO (hb (5,.pointer (some ⟨pb,0,none⟩)) (List.Mem.tail _ (List.Mem.head _))) (hK _ nn1 rfl)
  ·obtain rfl:=sj ho;obtain⟨rfl,rfl⟩:=pk ht;refine⟨zg rfl,fun K hK=> ?_⟩;obtain⟨c0,c1,c2,c3,c4,c5,c6,c7,c8,c9⟩:=hcells x (zeY hph (by have:=hhi 1 10 rfl (by kernel_rfl);omega));exact zfz (hdep ⟨1,.data⟩ (by simp) rfl _ _ rfl) c0 c1 c2 c3 (hK _ nn1 rfl)
  ·obtain rfl:=sj ho;obtain⟨rfl,rfl⟩:=pk ht;refine⟨zg rfl,fun K hK=> ?_⟩;exact zgq (hb (5,.pointer (some ⟨pb,0,none⟩)) (List.Mem.tail _ (List.Mem.head _))) (hK _ nn1 rfl)
  ·obtain rfl:=sj ho;obtain⟨rfl,rfl⟩:=pk ht;refine⟨zg rfl,fun K hK=> ?_⟩;obtain⟨c0,c1,c2,c3,c4,c5,c6,c7,c8,c9⟩:=hcells x (zeY hph (by have:=hhi 1 10 rfl (by kernel_rfl);omega));exact zhi (hdep ⟨3,.data⟩ (by simp) rfl _ _ rfl) c4 c5 c6 c7 (hK _ nn1 rfl)
  ·obtain rfl:=sj ho;obtain⟨rfl,rfl⟩:=pk ht;refine⟨zg rfl,fun K hK=> ?_⟩;exact zgm (hb (5,.pointer (some ⟨pb,0,none⟩)) (List.Mem.tail _ (List.Mem.head _))) (hK _ nn1 rfl)
  ·obtain rfl:=sj ho;obtain⟨rfl,rfl⟩:=pk ht;refine⟨zg rfl,fun K hK=> ?_⟩;obtain⟨c0,c1,c2,c3,c4,c5,c6,c7,c8,c9⟩:=hcells x (zeY hph (by have:=hhi 0 7 rfl (by kernel_rfl);omega));exact zf7 (hdep ⟨5,.data⟩ (by simp) rfl _ _ rfl) c8 (hK _ nn1 rfl)
  ·exact absurd (by simp) hic
  ·obtain rfl:=sj ho;obtain⟨rfl,rfl⟩:=pk ht;refine⟨zg rfl,fun K hK=> ?_⟩;exact zgt (hb (6,.map (some sm)) (List.Mem.tail _ (List.Mem.tail _ (List.Mem.head _)))) (hK _ nn1 rfl)
  ·obtain rfl:=sj ho;obtain⟨rfl,rfl⟩:=pk ht;refine⟨zg rfl,fun K hK=> ?_⟩;exact zhg (hdep ⟨4,.data⟩ (by simp) rfl _ _ rfl) (hdep ⟨7,.data⟩ (by simp) rfl _ _ rfl) (hdep ⟨8,.data⟩ (by simp) rfl _ _ rfl) (hK _ nn1 rfl)
  ·exact absurd (by simp) hic
 ·intro p i o d T hp ho ht s x hph hdf hb hdep;have hpl:p<2:=(List.getElem?_eq_some_iff.1 hp).1;rcases ltq2 hpl with rfl|rfl
  ·obtain rfl:=sj hp;obtain rfl:=sj ho;obtain⟨rfl,rfl⟩:=pk ht;refine⟨zg rfl,fun K hK=> ?_⟩;have hph:Below w.heap.size w x:=hph;refine zN zka (ev1 (hdep ⟨6,.data⟩ (by simp) rfl _ _ rfl)) (zkE code hcs x) ?_;rintro e y ⟨rfl,hB⟩;exact⟨_,rfl,hK _ y (hph.trans (hB.mono hph.size)) trivial nn1 rfl⟩
  ·obtain rfl:=sj hp;obtain rfl:=sj ho;obtain⟨rfl,rfl⟩:=pk ht;refine⟨zg rfl,fun K hK=> ?_⟩;refine zN own_put (ev3 (hdep ⟨0,.data⟩ (by simp) rfl _ _ rfl) (hdep ⟨2,.data⟩ (by simp) rfl _ _ rfl) (hdep ⟨9,.data⟩ (by simp) rfl _ _ rfl)) (hput x hph) ?_;rintro e y ⟨rfl,hR⟩;exact⟨_,rfl,hK _ y hR trivial nn1 rfl⟩
 ·intro vs x hph hl hT;obtain⟨v0,v1,v2,v3,v4,v5,v6,v7,v8,v9,v10,rfl⟩:=lenq11 hl;obtain rfl:v0=.map (some ab):=hT 0 _ _ rfl;obtain rfl:v1=.pointer (some ⟨pb,0,none⟩):=hT 1 _ _ rfl;obtain rfl:v2=.agg #[.int .u64 (za at' 0),.int .u64 (za at' 1),.int .u64 (za at' 2),.int .u64 (za at' 3)]:=hT 2 _ _ rfl;obtain rfl:v3=.pointer (some ⟨pb,4,none⟩):=hT 3 _ _ rfl;obtain rfl:v4=.agg #[.int .u64 (za bl 0),.int .u64 (za bl 1),.int .u64 (za bl 2),.int .u64 (za bl 3)]:=hT 4 _ _ rfl;obtain rfl:v5=.pointer (some ⟨pb,8,none⟩):=hT 5 _ _ rfl;obtain rfl:v6=.string code:=hT 6 _ _ rfl;obtain rfl:v7=.string code:=hT 7 _ _ rfl;obtain rfl:v8=.map (some sm):=hT 8 _ _ rfl;obtain rfl:v9=.agg #[.int .u64 (za bl 0),.int .u64 (za bl 1),.int .u64 (za bl 2),.int .u64 (za bl 3),.string code,.map (some sm)]:=hT 9 _ _ rfl;obtain rfl:v10=Value.tuple #[]:=hT 10 _ _ rfl;exact hok x hph
end
end
section
open Go.Maps
def noA:Nat->Acc:=fun _=>⟨0,⟨#[]⟩,fun _=>0⟩
def yx (at' bl:Nat) (code:ByteArray):Nat->Acc:=Zd noA at' ⟨bl,code,fun _=>0⟩
theorem zeL (m:Nat):(noA m).no:=⟨rfl,rfl,fun _=>rfl⟩
theorem zdI (w:World):Accs w.heap.size 0 noA (fun _=>.map none) (w.alloc (.map #[] 0)):=
 ⟨⟨_,AM.made w,fun m=>⟨fun _=>rfl,fun h=>absurd (zeL m) h⟩⟩,fun m h=>absurd (zeL m) h,fun m m' b h=>absurd (zeL m) h,fun m m' e=>⟨rfl,rfl⟩⟩
abbrev k3 (w:World) (at' bl:Nat) (code:ByteArray):World:=((w.alloc (.map #[] 0)).alloc (.cells (zao at' bl code) 34)).alloc (.map #[] 0)
theorem zk0 (w:World) (at' bl:Nat) (code:ByteArray):Below w.heap.size w (k3 w at' bl code):=bal (bal (bal (Below.refl _ w) _) _) _
theorem k3_acct (w:World) (at' bl:Nat) (code:ByteArray):AcctAt (k3 w at' bl code) (w.heap.size+1) at' bl code:=by
 have hr:=World.rowIs_alloc (w.alloc (.map #[] 0)) (zao at' bl code) 34 (fun i=>(zao at' bl code).getD i undef) (fun i hi=>by rw[Array.getD_eq_getD_getElem?,Array.getElem?_eq_getElem hi];rfl);rw[show(w.alloc (.map #[] 0)).heap.size=w.heap.size+1 by simp] at hr;exact zf hr (bal (Below.refl _ _) _)
theorem k3_put {w x:World} {at' bl:Nat} {code:ByteArray} (hz:Zr w) (hx:Below (k3 w at' bl code).heap.size (k3 w at' bl code) x):Calls prog 81 #[.map (some w.heap.size),wv at',Zx bl code (.map (some (w.heap.size+1+1)))] x fun e w'=>e=.returned (.tuple #[])/\(∃n sb,n<=2/\Accs w.heap.size n (yx at' bl code) sb w'/\∀k,Za w.heap.size (yx at' bl code) sb k->w.heap.size<=k)/\Below w.heap.size w w':=by
 have hB:=zk0 w at' bl code;have hBx:Below w.heap.size w x:=hB.trans (hx.mono hB.size);have hac:Accs w.heap.size 0 noA (fun _=>.map none) x:=((zdI w).kb (Kb.of_below (S:=[]) (bal (bal (Below.refl _ _) _) _)) (by simp)).kb (Kb.of_below (S:=[]) hx) (by simp)
 have hsm:AM x (w.heap.size+1+1) 0 (ZB (fun _=>0)):=by
  have h1:=AM.made ((w.alloc (.map #[] 0)).alloc (.cells (zao at' bl code) 34));rw[show((w.alloc (.map #[] 0)).alloc (.cells (zao at' bl code) 34)).heap.size=w.heap.size+1+1 by simp] at h1;exact(h1.congr (fun m=>rfl)).kb (Kb.of_below (S:=[]) hx) (by simp)
 refine(ze0 (A:=noA) (sb:=fun _=>.map none) (n:=0) ⟨bl,code,fun _=>0⟩ (.map (some (w.heap.size+1+1))) x (hac.x at') (Or.inr ⟨_,rfl,by omega,hsm⟩) (fun m b _ h=>absurd (zeL m) h) (by omega) (hz.below hBx)).mono ?_;rintro e y ⟨h1,h2,h3⟩;refine⟨h1,⟨1,_,by omega,h2,fun k hf=> ?_⟩, ?_⟩
 ·rcases hf with e|⟨m,_,e⟩
  ·omega
  ·unfold Zd at e;split at e
   ·injection e with e
    injection e with e
    omega
   ·injection e with e
    cases e
 ·have hk:Kb [] w y:=(Kb.of_below (S:=[]) hBx).trans h3 (fun i hi=>Or.inr (by simp at hi;omega));exact hk.to_below
theorem zlq (g at' bl:Nat) (code:ByteArray) (hc:code.size<=1000) (w:World) (h:AcctAt w g at' bl code) (hz:Zr w):Calls prog 56 #[.slice (some ⟨g,0,none⟩) 1 1] w fun e w'=>e=.returned (.map (some w.heap.size))/\(∃n sb,n<=2/\Accs w.heap.size n (yx at' bl code) sb w'/\∀k,Za w.heap.size (yx at' bl code) sb k->w.heap.size<=k)/\Below w.heap.size w w':=by
 have HA:=ze h;have HZ:=ze hz;have HAC:=ze (zdI w);have hmm:=@run_makeMap prog;clear h hz;go_enter func56,ntmps56;go_wp2
 go_loopw [12] (fun t12 wr=>(t12=.int .i64 0/\wr=w.alloc (.map #[] 0))\/(t12=.int .i64 1/\(∃n sb,n<=2/\Accs w.heap.size n (yx at' bl code) sb wr/\∀k,Za w.heap.size (yx at' bl code) sb k->w.heap.size<=k)/\Below w.heap.size w wr)) (fun t12 _=>(1 - RowKit.intOf t12).toNat)
 case atStart=>exact Or.inl ⟨rfl,rfl⟩
 case round=>
  rcases hrel with⟨rfl,rfl⟩|⟨rfl,hR,hB⟩
  ·have hB0:Below w.heap.size w (w.alloc (.map #[] 0)):=bal (Below.refl _ w) _;obtain⟨c0,c1,c2,c3,c4,c5,c6,c7,c8,c9⟩:=(show AcctAt (w.alloc (.map #[] 0)) g at' bl code from zf HA.out hB0).cells;have HB0:=ze hB0;clear hB0;go_wp2
   go_loopw [20] (fun t20 wr2=>t20=.int .i64 0/\wr2=k3 w at' bl code) (fun _ _=>0)
   case atStart=>exact⟨rfl,rfl⟩
   case round=>
    obtain⟨rfl,rfl⟩:=hrel;have HK:=ze (k3_acct w at' bl code);have HS:=ze HZ.out;clear c0 c1 c2 c3 c4 c5 c6 c7 c8 c9;go_wp2;refine zlV (pb:=w.heap.size+1) (at':=at') (bl:=bl) (code:=code) (R:=fun y=>(∃n sb,n<=2/\Accs w.heap.size n (yx at' bl code) sb y/\∀k,Za w.heap.size (yx at' bl code) sb k->w.heap.size<=k)/\Below w.heap.size w y) _ _ (by omega) (fun x hx=>(show AcctAt x (w.heap.size+1) at' bl code from zf HK.out hx).cells) (fun x hx=>k3_put HZ.out hx) (Below.refl _ _).drew rfl rfl rfl rfl ?_;intro y hR;have HR:Hid ((∃n sb,n<=2/\Accs w.heap.size n (yx at' bl code) sb y/\∀k,Za w.heap.size (yx at' bl code) sb k->w.heap.size<=k)/\Below w.heap.size w y):=hR;clear hR HK HS HAC HA HZ HB0;simp only[zL,List.foldl_cons,List.foldl_nil,Act.put];simp only[sx9];go_wp2;exact⟨Or.inr ⟨rfl,HR.out⟩,by simp[RowKit.intOf]⟩
  ·have HX:=ze (And.intro hR hB);clear hR hB;go_wp2;go_ret;exact⟨rfl,HX.out⟩
theorem new_one (g at' bl:Nat) (code:ByteArray) (hc:code.size<=1000) (w:World) (h:AcctAt w g at' bl code) (hz:Zr w):Calls prog 29 #[.slice (some ⟨g,0,none⟩) 1 1] w fun e w'=>∃gb ab n sb,e=.returned (.tuple #[.pointer (some ⟨gb,0,none⟩),.int .i64 0])/\n<=2/\HostAt gb ab n (yx at' bl code) sb w'/\Below w.heap.size w w'/\w.heap.size<=gb/\∀k,Za ab (yx at' bl code) sb k->w.heap.size<=k:=by
 have HR:=ze (zfW g at' bl code hc w h);have HA:=ze h;have HZ:=ze hz;clear h hz;go_enter func29,ntmps29;go_wp2_with fail
 refine HR.out.mono ?_;rintro e w1 ⟨rfl,hb1⟩;have HK:=ze (zlq g at' bl code hc w1 (zf HA.out hb1) (HZ.out.below hb1));have HB1:=ze hb1;clear hb1 HR;go_wp2_with fail
 refine HK.out.mono ?_;rintro e w2 ⟨rfl,⟨n,sb,hn,hac,hft⟩,hb2⟩;have hBw:Below w.heap.size w w2:=HB1.out.trans (hb2.mono HB1.out.size)
 have HH:Hid (HostAt w2.heap.size w1.heap.size n (yx at' bl code) sb (w2.alloc (.cells #[.int .i32 0,.int .u32 0,.map (some w1.heap.size)] 91))):=by
  refine⟨World.rowIs_alloc w2 _ _ _ (fun i hi=> ?_),hac.kb (Kb.of_below (S:=[]) (bal (Below.refl _ w2) _)) (by simp),(HZ.out.below hBw).below (bal (Below.refl _ w2) _)⟩;have hi:i<3:=hi;rcases ltq3 hi with rfl|rfl|rfl<;>rfl
 have HF:Hid (w.heap.size<=w2.heap.size/\∀k,Za w1.heap.size (yx at' bl code) sb k->w.heap.size<=k):=⟨hBw.size,fun k hk=>Nat.le_trans HB1.out.size (hft k hk)⟩;clear hft;have HN:=ze hn;have HBW:=ze (bal hBw (.cells #[.int .i32 0,.int .u32 0,.map (some w1.heap.size)] 91));clear hn hac hb2 hBw HK HB1;go_wp2;refine bodyPost_ret (v:=.tuple #[.pointer (some ⟨w2.heap.size,0,none⟩),.int .i64 0]) (by simp[results,results29,go_sem]) rfl ⟨_,_,n,sb,rfl,HN.out,HH.out,HBW.out,HF.out⟩
theorem zmG (g at' bl:Nat) (code:ByteArray) (hc:code.size<=1000) (w:World) (h:AcctAt w g at' bl code) (hz:Zr w):Calls prog 11 #[.slice (some ⟨g,0,none⟩) 1 1] w fun e w'=>∃gb ab n sb,e=.returned (.pointer (some ⟨gb,0,none⟩))/\n<=2/\HostAt gb ab n (yx at' bl code) sb w'/\Below w.heap.size w w'/\w.heap.size<=gb/\∀k,Za ab (yx at' bl code) sb k->w.heap.size<=k:=by
 have HR:=ze (new_one g at' bl code hc w h hz);clear h hz;go_enter func11,ntmps11;go_wp2_with fail
 refine HR.out.mono ?_;rintro e w1 ⟨gb,ab,n,sb,rfl,hn,hh,hb⟩;have HX:=ze (And.intro hn (And.intro hh hb));clear hn hh hb HR;go_wp2;go_ret;exact⟨gb,ab,n,sb,rfl,HX.out⟩
end
section
open Go.Maps
theorem M_pw:M=2^256:=rfl
theorem ofL_bys (n:Nat):∀k,k<=32->ofL (bys n (32 - k))=(n%M)/2^(8*(32 - k)):=by
 intro k
 induction k with
 |zero=>
  intro _;have h:n%M<M:=Nat.mod_lt _ (by decide);rw[show 8*(32 - 0)=256 from rfl,<-M_pw,Nat.div_eq_of_lt h];rfl
 |succ k ih=>
  intro hk;have e:32 - k=(32 - (k+1))+1:=by omega
  rw[zcT n (32 - (k+1)) (by omega),zgK,Z9,<-e,ih (by omega),e];unfold byn;generalize hi:32 - (k+1)=i;have hi2:i<32:=by omega
  have h1:n/2^(8*i)%256=(n%M)/2^(8*i)%256:=by
   have e2:(256:Nat)=2^8:=rfl;rw[M_pw,e2];apply Nat.eq_of_testBit_eq;intro j;simp only[Nat.testBit_mod_two_pow,Nat.testBit_div_two_pow];by_cases hj:j<8
   ·have:j+8*i<256:=by omega
    simp[this]
   ·simp[hj]
  rw[h1,show 8*(i+1)=8*i+8 by omega,Nat.pow_add,<-Nat.div_div_eq_div_mul];have:=Nat.div_add_mod ((n%M)/2^(8*i)) 256;rw[show(2:Nat)^8=256 from rfl];omega
theorem zlQ (n:Nat):ofL (bys n 0)=n%M:=by
 have:=ofL_bys n 32 (Nat.le_refl _);simpa using this
theorem zly (l:List UInt8):ofL (0::l)=ofL l:=rfl
theorem zfD:∀l:List UInt8,ofL (l.dropWhile (·==0))=ofL l
 |[]=>rfl
 |b::l=>by
  by_cases h:b=0
  ·subst h;rw[List.dropWhile_cons_of_pos (by rfl),zfD l,zly]
  ·rw[List.dropWhile_cons_of_neg (by simpa using h)]
theorem zfu (n:Nat):ofL (pl n 0)=n%M:=by
 unfold pl;rw[zfD,zlQ]
theorem zfQ {s:ByteArray} {pre rest:List UInt8} {x:UInt8} (h:bl s=pre++x::rest):byt s pre.length=x.toNat:=by
 rw[ZO,h,List.getD_eq_getElem?_getD,List.getElem?_append_right (Nat.le_refl _)];simp
theorem zeI {s:ByteArray} {pre rest:List UInt8} {n:Nat} (h:bl s=pre++(zo n++rest)) (hp:pre.length+1<M):byt s pre.length=95+(pl n 0).length/\zH s ((pre.length+1)%M) (pl n 0).length=pl n 0:=by
 have h1:bl s=pre++UInt8.ofNat (95+(pl n 0).length)::(pl n 0++rest):=h;refine⟨(zfQ h1).trans (zc2 n 0), ?_⟩;rw[Nat.mod_eq_of_lt hp];unfold zH
 have hl:s.size=pre.length+(1+((pl n 0).length+rest.length)):=by
  have:(bl s).length=s.size:=rfl;rw[<-this,h1];simp;omega
 rw[h1,List.drop_append,List.drop_of_length_le (by omega),List.nil_append,show pre.length+1 - pre.length=1 by omega,List.drop_succ_cons,List.drop_zero,List.take_left,show(pl n 0).length - (s.size - (pre.length+1))=0 by omega];simp
theorem JdI.op {s:ByteArray} {i:Nat} {acc:List Bool} (h:JdI s i acc) (hi:i<s.size) (h1:byt s i<=95\/127<byt s i) (h2:byt s i≠91):JdI s (i+1) acc:=by
 have:=h.step hi;rw[if_neg (by omega),if_neg h2] at this;exact this
theorem JdI.push {s:ByteArray} {i k:Nat} {acc:List Bool} (h:JdI s i acc) (hi:i<s.size) (h1:byt s i=95+k) (hk:k<=32):JdI s (i+1+k) acc:=by
 have:=h.step hi;rw[if_neg (show¬byt s i=91 by omega)] at this;by_cases h0:k=0
 ·subst h0;rw[if_neg (by omega)] at this;exact this
 ·rw[if_pos (by omega),h1,show 95+k - 95=k by omega] at this;exact this
theorem zlY {s:ByteArray} {j:Nat}:∀(f i:Nat) (acc:List Bool),acc.getD j false=true->(jdF s f i acc).getD j false=true:=by
 intro f
 induction f with
 |zero=>intro i acc h;exact h
 |succ f ih=>
  intro i acc h;unfold jdF;split
  ·refine ih _ _ ?_;split
   ·rw[List.getD_eq_getElem?_getD,List.getElem?_set];split
    ·split
     ·rfl
     ·rename_i h1 h2;subst h1;rw[List.getD_eq_getElem?_getD,List.getElem?_eq_none (by omega)] at h;cases h
    ·rw[<-List.getD_eq_getElem?_getD];exact h
   ·exact h
  ·exact h
theorem JdI.dest {s:ByteArray} {i:Nat} {acc:List Bool} (h:JdI s i acc) (hi:i<s.size) (h1:byt s i=91):(jdL s).getD i false=true:=by
 have h2:=h.step hi;rw[if_pos h1] at h2;obtain⟨h3,f,h4,h5⟩:=h2;rw[<-h5];refine zlY _ _ _ ?_;rw[List.getD_eq_getElem?_getD,List.getElem?_set];have h6:=h.1;rw[if_pos rfl,if_pos (by omega)];rfl
end
section
open Go.Maps
def tlL (op L:Nat):List UInt8:=[UInt8.ofNat op,97,UInt8.ofNat (L/256),UInt8.ofNat (L%256),86,0,91,96,1,85,96,1,84,95,82,96,32,95,243]
def Sf (tb:Nat) (s:ByteArray) (jd:Value) (g:Nat) (st:List Nat) (nx pc:Nat) (mem:List UInt8):Fz:={msgF tb s jd 1 9 0 ⟨#[]⟩ 10000 with gas:=g,st:=st,nx:=nx,pc:=pc,mem:=mem}
section
variable {tb:Nat} {s:ByteArray} {jd:Value} {g:Nat} {st:List Nat} {nx pc:Nat} {mem:List UInt8} {T:TS}
theorem YS (h:nx<s.size):opF (Sf tb s jd g st nx pc mem)=byt s nx:=if_pos h
theorem sp {k:Nat} {l:List UInt8} (hb:byt s nx=95+k) (hv:zH s ((nx+1)%M) k=l) (hn:nx<s.size) (hs:s.size<=1000) (hk:k<=32) (hg:3<=g) (hst:st.length<1024):Zl (Sf tb s jd g st nx pc mem) T (some (Sf tb s jd (g - 3) (ofL l::st) (nx+1+k) nx mem,T)):=by
 refine zjK (n:=k) (by show nx<=_;omega) hs (by rw[YS hn];exact hb) hk hg rfl ?_;unfold Yp zP;have e:(ZQ (Sf tb s jd g st nx pc mem) 3).st.length≠1024:=by show st.length≠1024;omega
 rw[if_neg e];show some ((),_)=_;have e2:zH (ZQ (Sf tb s jd g st nx pc mem) 3).code ((ZQ (Sf tb s jd g st nx pc mem) 3).nx%M) k=l:=hv;rw[e2];rfl
theorem stj {L:Nat} (hb:byt s nx=86) (hn:nx<s.size) (hs:s.size<=1000) (hg:8<=g) (hL:L<s.size) (hd:(jdL s).getD L false=true):Zl (Sf tb s jd g (L::st) nx pc mem) T (some (Sf tb s jd (g - 8) st L nx mem,T)):=by
 refine zjp (by show nx<=_;omega) hs (by rw[YS hn];exact hb) hg rfl ?_;have hM:L%M=L:=Nat.mod_eq_of_lt (Nat.lt_of_lt_of_le hL (Nat.le_trans hs (by decide)));unfold zbE;show zbg L _=_;unfold zbg upB;rw[hM];show(if (decide (L<=s.size)&&(jdL s).getD L false)=true then _ else _)=_;rw[hd,decide_eq_true (Nat.le_of_lt hL),if_pos (show(true&&true)=true from rfl)];rfl
theorem sd (hb:byt s nx=91) (hn:nx<s.size) (hs:s.size<=1000) (hg:1<=g):Zl (Sf tb s jd g st nx pc mem) T (some (Sf tb s jd (g - 1) st (nx+1) nx mem,T)):=
 zkH (by show nx<=_;omega) hs (by rw[YS hn];exact hb) hg
theorem sst {k v:Nat} (hb:byt s nx=85) (hn:nx<s.size) (hs:s.size<=1000) (hg:200<=g) (hc:T.ch.length<1000000000):Zl (Sf tb s jd g (k::v::st) nx pc mem) T (some (Sf tb s jd (g - 200) st (nx+1) nx mem,yi T 1 9 k v)):=
 zhb (by show nx<=_;omega) hs (by rw[YS hn];exact hb) hg hc rfl
theorem sld {k:Nat} (hb:byt s nx=84) (hn:nx<s.size) (hs:s.size<=1000) (hg:100<=g) (hst:st.length<1024):Zl (Sf tb s jd g (k::st) nx pc mem) T (some (Sf tb s jd (g - 100) (zgH T 1 9 k::st) (nx+1) nx mem,T)):=by
 refine zhR (by show nx<=_;omega) hs (by rw[YS hn];exact hb) hg rfl ?_;unfold zcO;show zP (zgH T 1 9 k) _=_;unfold zP;rw[if_neg (show¬(zv (zu (ZQ (Sf tb s jd g (k::st) nx pc mem) 100))).st.length=1024 from(by show¬st.length=1024;omega))];rfl
theorem zfY (v:Nat):(bys v 0).length=32:=by simp[bys]
theorem reach0 {F:Fz} (hm:F.mem=[]) (hg:3<=F.gas):zG 0 32 F=some ((0,32),{F with gas:=F.gas - 3,mem:=List.replicate 32 0}):=by
 unfold zG;rw[if_neg (by decide),if_pos (by decide)];unfold zaZ;rw[hm];rw[show Zz (0%M+32%M)=1 from rfl,show Zz ([]:List UInt8).length=0 from rfl,if_neg (by omega)];unfold yQ;rw[if_neg (by omega)];simp[hm]
theorem reach32 {F:Fz} (hm:F.mem.length=32):zG 0 32 F=some ((0,32),F):=by
 unfold zG;rw[if_neg (by decide),if_pos (by decide)];unfold zaZ;rw[hm];rw[if_pos (by decide)];rfl
theorem smst {v:Nat} (hb:byt s nx=82) (hn:nx<s.size) (hs:s.size<=1000) (hg:6<=g):Zl (Sf tb s jd g (0::v::st) nx pc []) T (some (Sf tb s jd (g - 6) st (nx+1) nx (bys v 0),T)):=by
 refine zfC (by show nx<=_;omega) hs (by rw[YS hn];exact hb) (by show 3<=g;omega) rfl ?_;unfold yf;have h:=reach0 (F:=YD (ZQ (Sf tb s jd g (0::v::st) nx pc []) 3)) rfl (by show 3<=g - 3;omega);have e1:zam (ZQ (Sf tb s jd g (0::v::st) nx pc []) 3)=0:=rfl;have e2:zbm (ZQ (Sf tb s jd g (0::v::st) nx pc []) 3)=v:=rfl;rw[e1,e2,h];show some ((),_)=_;unfold YW
 have e3:splice (List.replicate 32 (0:UInt8)) 0 (bys v 0)=bys v 0:=by
  unfold splice;simp[zfY]
 dsimp only;rw[e3];have e4:(YD (ZQ (Sf tb s jd g (0::v::st) nx pc []) 3)).gas - 3=g - 6:=by show g - 3 - 3=g - 6;omega
 rw[e4];rfl
theorem sret (hb:byt s nx=243) (hn:nx<s.size) (hs:s.size<=1000) (hm:mem.length=32):Zl (Sf tb s jd g (0::32::st) nx pc mem) T (some ({Sf tb s jd g st (nx+1) nx mem with ended:=true,out:=⟨mem.toArray⟩},T)):=by
 refine zhj (by show nx<=_;omega) hs (by rw[YS hn];exact hb) rfl ?_;unfold endF;rw[if_neg (by omega)]
 show(match zG 0 32 ({Sf tb s jd g st (nx+1) nx mem with ended:=true}:Fz) with
  |none=>none
  |some ((a,b),F3)=>some ((),if (243:Nat)=253 then{F3 with out:=⟨(Zo F3.mem a b).toArray⟩,status:=1} else{F3 with out:=⟨(Zo F3.mem a b).toArray⟩}))=_
 rw[reach32 (show({Sf tb s jd g st (nx+1) nx mem with ended:=true}:Fz).mem.length=32 from hm)];dsimp only;rw[if_neg (by omega)]
 have e:Zo ({Sf tb s jd g st (nx+1) nx mem with ended:=true}:Fz).mem 0 32=mem:=by
  show(mem.drop 0).take 32=mem;rw[List.drop_zero,List.take_of_length_le (by omega)]
 rw[e]
end
end
section
open Go.Maps
theorem ziL {op a b c c':Nat} (h8:op≠8) (h9:op≠9):zI op a b c=zI op a b c':=by
 unfold zI;rw[if_neg h8,if_neg h8,if_neg h9,if_neg h9]
theorem zlt {op a b c b' c':Nat} (h:op=21\/op=25):zI op a b c=zI op a b' c':=by
 rcases h with rfl|rfl<;>rfl
theorem payF_ok {c:Nat} {F:Fz} (h:c<=F.gas):yQ c F=some ((),{F with gas:=F.gas - c}):=if_neg (by omega)
theorem zb4 (n:Nat):(pl n 0).length<=32:=zbr n 0
section
variable {s:ByteArray} {g:Nat} {nx:Nat}
theorem soper {op a b c:Nat} (hb:byt s nx=op) (hop:opN op=true) (hn:nx<s.size) (hs:s.size<=1000) (hg:400<=g):
  ∃R g',R.length<=2/\g - 400<=g'/\g'<=g/\∀tb jd pc T,Zl (Sf tb s jd g [a,b,c] nx pc []) T (some (Sf tb s jd g' (zI op (a%M) (b%M) (c%M)::R) (nx+1) nx [],T)):=by
 obtain⟨q,hq,hq2⟩:∃q,ZI op=some q/\q<=10:=by
  have hr:(1<=op/\op<=11)\/(16<=op/\op<=29):=by
   unfold opN at hop;simp at hop;omega
  unfold ZI;rw[if_neg (by omega),if_neg (by omega),if_neg (by omega),if_neg (by omega),if_neg (by omega)];by_cases h10:op=10
  ·exact⟨10,by rw[if_pos (by omega)],by omega⟩
  ·refine⟨5, ?_,by omega⟩;rw[if_neg (by omega),if_neg (by omega),if_neg (by omega)];unfold yK;rw[if_pos hop]
 have ho:∀tb jd pc,opF (Sf tb s jd g [a,b,c] nx pc [])=op:=fun tb jd pc=>by rw[YS hn];exact hb
 by_cases h1:op=21\/op=25
 ·refine⟨[b,c],g - q,by simp,by omega,by omega,fun tb jd pc T=>zac (by show nx<=_;omega) hs (ho tb jd pc) hop hq (by omega) (by show q<=g;omega) rfl ?_⟩;unfold zc6;rw[show zZ op=1 by unfold zZ;rw[if_pos h1]]
  show(match(if op=10 then yQ _ _ else some ((),_)) with
   |none=>none
   |some (_,G2)=>zP _ G2)=_
  rw[if_neg (by omega)];show zP _ _=_;rw[zlt h1 (b':=b%M) (c':=c%M)];rfl
 ·by_cases h3:op=8\/op=9
  ·refine⟨[],g - q,by simp,by omega,by omega,fun tb jd pc T=>zac (by show nx<=_;omega) hs (ho tb jd pc) hop hq (by omega) (by show q<=g;omega) rfl ?_⟩;unfold zc6;rw[show zZ op=3 by unfold zZ;rw[if_neg h1,if_pos h3]]
   show(match(if op=10 then yQ _ _ else some ((),_)) with
    |none=>none
    |some (_,G2)=>zP _ G2)=_
   rw[if_neg (by omega)];rfl
  ·by_cases h10:op=10
   ·have hl:=zb4 b;refine⟨[c],g - q - 10*(pl b 0).length,by simp,by omega,by omega,fun tb jd pc T=>zac (by show nx<=_;omega) hs (ho tb jd pc) hop hq (by omega) (by show q<=g;omega) rfl ?_⟩;unfold zc6;rw[show zZ op=2 by unfold zZ;rw[if_neg h1,if_neg h3]]
    show(match(if op=10 then yQ (10*(pl b 0).length) _ else some ((),_)) with
     |none=>none
     |some (_,G2)=>zP _ G2)=_
    rw[if_pos h10];rw[payF_ok (by show 10*(pl b 0).length<=g - q;omega)];show zP _ _=_;rw[ziL (c':=c%M) (by omega) (by omega)];rfl
   ·refine⟨[c],g - q,by simp,by omega,by omega,fun tb jd pc T=>zac (by show nx<=_;omega) hs (ho tb jd pc) hop hq (by omega) (by show q<=g;omega) rfl ?_⟩;unfold zc6;rw[show zZ op=2 by unfold zZ;rw[if_neg h1,if_neg h3]]
    show(match(if op=10 then yQ _ _ else some ((),_)) with
     |none=>none
     |some (_,G2)=>zP _ G2)=_
    rw[if_neg h10];show zP _ _=_;rw[ziL (c':=c%M) (by omega) (by omega)];rfl
end
end
section
open Go.Maps
theorem za1 {s:ByteArray} {pre l rest:List UInt8} (h:bl s=pre++(l++rest)) (hp:pre.length<M):zH s (pre.length%M) l.length=l:=by
 rw[Nat.mod_eq_of_lt hp];unfold zH
 have hl:s.size=pre.length+(l.length+rest.length):=by
  have:(bl s).length=s.size:=rfl;rw[<-this,h];simp
 rw[h,List.drop_append,List.drop_of_length_le (Nat.le_refl _),List.nil_append,Nat.sub_self,List.drop_zero,List.take_left,show l.length - (s.size - pre.length)=0 by omega];simp
theorem zk3 {s:ByteArray} {pre t:List UInt8} (h:bl s=pre++t) (i:Nat):byt s (pre.length+i)=(t.getD i 0).toNat:=by
 rw[ZO,h,List.getD_eq_getElem?_getD,List.getElem?_append_right (by omega),Nat.add_sub_cancel_left,<-List.getD_eq_getElem?_getD]
theorem zc3 (n:Nat):(zo n).length=1+(pl n 0).length:=by
 unfold zo pcs;simp;omega
theorem ofL_two (L:Nat) (h:L<65536):ofL [UInt8.ofNat (L/256),UInt8.ofNat (L%256)]=L:=by
 unfold ofL;simp only[List.foldl_cons,List.foldl_nil,Nat.zero_mul,Nat.zero_add];rw[UInt8.toNat_ofNat_of_lt' (by show L/256<256;omega),UInt8.toNat_ofNat_of_lt' (by show L%256<256;omega)];omega
theorem zk8 (T:TS) (k r:Nat):zgH (yi T 1 9 k r) 1 9 k=r:=by
 unfold zgH yi zbw;simp[Zd,Yn]
theorem zhT {a b c op:Nat} {s:ByteArray} (hs:bl s=zo c++(zo b++(zo a++tlL op ((zo c++(zo b++zo a)).length+6)))) (hop:opN op=true):
  ∃g',0<g'/\g'<10000/\∀tb jd T,T.ch.length<1000->∃F',Chain 16 (msgF tb s jd 1 9 0 ⟨#[]⟩ 10000) T (some F') (yi T 1 9 1 (zI op (a%M) (b%M) (c%M)))/\F'.status=0/\F'.gas=g'/\F'.out=⟨(bys (zI op (a%M) (b%M) (c%M)) 0).toArray⟩:=by
 have hla:=zc3 a;have hlb:=zc3 b;have hlc:=zc3 c;have pa:=zb4 a;have pb:=zb4 b;have pc:=zb4 c;have hM:(100000:Nat)<M:=by decide
 obtain⟨P,hP⟩:∃P,P=(zo c++(zo b++zo a)).length:=⟨_,rfl⟩;have hP2:P=(zo c).length+((zo b).length+(zo a).length):=by rw[hP];simp
 rw[<-hP] at hs;have h3:bl s=(zo c++(zo b++zo a))++tlL op (P+6):=by rw[hs];simp
 have hsz:s.size=P+19:=by
  have:(bl s).length=s.size:=rfl;rw[<-this,h3,List.length_append,<-hP];rfl
 have hss:s.size<=1000:=by omega
 have bt:∀i,byt s (P+i)=((tlL op (P+6)).getD i 0).toNat:=fun i=>by rw[hP];exact zk3 (hP▸h3) i
 have hopl:op<=29:=by
  unfold opN at hop;simp at hop;omega
 have b0:byt s P=op:=by
  have:=bt 0;rw[Nat.add_zero] at this;rw[this];show(UInt8.ofNat op).toNat=op;exact UInt8.toNat_ofNat_of_lt' (by show op<256;omega)
 -- the three numbers
 have c1:=zeI (pre:=[]) (n:=c) (rest:=zo b++(zo a++tlL op (P+6))) hs (by simp;omega);have c2:=zeI (pre:=zo c) (n:=b) (rest:=zo a++tlL op (P+6)) hs (by omega);have c3:=zeI (pre:=zo c++zo b) (n:=a) (rest:=tlL op (P+6)) (by rw[hs];simp) (by simp;omega);simp only[List.length_nil,Nat.zero_add] at c1;rw[List.length_append] at c3
 -- the place of the jump
 have hd:(jdL s).getD (P+6) false=true:=by
  have j0:=JdI.start s;have j1:=j0.push (by omega) c1.1 pc;rw[show 0+1+(pl c 0).length=(zo c).length by omega] at j1;have j2:=j1.push (by omega) c2.1 pb;rw[show(zo c).length+1+(pl b 0).length=(zo c).length+(zo b).length by omega] at j2;have j3:=j2.push (by omega) c3.1 pa;rw[show(zo c).length+(zo b).length+1+(pl a 0).length=P by omega] at j3;have j4:=j3.op (by omega) (by omega) (by omega);have j5:=j4.push (k:=2) (by omega) (bt 1) (by omega);have j6:=j5.op (by omega) (by have:byt s (P+1+1+2)=86:=bt 4;omega) (by have:byt s (P+1+1+2)=86:=bt 4;omega);have j7:=j6.op (by omega) (by have:byt s (P+1+1+2+1)=0:=bt 5;omega) (by have:byt s (P+1+1+2+1)=0:=bt 5;omega);exact j7.dest (by omega) (bt 6)
 -- the bytes of the small numbers
 have q1:zH s ((P+1+1)%M) 2=[UInt8.ofNat ((P+6)/256),UInt8.ofNat ((P+6)%256)]:=by
  have:=za1 (s:=s) (pre:=(zo c++(zo b++zo a))++[UInt8.ofNat op,97]) (l:=[UInt8.ofNat ((P+6)/256),UInt8.ofNat ((P+6)%256)]) (rest:=(tlL op (P+6)).drop 4) (by rw[h3];simp[tlL]) (by simp;omega);rw[List.length_append,<-hP] at this;exact this
 have q2:zH s ((P+7+1)%M) 1=[1]:=by
  have:=za1 (s:=s) (pre:=(zo c++(zo b++zo a))++(tlL op (P+6)).take 8) (l:=[1]) (rest:=(tlL op (P+6)).drop 9) (by rw[h3];simp[tlL]) (by simp[tlL];omega);rw[List.length_append,<-hP] at this;exact this
 have q3:zH s ((P+10+1)%M) 1=[1]:=by
  have:=za1 (s:=s) (pre:=(zo c++(zo b++zo a))++(tlL op (P+6)).take 11) (l:=[1]) (rest:=(tlL op (P+6)).drop 12) (by rw[h3];simp[tlL]) (by simp[tlL];omega);rw[List.length_append,<-hP] at this;exact this
 have q4:zH s ((P+15+1)%M) 1=[32]:=by
  have:=za1 (s:=s) (pre:=(zo c++(zo b++zo a))++(tlL op (P+6)).take 16) (l:=[32]) (rest:=(tlL op (P+6)).drop 17) (by rw[h3];simp[tlL]) (by simp[tlL];omega);rw[List.length_append,<-hP] at this;exact this
 have q0:∀p,zH s p 0=[]:=fun p=>by unfold zH;simp
 obtain⟨R,g',hR,hg1,hg2,hst⟩:=soper (a:=ofL (pl a 0)) (b:=ofL (pl b 0)) (c:=ofL (pl c 0)) (g:=9991) (nx:=P) b0 hop (by omega) hss (by omega);rw[zfu,zfu,zfu,Nat.mod_mod,Nat.mod_mod,Nat.mod_mod] at hst;obtain⟨r,hr⟩:∃r,r=zI op (a%M) (b%M) (c%M):=⟨_,rfl⟩;rw[<-hr] at hst⊢;refine⟨g' - 333,by omega,by omega,fun tb jd T hT=> ?_⟩;refine⟨{Sf tb s jd (g' - 333) R (P+18+1) (P+18) (bys r 0) with ended:=true,out:=⟨(bys r 0).toArray⟩}, ?_,rfl,rfl,rfl⟩;have s1:=sp (tb:=tb) (s:=s) (jd:=jd) (g:=10000) (st:=[]) (nx:=0) (pc:=0) (mem:=[]) (T:=T) c1.1 c1.2 (by omega) hss pc (by omega) (by simp);have s2:=sp (tb:=tb) (s:=s) (jd:=jd) (g:=9997) (st:=[ofL (pl c 0)]) (nx:=(zo c).length) (pc:=0) (mem:=[]) (T:=T) c2.1 c2.2 (by omega) hss pb (by omega) (by simp);have s3:=sp (tb:=tb) (s:=s) (jd:=jd) (g:=9994) (st:=[ofL (pl b 0),ofL (pl c 0)]) (nx:=(zo c).length+(zo b).length) (pc:=(zo c).length) (mem:=[]) (T:=T) c3.1 c3.2 (by omega) hss pa (by omega) (by simp);rw[show 0+1+(pl c 0).length=(zo c).length by omega] at s1;rw[show(zo c).length+1+(pl b 0).length=(zo c).length+(zo b).length by omega] at s2;rw[show(zo c).length+(zo b).length+1+(pl a 0).length=P by omega] at s3;simp only[zfu] at s1 s2 s3;have s4:=hst tb jd ((zo c).length+(zo b).length) T;have s5:=sp (tb:=tb) (s:=s) (jd:=jd) (g:=g') (st:=r::R) (nx:=P+1) (pc:=P) (mem:=[]) (T:=T) (k:=2) (bt 1) q1 (by omega) hss (by omega) (by omega) (by simp;omega);rw[ofL_two _ (by omega)] at s5;have s6:=stj (tb:=tb) (s:=s) (jd:=jd) (g:=g' - 3) (st:=r::R) (nx:=P+1+1+2) (pc:=P+1) (mem:=[]) (T:=T) (L:=P+6) (bt 4) (by omega) hss (by omega) (by omega) hd;have s7:=sd (tb:=tb) (s:=s) (jd:=jd) (g:=g' - 3 - 8) (st:=r::R) (nx:=P+6) (pc:=P+1+1+2) (mem:=[]) (T:=T) (bt 6) (by omega) hss (by omega);have s8:=sp (tb:=tb) (s:=s) (jd:=jd) (g:=g' - 3 - 8 - 1) (st:=r::R) (nx:=P+7) (pc:=P+6) (mem:=[]) (T:=T) (k:=1) (bt 7) q2 (by omega) hss (by omega) (by omega) (by simp;omega);have s9:=sst (tb:=tb) (s:=s) (jd:=jd) (g:=g' - 3 - 8 - 1 - 3) (st:=R) (nx:=P+7+1+1) (pc:=P+7) (mem:=[]) (T:=T) (k:=1) (v:=r) (bt 9) (by omega) hss (by omega) (by omega);have s10:=sp (tb:=tb) (s:=s) (jd:=jd) (g:=g' - 3 - 8 - 1 - 3 - 200) (st:=R) (nx:=P+10) (pc:=P+7+1+1) (mem:=[]) (T:=yi T 1 9 1 r) (k:=1) (bt 10) q3 (by omega) hss (by omega) (by omega) (by omega);have s11:=sld (tb:=tb) (s:=s) (jd:=jd) (g:=g' - 3 - 8 - 1 - 3 - 200 - 3) (st:=R) (nx:=P+10+1+1) (pc:=P+10) (mem:=[]) (T:=yi T 1 9 1 r) (k:=1) (bt 12) (by omega) hss (by omega) (by omega);rw[zk8] at s11;have s12:=sp (tb:=tb) (s:=s) (jd:=jd) (g:=g' - 3 - 8 - 1 - 3 - 200 - 3 - 100) (st:=r::R) (nx:=P+13) (pc:=P+10+1+1) (mem:=[]) (T:=yi T 1 9 1 r) (k:=0) (bt 13) (q0 _) (by omega) hss (by omega) (by omega) (by simp;omega);have s13:=smst (tb:=tb) (s:=s) (jd:=jd) (g:=g' - 3 - 8 - 1 - 3 - 200 - 3 - 100 - 3) (st:=R) (nx:=P+13+1+0) (pc:=P+13) (T:=yi T 1 9 1 r) (v:=r) (bt 14) (by omega) hss (by omega);have s14:=sp (tb:=tb) (s:=s) (jd:=jd) (g:=g' - 3 - 8 - 1 - 3 - 200 - 3 - 100 - 3 - 6) (st:=R) (nx:=P+15) (pc:=P+13+1+0) (mem:=bys r 0) (T:=yi T 1 9 1 r) (k:=1) (bt 15) q4 (by omega) hss (by omega) (by omega) (by omega);have s15:=sp (tb:=tb) (s:=s) (jd:=jd) (g:=g' - 3 - 8 - 1 - 3 - 200 - 3 - 100 - 3 - 6 - 3) (st:=32::R) (nx:=P+15+1+1) (pc:=P+15) (mem:=bys r 0) (T:=yi T 1 9 1 r) (k:=0) (bt 17) (q0 _) (by omega) hss (by omega) (by omega) (by simp;omega);have s16:=sret (tb:=tb) (s:=s) (jd:=jd) (g:=g' - 3 - 8 - 1 - 3 - 200 - 3 - 100 - 3 - 6 - 3 - 3) (st:=R) (nx:=P+15+1+1+1+0) (pc:=P+15+1+1) (mem:=bys r 0) (T:=yi T 1 9 1 r) (bt 18) (by omega) hss (zfY r)
 rw[show g' - 3 - 8 - 1 - 3 - 200 - 3 - 100 - 3 - 6 - 3 - 3=g' - 333 by omega] at s15 s16;exact .step rfl s1 (.step rfl s2 (.step rfl s3 (.step rfl s4 (.step rfl s5 (.step rfl s6 (.step rfl s7 (.step rfl s8 (.step rfl s9 (.step rfl s10 (.step rfl s11 (.step rfl s12 (.step rfl s13 (.step rfl s14 (.step rfl s15 (.step rfl s16 (.done rfl))))))))))))))))
end
end cin
end Go.Proofs.YtohoajjdoihekaaGreatDoor
