import Derived.Test.YtohoajjdoihekaaGreatDoorQh
import Derived.Conc.RwLib
import Derived.Conc.MuData
import Derived.Conc.MuLone
import Derived.KernelRfl
import Derived.Lib.BufferWrite
import Derived.Lib.UnsafeStr
import Derived.Laws.MakeOwn
set_option linter.unusedVariables false
set_option linter.unusedSimpArgs false
namespace Go.Proofs.YtohoajjdoihekaaGreatDoor
namespace cin
open Go.RowKit Go.Proofs.Tryz Tryz
set_option maxRecDepth 100000
set_option maxHeartbeats 8000000
section
open Go.RowKit Go.Maps Go.Sort Go.Shelf
def acC (k bl:Nat) (cd:ByteArray) (sl:Value):List Value:=[.int .u64 (za k 0),.int .u64 (za k 1),.int .u64 (za k 2),.int .u64 (za k 3),.int .u64 (za bl 0),.int .u64 (za bl 1),.int .u64 (za bl 2),.int .u64 (za bl 3),.string cd,sl]
def acL (A:Nat->Acc):List Nat->List Value->List Value
 |k::r,sl::t=>acC k (A k).bal (A k).code sl++acL A r t
 |_,_=>[]
theorem ziW (A:Nat->Acc):∀(ts:List Nat) (sls:List Value),sls.length=ts.length->∀k sl,acL A (ts++[k]) (sls++[sl])=acL A ts sls++acC k (A k).bal (A k).code sl
 |[],[],_,k,sl=>by simp[acL]
 |[],_::_,h,_,_=>by cases h
 |_::_,[],h,_,_=>by cases h
 |a::r,b::t,h,k,sl=>by
  show acC a (A a).bal (A a).code b++acL A (r++[k]) (t++[sl])=acC a (A a).bal (A a).code b++acL A r t++_;rw[ziW A r t (by simpa using h),List.append_assoc]
theorem zma (k bl:Nat) (cd:ByteArray) (ad:Option Addr) (n c:Nat):∀u∈acC k bl cd (.slice ad n c),u.oneCell'=true:=by
 intro u hu;simp[acC] at hu;rcases hu with rfl|rfl|rfl|rfl|rfl|rfl|rfl|rfl|rfl|rfl<;>rfl
theorem zl8:(prog.info? 34).map (fun i=>(i.zero,i.size,i.bytes))=some (some (.agg #[.int .u64 0,.int .u64 0,.int .u64 0,.int .u64 0,.int .u64 0,.int .u64 0,.int .u64 0,.int .u64 0,.string ⟨#[]⟩,.slice none 0 0]),10,104):=by kernel_rfl
theorem tAc_Sl:(34:TypeId)≠54:=by decide
def SlV (base:Nat) (s:Nat->Nat):Kp:=fun p v x=>p≠0/\∃us:List Nat,us.length<=1000000000000/\SortedKeys (Zs s) us/\x.ownsRow base 54 8 v us.length (slC s us)
theorem SlV.below {base p:Nat} {s:Nat->Nat} {v:Value} {x x':World} (h:SlV base s p v x) (hb:Below x.heap.size x x'):SlV base s p v x':=by
 obtain⟨h1,us,h2,h3,h4⟩:=h;exact⟨h1,us,h2,h3,zj h4 hb⟩
theorem zfP {x x':World} {b1 b2 n1 n2:Nat} {v1 v2:Value} {xs ys:List Value} (h:x.ownsRow b1 54 8 v1 n1 xs) (k:x.ownsRow b2 34 10 v2 n2 ys) (hg:x.grownBy x' v2.ownBlock):x'.ownsRow b1 54 8 v1 n1 xs:=by
 refine⟨h.1,h.2.imp id ?_⟩;rintro⟨g,cap,cur,h1,h2,h3,h4⟩;refine⟨g,cap,cur,h1,h2,(hg.block g (Array.getElem?_eq_some_iff.1 h3).1 (fun e=> ?_)).trans h3,h4⟩;rcases k.2 with⟨e2,_⟩|⟨g2,cap2,cur2,e2,_,e3,_⟩
 ·rw[e2] at e;cases e
 ·rw[e2] at e;have e:some g=some g2:=e;obtain rfl:=Option.some.inj e;rw[h3] at e3;have:=(Obj.cells.inj (Option.some.inj e3)).2.1;exact tAc_Sl this.symm
theorem SlV.step {base p:Nat} {s:Nat->Nat} {v v2:Value} {x x':World} {b2 n2:Nat} {ys:List Value} (h:SlV base s p v x) (k:x.ownsRow b2 34 10 v2 n2 ys) (hg:x.grownBy x' v2.ownBlock):SlV base s (p+1) v x':=by
 obtain⟨h1,us,h2,h3,h4⟩:=h;exact⟨by omega,us,h2,h3,zfP h4 k hg⟩
def AcV (k bl:Nat) (cd:ByteArray) (S:Kp):Kp:=fun p v x=>∃ad n c,v=.agg #[.int .u64 (za k 0),.int .u64 (za k 1),.int .u64 (za k 2),.int .u64 (za k 3),.int .u64 (za bl 0),.int .u64 (za bl 1),.int .u64 (za bl 2),.int .u64 (za bl 3),.string cd,.slice ad n c]/\S p (.slice ad n c) x
theorem AcV.below {k bl base p:Nat} {cd:ByteArray} {s:Nat->Nat} {v:Value} {x x':World} (h:AcV k bl cd (SlV base s) p v x) (hb:Below x.heap.size x x'):AcV k bl cd (SlV base s) p v x':=by
 obtain⟨ad,n,c,e,h⟩:=h;exact⟨ad,n,c,e,h.below hb⟩
def OneA (k bl:Nat) (cd:ByteArray) (S:Kp):Kp:=fun p v x=>∃ad n c q,v=.slice (some ⟨q,0,none⟩) 1 1/\S p (.slice ad n c) x/\(p<=1->q<x.heap.size/\∀(j:Nat) u,(acC k bl cd (.slice ad n c))[j]? =some u->x.cell? ((⟨q,0,none⟩:Addr).add j)=some u)
theorem OneA.below {k bl base p:Nat} {cd:ByteArray} {s:Nat->Nat} {v:Value} {x x':World} (h:OneA k bl cd (SlV base s) p v x) (hb:Below x.heap.size x x'):OneA k bl cd (SlV base s) p v x':=by
 obtain⟨ad,n,c,q,e,h,h2⟩:=h;exact⟨ad,n,c,q,e,h.below hb,fun hp=>⟨Nat.lt_of_lt_of_le (h2 hp).1 hb.size,fun j u hu=>(hb.cell (by rw[zbW];exact(h2 hp).1)).trans ((h2 hp).2 j u hu)⟩⟩
def NewA (base n:Nat) (xs:List Value) (k bl:Nat) (cd:ByteArray) (S:Kp):Kp:=fun p v x=>2<=p/\∃sl,S p sl x/\x.ownsRow base 34 10 v n (xs++acC k bl cd sl)
theorem NewA.below {k bl base n p:Nat} {xs:List Value} {cd:ByteArray} {s:Nat->Nat} {v:Value} {x x':World} (h:NewA base n xs k bl cd (SlV base s) p v x) (hb:Below x.heap.size x x'):NewA base n xs k bl cd (SlV base s) p v x':=by
 obtain⟨h1,sl,h2,h3⟩:=h;exact⟨h1,sl,h2.below hb,zj h3 hb⟩
def PhA (wr:World) (ob:Option Nat):Nat->World->Prop
 |0,x=>Below wr.heap.size wr x
 |1,x=>Below wr.heap.size wr x
 |_,x=>∃y,Below wr.heap.size wr y/\y.grownBy x ob
theorem zlM {wr x:World} {ob:Option Nat} {k:Nat} (h:PhA wr ob k x) (hk:k<=0):Below wr.heap.size wr x:=by
 obtain rfl:k=0:=by omega
 exact h
theorem zdq {wr x:World} {ob:Option Nat} {k:Nat} (h:PhA wr ob k x) (hk:k<=1):Below wr.heap.size wr x:=by
 match k,hk,h with
 |0,_,h=>exact h
 |1,_,h=>exact h
theorem zgx {x y z:World} {ob:Option Nat} (h:x.grownBy y ob) (hb:Below y.heap.size y z):x.grownBy z ob:=⟨hb.os.trans h.os,hb.tape.trans h.tape,hb.output.trans h.output,Nat.le_trans h.size hb.size,fun k hk hne=>(hb.block k (Nat.lt_of_lt_of_le hk h.size)).trans (h.block k hk hne)⟩
theorem zlH {wr:World} {ob:Option Nat} (k:Nat) (x x':World) (h:PhA wr ob k x) (hb:Below x.heap.size x x'):PhA wr ob k x':=by
 match k,h with
 |0,h=>exact(show Below wr.heap.size wr x from h).trans (hb.mono (show Below wr.heap.size wr x from h).size)
 |1,h=>exact(show Below wr.heap.size wr x from h).trans (hb.mono (show Below wr.heap.size wr x from h).size)
 |_+2,⟨y,h1,h2⟩=>exact⟨y,h1,zgx h2 hb⟩
section
variable {wr x x':World} {base p i k bl:Nat} {cd:ByteArray} {s:Nat->Nat} {v v2:Value} {xs:List Value} {b2:Nat}
theorem zcW (hp:p<2) (hown:wr.ownsRow b2 34 10 v2 i xs) (hph:PhA wr v2.ownBlock p x) (hrel:p=1->x.grownBy x' v2.ownBlock) (h:SlV base s p v x):SlV base s (p+1) v x':=by
 have h1:=h.1;obtain rfl:p=1:=by omega
 exact h.step (zj hown hph) (hrel rfl)
theorem ziQ (hp:p<2) (hown:wr.ownsRow b2 34 10 v2 i xs) (hph:PhA wr v2.ownBlock p x) (hrel:p=1->x.grownBy x' v2.ownBlock) (h:AcV k bl cd (SlV base s) p v x):AcV k bl cd (SlV base s) (p+1) v x':=by
 obtain⟨ad,n,c,e,h⟩:=h;exact⟨ad,n,c,e,zcW hp hown hph hrel h⟩
theorem zj0 (hp:p<2) (hown:wr.ownsRow b2 34 10 v2 i xs) (hph:PhA wr v2.ownBlock p x) (hrel:p=1->x.grownBy x' v2.ownBlock) (h:OneA k bl cd (SlV base s) p v x):OneA k bl cd (SlV base s) (p+1) v x':=by
 obtain⟨ad,n,c,q,e,h,h2⟩:=h;have h1:=h.1;exact⟨ad,n,c,q,e,zcW hp hown hph hrel h,fun h9=>by omega⟩
end
section
variable {s:Act} {x:World} {pos:String} {af:Array Edge} {gd:Option (Nat×Bool)} {K:Act->World->Prop} {Q:Exit->Act->World->Prop}
theorem znH {t d b bl:Nat} {cd:ByteArray} {o:Option Nat} {ty:TypeId} (h:s.tmps.getD t undef=.pointer (some ⟨b,0,none⟩)) (q0:x.cell? ⟨b,0,none⟩=some (.int .u64 (za bl 0))) (q1:x.cell? ⟨b,0+1,none⟩=some (.int .u64 (za bl 1))) (q2:x.cell? ⟨b,0+2,none⟩=some (.int .u64 (za bl 2))) (q3:x.cell? ⟨b,0+3,none⟩=some (.int .u64 (za bl 3))) (q4:x.cell? ⟨b,4,none⟩=some (.string cd)) (q5:x.cell? ⟨b,5,none⟩=some (.map o)) (hK:K (s.put (some d) (Z2 bl cd (.map o))) x):
  Oper.wp prog ⟨some d,.load 95 (.tmp t),ty,pos,af,gd⟩ s x K Q:=by
 have f3:s.eval (.tmp t)=.pointer (some ⟨b,0,none⟩):=h;simp only[Nat.zero_add] at q1 q2 q3;go_simp;exact hK
theorem zdF {t1 t2 t3 t4 d k bl n c:Nat} {cd:ByteArray} {ad:Option Addr} {ty:TypeId} (h1:s.tmps.getD t1 undef=wv k) (h2:s.tmps.getD t2 undef=wv bl) (h3:s.tmps.getD t3 undef=.string cd) (h4:s.tmps.getD t4 undef=.slice ad n c) (hK:K (s.put (some d) (.agg #[.int .u64 (za k 0),.int .u64 (za k 1),.int .u64 (za k 2),.int .u64 (za k 3),.int .u64 (za bl 0),.int .u64 (za bl 1),.int .u64 (za bl 2),.int .u64 (za bl 3),.string cd,.slice ad n c])) x):
  Oper.wp prog ⟨some d,.build 34 #[(0,.tmp t1),(1,.tmp t2),(2,.tmp t3),(3,.tmp t4)],ty,pos,af,gd⟩ s x K Q:=by
 have e1:s.eval (.tmp t1)=.agg #[.int .u64 (za k 0),.int .u64 (za k 1),.int .u64 (za k 2),.int .u64 (za k 3)]:=h1;have e2:s.eval (.tmp t2)=.agg #[.int .u64 (za bl 0),.int .u64 (za bl 1),.int .u64 (za bl 2),.int .u64 (za bl 3)]:=h2;have e3:s.eval (.tmp t3)=.string cd:=h3;have e4:s.eval (.tmp t4)=.slice ad n c:=h4;have g1:s.tmps[t1]?.getD undef=.agg #[.int .u64 (za k 0),.int .u64 (za k 1),.int .u64 (za k 2),.int .u64 (za k 3)]:=by rw[<-Array.getD_eq_getD_getElem?];exact e1
 have g2:s.tmps[t2]?.getD undef=.agg #[.int .u64 (za bl 0),.int .u64 (za bl 1),.int .u64 (za bl 2),.int .u64 (za bl 3)]:=by rw[<-Array.getD_eq_getD_getElem?];exact e2
 have g3:s.tmps[t3]?.getD undef=.string cd:=by rw[<-Array.getD_eq_getD_getElem?];exact e3
 have g4:s.tmps[t4]?.getD undef=.slice ad n c:=by rw[<-Array.getD_eq_getD_getElem?];exact e4
 go_simp;exact hK
theorem zfD {t d k bl n c:Nat} {cd:ByteArray} {ad:Option Addr} {ty:TypeId} (he:s.tmps.getD t undef=.agg #[.int .u64 (za k 0),.int .u64 (za k 1),.int .u64 (za k 2),.int .u64 (za k 3),.int .u64 (za bl 0),.int .u64 (za bl 1),.int .u64 (za bl 2),.int .u64 (za bl 3),.string cd,.slice ad n c]) (hK:K (s.put (some d) (.slice (some ⟨x.heap.size,0,none⟩) 1 1)) (x.alloc (.cells #[.int .u64 (za k 0),.int .u64 (za k 1),.int .u64 (za k 2),.int .u64 (za k 3),.int .u64 (za bl 0),.int .u64 (za bl 1),.int .u64 (za bl 2),.int .u64 (za bl 3),.string cd,.slice ad n c] 34))):
  Oper.wp prog ⟨some d,.buildSlice 35 1 #[(0,.tmp t)],ty,pos,af,gd⟩ s x K Q:=by
 have he2:s.eval (.tmp t)=.agg #[.int .u64 (za k 0),.int .u64 (za k 1),.int .u64 (za k 2),.int .u64 (za k 3),.int .u64 (za bl 0),.int .u64 (za bl 1),.int .u64 (za bl 2),.int .u64 (za bl 3),.string cd,.slice ad n c]:=he;have he3:s.tmps[t]?.getD undef=.agg #[.int .u64 (za k 0),.int .u64 (za k 1),.int .u64 (za k 2),.int .u64 (za k 3),.int .u64 (za bl 0),.int .u64 (za bl 1),.int .u64 (za bl 2),.int .u64 (za bl 3),.string cd,.slice ad n c]:=by rw[<-Array.getD_eq_getD_getElem?];exact he
 go_simp;exact hK
end
def SlAll (base:Nat) (A:Nat->Acc) (ts:List Nat) (sls:List Value) (w:World):Prop:=∀(i:Nat) k sl,ts[i]? =some k->sls[i]? =some sl->∃us:List Nat,us.length<=1000000000000/\SortedKeys (Zs (A k).slots) us/\w.ownsRow base 54 8 sl us.length (slC (A k).slots us)
structure Told (base:Nat) (A:Nat->Acc) (ts:List Nat) (v:Value) (sls:List Value) (w:World):Prop where
 len:sls.length=ts.length
 own:w.ownsRow base 34 10 v ts.length (acL A ts sls)
 sl:SlAll base A ts sls w
def zbS (A:Nat->Acc) (ts:List Nat):Prop:=ts.Pairwise (·<·)/\∀m,m∈ts↔m<M/\¬(A m).no
theorem zpb {ab n:Nat} {A:Nat->Acc} {sb:Nat->Value} (w:World) (h:Accs ab n A sb w) (hn:n<=1000000000000):
  Calls prog 48 #[.map (some ab)] w fun e w'=>∃(v:Value) (ts:List Nat) (sls:List Value),e=.returned v/\ts.length<=n/\zbS A ts/\Told w.heap.size A ts v sls w'/\Below w.heap.size w w':=by
 have eg:∀args w,(callFunc 136 args).run prog w=.ok (.enter 136 args) w:=enters_of func136 (by kernel_rfl) rfl;obtain⟨f,hf,hf'⟩:=h.map;have hB2:Below w.heap.size w (w.alloc (.cells #[.map (some ab)] 89)):=bal (Below.refl _ w) _;have HK:=zb (keys_a (some ab) w)
 have hseq:SeqGives FA 3 prog 136 #[.pointer (some ⟨w.heap.size,0,none⟩)] wv (zci f) n (w.alloc (.cells #[.map (some ab)] 89)):=
  gives_a 3 (by omega) _ ab n _ _ (by simp) (by simp[go_sem]) (hf.kb (Kb.of_below (S:=[]) hB2) (by simp))
 have HS:=zb (zdB 5 (by omega) _ _ eg f n hn _ hseq);have HH:=zb h;have HF:=zb (And.intro hf hf');clear hseq h hf hf';go_enter func48,ntmps48;go_wp2_with fail
 refine HK.out.mono ?_;rintro e w2 ⟨rfl,rfl⟩;generalize w.alloc (.cells #[.map (some ab)] 89)=w2 at*;clear HK;go_wp2_with fail
 refine HS.out.mono ?_;rintro e w3 ⟨v,ts,rfl,hlen,hts,hrow,hb3⟩;obtain⟨adv,cpv,rfl⟩:=zS hrow;have HX:=zb (And.intro hts (And.intro hrow hb3));have hB3:Below w.heap.size w w3:=hB2.trans (hb3.mono hB2.size);clear HS hrow hts hB2 hb3;obtain⟨L,HLL⟩:∃L,Hid (L=ts.length):=⟨_,rfl⟩;rw[<-HLL.out] at hlen⊢;go_wp2
 go_loopw [3,11] (fun t3 t11 wr=>∃(i:Nat) (ad:Option Addr) (cp:Nat) (sls:List Value),i<=L/\t11=.int .i64 (i:Int)/\t3=.slice ad i cp/\Hid (Told w3.heap.size A (ts.take i) (.slice ad i cp) sls wr/\Below w3.heap.size w3 wr)) (fun _ t11 _=>L - (RowKit.intOf t11).toNat)
 case atStart=>
  refine⟨0,none,0,[],Nat.zero_le _,rfl,rfl,⟨⟨by simp, ?_,fun i k sl h1=>by simp at h1⟩,Below.refl _ _⟩⟩;simp only[List.take_zero];exact World.ownsRow_nil _ _ _ _
 case round=>
  obtain⟨i,ad,cp,sls,hi,rfl,rfl,HR⟩:=hrel;by_cases hlt:i<L
  ·have hd:decide ((i:Int)<(L:Int))=true:=decide_eq_true (by omega);obtain⟨hts,hrow,hb3⟩:=HX.out;have hil:i<ts.length:=by rw[<-HLL.out];exact hlt
   obtain⟨kb,cap,he,hkb⟩:=zfF hrow (by omega);obtain⟨rfl,rfl⟩:adv=some ⟨kb,0,none⟩/\cpv=cap:=by injection he with h1 h2 h3;exact⟨h1,h3⟩
   have hkl3:kb<w3.heap.size:=(hrow.lt kb rfl).2;obtain⟨c0,c1,c2,c3⟩:=zi0 hrow i hil;obtain⟨k9,HK9⟩:∃k9:Nat,Hid (k9=ts[i]):=⟨ts[i],zb rfl⟩;rw[<-HK9.out] at c0 c1 c2 c3;have c0:=(HR.out.2.cell (p:=⟨kb,i*4,none⟩) hkl3).trans c0;have c1:=(HR.out.2.cell (p:=⟨kb,i*4+1,none⟩) hkl3).trans c1;have c2:=(HR.out.2.cell (p:=⟨kb,i*4+2,none⟩) hkl3).trans c2;have c3:=(HR.out.2.cell (p:=⟨kb,i*4+3,none⟩) hkl3).trans c3;have hBwr:Below w.heap.size w wr:=hB3.trans (HR.out.2.mono hB3.size);have hAr:=HH.out.kb (Kb.of_below (S:=[]) hBwr) (by simp);obtain⟨sv,e1,e3,e4,e5⟩:=hAr.read k9 HF.out.2;obtain⟨o9,rfl⟩:=e3.is;have hBk:Below wr.heap.size wr (wr.alloc (.cells #[.int .u64 (za k9 0),.int .u64 (za k9 1),.int .u64 (za k9 2),.int .u64 (za k9 3)] 24)):=bal (Below.refl _ wr) _;obtain⟨bl9,HBL⟩:∃bl9,Hid (bl9=(A k9).bal):=⟨_,rfl⟩;obtain⟨cd9,HCD⟩:∃cd9,Hid (cd9=(A k9).code):=⟨_,rfl⟩
   have hlk:(Instr.lookup 89 (.map (some ab)) (.agg #[.int .u64 (za k9 0),.int .u64 (za k9 1),.int .u64 (za k9 2),.int .u64 (za k9 3)]) false).run prog (wr.alloc (.cells #[.int .u64 (za k9 0),.int .u64 (za k9 1),.int .u64 (za k9 2),.int .u64 (za k9 3)] 24))=.ok (.agg #[.int .u64 (za bl9 0),.int .u64 (za bl9 1),.int .u64 (za bl9 2),.int .u64 (za bl9 3),.string cd9,.map o9]) (wr.alloc (.cells #[.int .u64 (za k9 0),.int .u64 (za k9 1),.int .u64 (za k9 2),.int .u64 (za k9 3)] 24)):=by
    have:=((HF.out.1.kb (Kb.of_below (S:=[]) hBwr) (by simp)).kb (Kb.of_below (S:=[]) hBk) (by simp)).look YA Yj k9;rw[e1,<-HBL.out,<-HCD.out] at this;exact this
   have HSO:=zb e3;clear hrow hts hb3 he e1 e3 e4 e5 hAr;go_wp2;obtain⟨wr9,HW9⟩:∃wr9,Hid (wr9=(wr.alloc (.cells #[.int .u64 (za k9 0),.int .u64 (za k9 1),.int .u64 (za k9 2),.int .u64 (za k9 3)] 24)).alloc (.cells #[.int .u64 (za bl9 0),.int .u64 (za bl9 1),.int .u64 (za bl9 2),.int .u64 (za bl9 3),.string cd9,.map o9] 95)):=⟨_,rfl⟩;rw[<-HW9.out];have hBw:Below wr.heap.size wr wr9:=by rw[HW9.out];exact bal (bal (Below.refl _ wr) _) _
   obtain⟨kb9,HKB⟩:∃kb9,Hid (kb9=wr.heap.size):=⟨_,rfl⟩;obtain⟨ab9,HAB⟩:∃ab9,Hid (ab9=wr.heap.size+1):=⟨_,rfl⟩
   have hkc:wr9.cell? ⟨kb9,0,none⟩=some (.int .u64 (za k9 0))/\wr9.cell? ⟨kb9,0+1,none⟩=some (.int .u64 (za k9 1))/\wr9.cell? ⟨kb9,0+2,none⟩=some (.int .u64 (za k9 2))/\wr9.cell? ⟨kb9,0+3,none⟩=some (.int .u64 (za k9 3)):=by
    rw[HW9.out,HKB.out];refine⟨?_, ?_, ?_, ?_⟩<;>simp[go_sem]
   have hbc:wr9.cell? ⟨ab9,0,none⟩=some (.int .u64 (za bl9 0))/\wr9.cell? ⟨ab9,0+1,none⟩=some (.int .u64 (za bl9 1))/\wr9.cell? ⟨ab9,0+2,none⟩=some (.int .u64 (za bl9 2))/\wr9.cell? ⟨ab9,0+3,none⟩=some (.int .u64 (za bl9 3)):=by
    rw[HW9.out,HAB.out];refine⟨?_, ?_, ?_, ?_⟩<;>simp[go_sem]
   have hcc:wr9.cell? ⟨ab9,4,none⟩=some (.string cd9):=by
    rw[HW9.out,HAB.out];simp[go_sem]
   have hsc:wr9.cell? ⟨ab9,5,none⟩=some (.map o9):=by
    rw[HW9.out,HAB.out];simp[go_sem]
   have hkl:kb9<wr9.heap.size:=by rw[HW9.out,HKB.out];simp;omega
   have hal:ab9<wr9.heap.size:=by rw[HW9.out,HAB.out];simp
   rw[<-HAB.out,<-HKB.out];have hb39:Below w3.heap.size w3 wr9:=HR.out.2.trans (hBw.mono HR.out.2.size);have hown9':=zj HR.out.1.own hBw;have htl:(ts.take i).length=i:=by rw[List.length_take];omega
   rw[htl] at hown9';obtain⟨xs9,HXS⟩:∃xs9,Hid (xs9=acL A (ts.take i) sls):=⟨_,rfl⟩;have hown9:wr9.ownsRow w3.heap.size 34 10 (.slice ad i cp) i xs9:=by rw[HXS.out];exact hown9'
   have hBww:Below w.heap.size w wr9:=hBwr.trans (hBw.mono hBwr.size);obtain⟨s9s,HSS⟩:∃s9s,Hid (s9s=(A k9).slots):=⟨_,rfl⟩
   have HSLO:Hid (∀x,Below wr9.heap.size wr9 x->Calls prog 76 #[Z2 bl9 cd9 (.map o9)] x fun e w'=>∃(v:Value) (ts:List Nat),e=.returned v/\ts.length<=1000000000000/\SortedKeys (Zs s9s) ts/\w'.ownsRow x.heap.size 54 8 v ts.length (slC s9s ts)/\Below x.heap.size x w'):=fun x hx=>by
    have hBx:=hBw.trans (hx.mono hBw.size);have hs:=HSO.out.kb (Kb.of_below (S:=[]) hBx) (by simp) (Nat.le_refl _);rw[<-HSS.out] at hs;refine(zhr x hs hn).mono ?_;rintro e w' ⟨v,ts,h1,h2,h3,h4,h5⟩;exact⟨v,ts,h1,by omega,h3,h4,h5⟩
   clear c0 c1 c2 c3 hlk hown9'
   refine zt (PhA wr9 (Value.slice ad i cp).ownBlock) (fun p x x'=>p=1->x.grownBy x' (Value.slice ad i cp).ownBlock) [(3,(.slice ad i cp)),(5,(.pointer (some ⟨kb9,0,none⟩))),(6,(.pointer (some ⟨ab9,0,none⟩)))] [(some 18,.v (.slice ad i cp)),(some 19,.v (wv k9)),(some 20,.v (.pointer (some ⟨ab9,0,none⟩))),(some 21,.v (wv bl9)),(some 22,.v (.pointer (some ⟨ab9,4,none⟩))),(some 23,.v (.string cd9)),(some 24,.v (Z2 bl9 cd9 (.map o9))),(some 25,.l (SlV w3.heap.size s9s)),(some 26,.l (AcV k9 bl9 cd9 (SlV w3.heap.size s9s))),(some 27,.l (OneA k9 bl9 cd9 (SlV w3.heap.size s9s))),(some 28,.l (NewA w3.heap.size (i+1) xs9 k9 bl9 cd9 (SlV w3.heap.size s9s))),(some 3,.l (NewA w3.heap.size (i+1) xs9 k9 bl9 cd9 (SlV w3.heap.size s9s)))] [7,10] [1,3,5,6,8,9,11] (by kernel_rfl) (by rfl) (by rfl) (by kernel_rfl) ((Below.refl _ _).drew) (zlH)
     (zf _ _ _ rfl rfl
     (fun s9 x hph hdf hv hl K hK=>by
      have hx:Below wr9.heap.size wr9 x:=hph;refine zZ (Post:=fun e w'=>∃(v:Value) (ts:List Nat),e=.returned v/\ts.length<=1000000000000/\SortedKeys (Zs s9s) ts/\w'.ownsRow x.heap.size 54 8 v ts.length (slC s9s ts)/\Below x.heap.size x w') hv (HSLO.out x hx) (by kernel_rfl) (fun v x' h=> ?_) (fun l x' h=>by obtain⟨_,_,h,_⟩:=h;cases h) (fun x' h=>by obtain⟨_,_,h,_⟩:=h;cases h);obtain⟨v',us,h1,h2,h3,h4,h5⟩:=h;obtain rfl:=Ending.returned.inj h1;exact hK _ x' (hx.trans (h5.mono hx.size)) (fun h=>absurd h (by omega)) nn1 ⟨by omega,us,h2,h3,zdx h4 (Nat.le_trans hb39.size hx.size)⟩)
     (zf _ _ _ rfl rfl
     (fun s9 x hph hdf hv hl K hK=>by
      have hx:Below wr9.heap.size wr9 x:=hph;obtain⟨ad5,n5,c5,q,e1,e2,e3⟩:=hl 27 _ rfl;obtain⟨hq,hcells⟩:=e3 (by omega);obtain⟨i0,hi0,hz0,hz1,hz2⟩:=info_parts zl8;refine zaS w3.heap.size 34 i0 _ 10 104 (by kernel_rfl) hi0 hz0 hz1 hz2 rfl (by decide) (.slice ad i cp) i xs9 (hv 18 _ rfl) (zj hown9 hx) ⟨q,0,none⟩ 1 1 (acC k9 bl9 cd9 (.slice ad5 n5 c5)) e1 rfl hcells (zma k9 bl9 cd9 ad5 n5 c5) (by unfold maxLen;omega) (by omega) (by have:=hb39.size;have:=hx.size;omega) ?_;intro v' y ho hgr hfr;exact hK v' y ⟨x,hx,hgr⟩ (fun _=>hgr) nn1 ⟨by omega,.slice ad5 n5 c5,e2.step (zj hown9 hx) hgr,ho⟩)
     True.intro))
     (zf _ _ _ rfl rfl
     (fun k s9 x hk hlo hhi hph hdf hv hl K hK=>by
      have hx:Below wr9.heap.size wr9 x:=zdq hph (by have:=hhi 1 10 rfl (by kernel_rfl);omega);obtain⟨q0,q1,q2,q3⟩:=hkc;exact zD (n:=k9) (hv 5 _ rfl) ((hx.cell hkl).trans q0) ((hx.cell hkl).trans q1) ((hx.cell hkl).trans q2) ((hx.cell hkl).trans q3) (hK _ x (Below.refl _ _) nn1 rfl))
     (zf _ _ _ rfl rfl
     (fun k s9 x hk hlo hhi hph hdf hv hl K hK=>by
      have hx:Below wr9.heap.size wr9 x:=zdq hph (by have:=hhi 1 10 rfl (by kernel_rfl);omega);obtain⟨q0,q1,q2,q3⟩:=hbc;exact zD (n:=bl9) (hv 20 _ rfl) ((hx.cell hal).trans q0) ((hx.cell hal).trans q1) ((hx.cell hal).trans q2) ((hx.cell hal).trans q3) (hK _ x (Below.refl _ _) nn1 rfl))
     (zf _ _ _ rfl rfl
     (fun k s9 x hk hlo hhi hph hdf hv hl K hK=>by
      have hx:Below wr9.heap.size wr9 x:=zdq hph (by have:=hhi 1 10 rfl (by kernel_rfl);omega);exact zv (v:=.string cd9) (fun w=>by kernel_rfl) (hv 22 _ rfl) ((hx.cell hal).trans hcc) (hK _ x (Below.refl _ _) nn1 rfl))
     (zf _ _ _ rfl rfl
     (fun k s9 x hk hlo hhi hph hdf hv hl K hK=>by
      have hx:Below wr9.heap.size wr9 x:=zlM hph (hhi 0 7 rfl (by kernel_rfl));obtain⟨q0,q1,q2,q3⟩:=hbc;exact znH (hv 6 _ rfl) ((hx.cell hal).trans q0) ((hx.cell hal).trans q1) ((hx.cell hal).trans q2) ((hx.cell hal).trans q3) ((hx.cell hal).trans hcc) ((hx.cell hal).trans hsc) (hK _ x (Below.refl _ _) nn1 rfl))
     (zf _ _ _ rfl rfl
     (fun k s9 x hk hlo hhi hph hdf hv hl K hK=>by
      obtain⟨hp,us,h1,h2,h3⟩:=hl 25 _ rfl;obtain⟨ad5,cp5,e5⟩:=zS h3;exact zdF (hv 19 _ rfl) (hv 21 _ rfl) (hv 23 _ rfl) e5 (hK _ x (Below.refl _ _) nn1 ⟨_,_,_,rfl,hp,us,h1,h2,e5▸h3⟩))
     (zf _ _ _ rfl rfl
     (fun k s9 x hk hlo hhi hph hdf hv hl K hK=>by
      obtain⟨ad5,n5,c5,e1,e2⟩:=hl 26 _ rfl;refine zfD e1 (hK _ _ (bal (Below.refl _ x) _) nn1 ⟨ad5,n5,c5,x.heap.size,rfl,e2.below (bal (Below.refl _ x) _),fun _=>⟨by simp,zV x #[.int .u64 (za k9 0),.int .u64 (za k9 1),.int .u64 (za k9 2),.int .u64 (za k9 3),.int .u64 (za bl9 0),.int .u64 (za bl9 1),.int .u64 (za bl9 2),.int .u64 (za bl9 3),.string cd9,.slice ad5 n5 c5] 34⟩⟩))
     (zf _ _ _ rfl rfl
     (fun k s9 x hk hlo hhi hph hdf hv hl K hK=>by
      exact zdQ 28 3 _ rfl (hK _ x (Below.refl _ _) nn1 (hl 28 _ rfl)))
     True.intro)))))))
     (fun i9 d T' he p v x x' hne hp hph hrel hT=>by
      rcases zmN (show i9<12 from(List.getElem?_eq_some_iff.1 he).1) with rfl|rfl|rfl|rfl|rfl|rfl|rfl|rfl|rfl|rfl|rfl|rfl
      all_goals first
       |(cases he;done)
       |(obtain rfl:=Sum.inr.inj (Prod.mk.inj (Option.some.inj he)).2;exact zcW (show p<2 from hp) hown9 hph hrel hT)
       |(obtain rfl:=Sum.inr.inj (Prod.mk.inj (Option.some.inj he)).2;exact ziQ (show p<2 from hp) hown9 hph hrel hT)
       |(obtain rfl:=Sum.inr.inj (Prod.mk.inj (Option.some.inj he)).2;exact zj0 (show p<2 from hp) hown9 hph hrel hT)
       |(obtain rfl:=Sum.inr.inj (Prod.mk.inj (Option.some.inj he)).2;exact absurd (show p<2 from hp) (by have:=hT.1;omega))) (fun i9 d T' he p v x x' hph hb hT=>by
      rcases zmN (show i9<12 from(List.getElem?_eq_some_iff.1 he).1) with rfl|rfl|rfl|rfl|rfl|rfl|rfl|rfl|rfl|rfl|rfl|rfl
      all_goals first
       |(cases he;done)
       |(obtain rfl:=Sum.inr.inj (Prod.mk.inj (Option.some.inj he)).2;first|exact SlV.below hT hb|exact AcV.below hT hb|exact OneA.below hT hb|exact NewA.below hT hb)) ?_
   intro gg z hz hgv;obtain⟨-,sl,⟨-,us,hu1,hu2,hu3⟩,hown2⟩:NewA w3.heap.size (i+1) xs9 k9 bl9 cd9 (SlV w3.heap.size s9s) 2 (gg 11) z:=hgv 11 _ _ rfl;obtain⟨y,hy1,hy2⟩:∃y,Below wr9.heap.size wr9 y/\y.grownBy z (Value.slice ad i cp).ownBlock:=hz;obtain⟨ad2,cp2,e9⟩:=zS hown2
   have HSL:Hid (Told w3.heap.size A (ts.take (i+1)) (.slice ad2 (i+1) cp2) (sls++[sl]) z/\Below w3.heap.size w3 z):=by
    have hll:sls.length=i:=by rw[HR.out.1.len,htl]
    have e1:ts.take (i+1)=ts.take i++[k9]:=by rw[List.take_add_one,List.getElem?_eq_getElem hil,<-HK9.out];rfl
    have hby:Below w3.heap.size w3 y:=hb39.trans (hy1.mono hb39.size);refine⟨⟨?_, ?_,fun j k sl' h1 h2=> ?_⟩,hby.grown hy2 hby.size (fun k hk=>(hown9.lt k hk).1)⟩
    ·rw[e1,List.length_append,List.length_append,hll,htl];rfl
    ·rw[e9] at hown2;rw[e1,ziW A _ _ (by rw[hll,htl]),List.length_append,htl,<-HBL.out,<-HCD.out,<-HXS.out];exact hown2
    ·rw[e1] at h1;by_cases hj:j<i
     ·rw[List.getElem?_append_left (by rw[htl];exact hj)] at h1;rw[List.getElem?_append_left (by rw[hll];exact hj)] at h2;obtain⟨us',g1,g2,g3⟩:=HR.out.1.sl j k sl' h1 h2;exact⟨us',g1,g2,zfP (zj (zj g3 hBw) hy1) (zj hown9 hy1) hy2⟩
     ·rw[List.getElem?_append_right (by rw[htl];omega),htl] at h1;rw[List.getElem?_append_right (by rw[hll];omega),hll] at h2
      have hz0:j - i=0:=by
       have:=(List.getElem?_eq_some_iff.1 h1).1;simp at this;omega
      rw[hz0] at h1 h2;obtain rfl:k9=k:=by simpa using h1
      obtain rfl:sl=sl':=by simpa using h2
      rw[HSS.out] at hu2 hu3;exact⟨us,hu1,hu2,hu3⟩
   clear hown2 hy1 hy2 hgv hBww hal hown9 hb39 hkl hkc hBw hbc hcc hsc hu1 hu2 hu3 HSLO;simp only[yx,yB,yA,Zj,zF,List.foldl_cons,List.foldl_nil,Act.put];simp only[sx9];rw[e9];go_wp2
   go_roundw
   case rel=>exact⟨i+1,ad2,cp2,sls++[sl],by omega,by go_num,rfl,HSL⟩
   case measure=>simp[RowKit.intOf];omega
  ·obtain rfl:i=L:=by omega
   have hd:decide ((i:Int)<(i:Int))=false:=decide_eq_false (by omega);obtain⟨hts,hrow,hb3⟩:=HX.out
   have HE:Hid (∃(v:Value) (ts:List Nat) (sls:List Value),Ending.returned (.slice ad i cp)=.returned v/\ts.length<=n/\zbS A ts/\Told w.heap.size A ts v sls wr/\Below w.heap.size w wr):=by
    obtain⟨ht,hbr⟩:=HR.out;rw[HLL.out,List.take_length] at ht;refine⟨_,ts,sls,rfl,by rw[<-HLL.out];exact hlen,⟨hts.1,fun m=> ?_⟩,⟨ht.len, ?_,fun j k sl h1 h2=> ?_⟩,hB3.trans (hbr.mono hB3.size)⟩
    ·rw[hts.2 m];refine and_congr_right fun _=> ?_
     obtain⟨g1,g2⟩:=HF.out.2 m;by_cases hno:(A m).no
     ·rw[g1 hno];simp[hno]
     ·rw[g2 hno];simp[hno]
    ·rw[HLL.out];exact zdx ht.own hB3.size
    ·obtain⟨us,q1,q2,q3⟩:=ht.sl j k sl h1 h2;exact⟨us,q1,q2,zdx q3 hB3.size⟩
   clear hts hrow hb3 HR HX;go_wp2;go_ret;exact HE.out
end
section
open Go.Maps
abbrev muLink:Go.Conc.Locks.MuLink:={lock:=31,unlock:=32,ilock:=57,iunlock:=58,lockSlow:=87,unlockSlow:=90,disable:=83,enable:=85,acquire:=86,relMerge:=88,cas32:=84,add32:=89,tMutex:=87,tIMutex:=85,tPMutex:=126,tPIMutex:=176,tPI32:=178,tUP:=180,tNoCopy:=82,tU32:=83}
theorem zjo:Go.Conc.Locks.MuLib prog muLink:=
 ⟨func31,func32,func57,func58,func83,func85,func86,func88,func84,func89,underlying85,runUnderlying85,sizeOf85,isAgg85,zeroValue85,underlying87,runUnderlying87,sizeOf87,isAgg87,zeroValue87,underlying126,runUnderlying126,sizeOf126,isAgg126,zeroValue126,underlying176,runUnderlying176,sizeOf176,isAgg176,zeroValue176,underlying178,runUnderlying178,sizeOf178,isAgg178,zeroValue178,underlying180,runUnderlying180,sizeOf180,isAgg180,zeroValue180,underlying82,runUnderlying82,sizeOf82,isAgg82,zeroValue82,underlying21,runUnderlying21,sizeOf21,isAgg21,zeroValue21,(by kernel_rfl)⟩
end
section
open Go.Maps
def T0 (A:Nat->Acc):TS:={acc:=A,pas:=fun _ _=>0,ch:=[],logs:=[]}
def V0 (ab pb n:Nat) (sb:Nat->Value):TV:={ab:=ab,pb:=pb,n:=n,sb:=sb,cv:=.slice none 0 0,lv:=.slice none 0 0,tv:=[]}
abbrev nt2 (w:World) (ab:Nat):World:=(w.alloc (.map #[] 0)).alloc (.cells #[.map (some ab),.map (some w.heap.size),.slice none 0 0,.slice none 0 0] 131)
theorem ziX {ab n:Nat} {A:Nat->Acc} {sb:Nat->Value} {w:World} (h:Accs ab n A sb w) (hz:Zr w):Tr w.heap.size (w.heap.size+1) (T0 A) (V0 ab w.heap.size n sb) (nt2 w ab):=by
 have hB:Below w.heap.size w (nt2 w ab):=bal (bal (Below.refl _ w) _) _;have hs:(w.alloc (.map #[] 0)).heap.size=w.heap.size+1:=by simp
 refine⟨?_,h.kb (Kb.of_below (S:=[]) hB) (by simp), ?_,World.ownsRow_nil _ _ _ _,⟨rfl,World.ownsRow_nil _ _ _ _,fun i l t hl=>by simp[T0] at hl⟩,hz.below hB,hB.size,hz.2,fun hf=> ?_⟩
 ·have hr:=World.rowIs_alloc (w.alloc (.map #[] 0)) #[.map (some ab),.map (some w.heap.size),.slice none 0 0,.slice none 0 0] 131 (trC (V0 ab w.heap.size n sb)) (fun i hi=>by
   have hi:i<4:=hi;rcases k4 hi with rfl|rfl|rfl|rfl<;>rfl)
  rw[hs] at hr;exact hr
 ·refine PM.mono (n:=0) ⟨fun _=>none, ?_,fun a k=>rfl⟩ (Nat.zero_le _);refine(MapV.made prog 217 w).block ?_;have:=(bal (Below.refl _ (w.alloc (.map #[] 0))) (.cells #[.map (some ab),.map (some w.heap.size),.slice none 0 0,.slice none 0 0] 131)).block w.heap.size (by simp);exact this
 ·have:=h.lt hf;exact absurd this (by show¬w.heap.size<_;omega)
theorem zh5 {ab n:Nat} {A:Nat->Acc} {sb:Nat->Value} (w:World) (h:Accs ab n A sb w) (hz:Zr w):
  Calls prog 34 #[.map (some ab)] w fun e w'=>e=.returned (.pointer (some ⟨w.heap.size+1,0,none⟩))/\Below w.heap.size w w'/\Tr w.heap.size (w.heap.size+1) (T0 A) (V0 ab w.heap.size n sb) w':=by
 have HT:=zb (ziX h hz);have hmm:=@run_makeMap prog;clear h hz;go_enter func34,ntmps34;go_wp2;refine bodyPost_ret (v:=.pointer (some ⟨w.heap.size+1,0,none⟩)) (by simp[results,results34,go_sem]) rfl ⟨rfl,bal (bal (Below.refl _ w) _) _,HT.out⟩
theorem zim (fr tt val gas:Nat) (data:ByteArray) (hd:data.size<=500) (hg:gas<=100000) (w:World):
  Calls prog 30 #[zjX fr tt val data gas] w fun e w'=>e=.returned (.bool true)/\Below w.heap.size w w':=by
 have d1:decide ((data.size:Int)<=500)=true:=decide_eq_true (by omega);have d2:decide ((0:Int)<=(gas:Int))=true:=decide_eq_true (by omega);have d3:decide ((gas:Int)<=100000)=true:=decide_eq_true (by omega);go_enter func30,ntmps30;go_wp2;refine bodyPost_ret (v:=.bool true) (by simp[results,results30,go_sem]) rfl ⟨rfl,bal (Below.refl _ w) _⟩
end
section
open Go.Maps
theorem ziC:Own 33:=fun _ _=>by kernel_rfl
theorem MsgAt.cells {x:World} {b fr tt val gs:Nat} {data:ByteArray} (h:MsgAt x b fr tt val data gs):x.cell? ⟨b,0,none⟩=some (.int .u64 (za fr 0))/\x.cell? ⟨b,1,none⟩=some (.int .u64 (za fr 1))/\x.cell? ⟨b,2,none⟩=some (.int .u64 (za fr 2))/\x.cell? ⟨b,3,none⟩=some (.int .u64 (za fr 3))/\x.cell? ⟨b,4,none⟩=some (.int .u64 (za tt 0))/\x.cell? ⟨b,5,none⟩=some (.int .u64 (za tt 1))/\x.cell? ⟨b,6,none⟩=some (.int .u64 (za tt 2))/\x.cell? ⟨b,7,none⟩=some (.int .u64 (za tt 3))/\x.cell? ⟨b,8,none⟩=some (.int .u64 (za val 0))/\x.cell? ⟨b,9,none⟩=some (.int .u64 (za val 1))/\x.cell? ⟨b,10,none⟩=some (.int .u64 (za val 2))/\x.cell? ⟨b,11,none⟩=some (.int .u64 (za val 3))/\x.cell? ⟨b,12,none⟩=some (.string data)/\x.cell? ⟨b,13,none⟩=some (.int .i64 (gs:Int)):=by
 refine⟨h.cell (i:=0) (by decide),h.cell (i:=1) (by decide),h.cell (i:=2) (by decide),h.cell (i:=3) (by decide),h.cell (i:=4) (by decide),h.cell (i:=5) (by decide),h.cell (i:=6) (by decide),h.cell (i:=7) (by decide),h.cell (i:=8) (by decide),h.cell (i:=9) (by decide),h.cell (i:=10) (by decide),h.cell (i:=11) (by decide),h.cell (i:=12) (by decide),h.cell (i:=13) (by decide)⟩
def TrK (A:Nat->Acc) (ab n:Nat) (sb:Nat->Value) (w:World):Kp:=fun p v x=>∃tb pb base,v=.pointer (some ⟨tb,0,none⟩)/\(p=1->Tr base tb (T0 A) (V0 ab pb n sb) x/\tb=base+1/\pb=base/\w.heap.size<=base)
def PhZ (R:World->Prop) (b st rg:Nat) (out:ByteArray) (w:World):Nat->World->Prop
 |0,x=>Below w.heap.size w x
 |1,x=>Below w.heap.size w x
 |2,x=>R x
 |_,x=>∃y,R y/\x=yv y b st rg out noL
theorem send_r5 {gb mb ab bl fr tt val gs:Nat} {o:Option Nat} {code data:ByteArray} {Q:Exit->Act->World->Prop} (a:Act) (w:World) (hlt:gb<w.heap.size) (hab:w.cell? ⟨gb,2,none⟩=some (.map (some ab))) (hm:MsgAt w mb fr tt val data gs) (hlook:∀x,Below w.heap.size w x->(Instr.lookup 89 (.map (some ab)) (wv fr) false).run prog x=.ok (Z2 bl code (.map o)) x) (h0:Below w.heap.size w w.drew) (hsz:([17,18,19,20,21,22,23,24,25,26,27,28]:List Nat).all (fun d=>decide (d<a.tmps.size))=true) (c0:a.tmps.getD 0 undef=.pointer (some ⟨gb,0,none⟩)) (c3:a.tmps.getD 3 undef=.pointer (some ⟨mb,0,none⟩))
  (hok:∀(x:World),(PhO (fun x=>Below w.heap.size w x) w) 1 x->Q .normal (zF a [(17,.pointer (some ⟨gb,0,none⟩)),(18,.pointer (some ⟨gb,0,none⟩)),(19,.pointer (some ⟨gb,2,none⟩)),(20,.map (some ab)),(21,.pointer (some ⟨mb,0,none⟩)),(22,wv fr),(23,Z2 bl code (.map o)),(24,wv bl),(25,.pointer (some ⟨mb,8,none⟩)),(26,wv val),(27,.int .i64 (Z7 bl val)),(28,.bool (decide (Z7 bl val<0)))]) x):
  (Code.region 5 #[⟨some 17,.move (.tmp 0),29,"host.go:31",#[],none⟩,⟨some 18,.nilCheck (.tmp 17),0,"host.go:31",#[⟨0,.data⟩],none⟩,⟨some 19,.fieldAddr 91 (.tmp 18) 1,0,"host.go:31",#[⟨1,.data⟩],none⟩,⟨some 20,.load 89 (.tmp 19),89,"host.go:31",#[⟨2,.data⟩],none⟩,⟨some 21,.fieldAddr 43 (.tmp 3) 0,0,"host.go:31",#[],none⟩,⟨some 22,.load 24 (.tmp 21),24,"host.go:31",#[⟨4,.data⟩],none⟩,⟨some 23,.lookup 89 (.tmp 20) (.tmp 22) false,95,"host.go:31",#[⟨3,.data⟩,⟨5,.data⟩],none⟩,⟨some 24,.field 95 (.tmp 23) 0,24,"host.go:31",#[⟨6,.data⟩],none⟩,⟨some 25,.fieldAddr 43 (.tmp 3) 2,0,"host.go:31",#[],none⟩,⟨some 26,.load 24 (.tmp 25),24,"host.go:31",#[⟨8,.data⟩],none⟩,⟨some 27,.call ⟨.value (.func 33),#[.tmp 24,.tmp 26],#[24,24]⟩,3,"host.go:31",#[⟨7,.data⟩,⟨9,.data⟩],none⟩,⟨some 28,.binOp .lss 3 (.tmp 27) (.const (.int .i64 0)) 3,4,"host.go:31",#[⟨10,.data⟩],none⟩] true).wp prog Q a w:=by
 refine ZR (PhO (fun x=>Below w.heap.size w x) w) (fun _ _ _=>True) [(0,.pointer (some ⟨gb,0,none⟩)),(3,.pointer (some ⟨mb,0,none⟩))] [(some 17,.v (.pointer (some ⟨gb,0,none⟩))),(some 18,.v (.pointer (some ⟨gb,0,none⟩))),(some 19,.v (.pointer (some ⟨gb,2,none⟩))),(some 20,.v (.map (some ab))),(some 21,.v (.pointer (some ⟨mb,0,none⟩))),(some 22,.v (wv fr)),(some 23,.v (Z2 bl code (.map o))),(some 24,.v (wv bl)),(some 25,.v (.pointer (some ⟨mb,8,none⟩))),(some 26,.v (wv val)),(some 27,.v (.int .i64 (Z7 bl val))),(some 28,.v (.bool (decide (Z7 bl val<0))))] [10] [3,5,6,7,9] (by kernel_rfl) hsz (Zi c0 (Zi c3 rfl)) (by kernel_rfl) h0
  (zf _ _ _ rfl rfl (fun s x hph hdf hv hl K hK=>by
   have hph:Below w.heap.size w x:=hph;refine ZK ziC (ev2 (hv 24 _ rfl) (hv 26 _ rfl)) (Yc bl val x) ?_;rintro e y ⟨rfl,hB⟩;exact⟨_,rfl,hK _ y (hph.trans (hB.mono hph.size)) trivial nn1 rfl⟩
  )
  True.intro)
  (zf _ _ _ rfl rfl (fun k s x hk hlo hhi hph hdf hv hl K hK=>by
   have k0:x.cell? ⟨gb,2,none⟩=some (.map (some ab)):=((Yk hph (by have:=hhi 0 10 rfl (by kernel_rfl);omega)).cell hlt).trans hab;exact zv (fun w=>by kernel_rfl) (hv 19 _ rfl) k0 (hK _ x rfl nn1 rfl)
  )
  (zf _ _ _ rfl rfl (fun k s x hk hlo hhi hph hdf hv hl K hK=>by
   obtain⟨q0,q1,q2,q3,q4,q5,q6,q7,q8,q9,q10,q11,q12,q13⟩:=(show MsgAt x mb fr tt val data gs from zg hm (Yk hph (by have:=hhi 0 10 rfl (by kernel_rfl);omega))).cells;exact zD (n:=fr) (hv 21 _ rfl) q0 q1 q2 q3 (hK _ x rfl nn1 rfl)
  )
  (zf _ _ _ rfl rfl (fun k s x hk hlo hhi hph hdf hv hl K hK=>by
   have hk:=hlook x (Yk hph (by have:=hhi 0 10 rfl (by kernel_rfl);omega));have e20:=hv 20 _ rfl;have f20:s.eval (.tmp 20)=_:=e20;have e22:=hv 22 _ rfl;have f22:s.eval (.tmp 22)=_:=e22;clear hv hl hlo hhi hdf;go_simp;exact(hK _ x rfl nn1 rfl)
  )
  (zf _ _ _ rfl rfl (fun k s x hk hlo hhi hph hdf hv hl K hK=>by
   have hk:=zqQ bl code o x;have e23:=hv 23 _ rfl;have f23:s.eval (.tmp 23)=_:=e23;clear hv hl hlo hhi hdf;go_simp;exact(hK _ x rfl nn1 rfl)
  )
  (zf _ _ _ rfl rfl (fun k s x hk hlo hhi hph hdf hv hl K hK=>by
   obtain⟨q0,q1,q2,q3,q4,q5,q6,q7,q8,q9,q10,q11,q12,q13⟩:=(show MsgAt x mb fr tt val data gs from zg hm (Yk hph (by have:=hhi 0 10 rfl (by kernel_rfl);omega))).cells;exact zD (n:=val) (hv 25 _ rfl) q8 q9 q10 q11 (hK _ x rfl nn1 rfl)
  )
  True.intro)))))
  (fun _ _ _ h=>(zu rfl h).elim) ?_
 intro g x hph hT;exact hok x hph
end
section
open Go.RowKit Go.Maps Go.MuLone
def zfq (ab i:Nat):Value:=if i=0 then .int .i32 0 else if i=1 then .int .u32 0 else .map (some ab)
structure HostAt (gb ab n:Nat) (A:Nat->Acc) (sb:Nat->Value) (w:World):Prop where
 row:w.rowIs gb 91 3 (zfq ab)
 acc:Accs ab n A sb w
 zr:Zr w
abbrev s2 (w:World) (fr tt val:Nat) (data:ByteArray) (gas:Nat):World:=(w.alloc (.cells (msgC fr tt val data gas) 43)).alloc rc0
def SentR (ab n m gb b:Nat) (A:Nat->Acc) (sb:Nat->Value) (T':TS) (w y:World):Prop:=∃(V':TV) (S2:List Nat),Accs ab V'.n T'.acc V'.sb y/\V'.n<=n+m/\Kb S2 w y/\(∀k∈S2,ZZ ab A sb k)/\Zr y/\(∀k,ZZ ab T'.acc V'.sb k->ZZ ab A sb k\/w.heap.size<=k)
theorem zqK {base tb pb ab n m gb b:Nat} {A:Nat->Acc} {sb:Nat->Value} {T':TS} {w x y:World} (hx:Below w.heap.size w x) (ha:Accs ab n A sb w) (htb:tb=base+1) (hpb:pb=base) (hwb:w.heap.size<=base) (h:zcu base tb (T0 A) T' (V0 ab pb n sb) [] m x y):SentR ab n m gb b A sb T' w y:=by
 obtain⟨V',S2,h1,h2,h3,h4,h5,h6⟩:=h;have hab:V'.ab=ab:=h6;have hacc:=h1.acc;rw[hab] at hacc
 have hT0:∀k,zG tb (T0 A) (V0 ab pb n sb) k->ZZ ab A sb k\/w.heap.size<=k:=fun k hk=>by
  rcases hk with e|e|e|e|e|⟨t,ht,e⟩
  ·exact Or.inr (by omega)
  ·exact Or.inl e
  ·exact Or.inr (by have:(V0 ab pb n sb).pb=pb:=rfl;omega)
  ·cases e
  ·cases e
  ·cases ht
 refine⟨V',S2.filter (fun k=>decide (k<w.heap.size)),hacc,h5,(Kb.of_below hx).trans h2 (fun i hi=> ?_),fun i hi=> ?_,h1.zr,fun k hk=> ?_⟩
 ·by_cases hl:i<w.heap.size
  ·exact Or.inl (List.mem_filter.2 ⟨hi,by simpa using hl⟩)
  ·exact Or.inr (by omega)
 ·obtain⟨e1,e2⟩:=List.mem_filter.1 hi;have e2:i<w.heap.size:=by simpa using e2
  rcases h3 i e1 with e|e
  ·cases e
  ·rcases hT0 i e with e|e
   ·exact e
   ·omega
 ·rcases h4 k (Or.inr (Or.inl (by rw[hab];exact hk))) with e|e
  ·exact hT0 k e
  ·exact Or.inr (Nat.le_trans hx.size e)
end
section
open Go.RowKit Go.Maps Go.MuLone
theorem SentR.below {ab n m gb b:Nat} {A:Nat->Acc} {sb:Nat->Value} {T':TS} {w y y':World} (h:SentR ab n m gb b A sb T' w y) (hb:Below y.heap.size y y'):SentR ab n m gb b A sb T' w y':=by
 obtain⟨V',S2,h1,h2,h3,h4,h5,h6⟩:=h;exact⟨V',S2,h1.kb (Kb.of_below (S:=[]) hb) (by simp),h2,h3.below hb,h4,h5.below hb,h6⟩
def DelS (L:List LogE) (R:World->Prop) (b:Nat) (w:World) (lv:Value) (x:World):Prop:=R x/\ResAt x b 0 0 ⟨#[]⟩ noL/\∃base tv,w.heap.size<=base/\Lo x base lv tv L
theorem DelS.below {L:List LogE} {ab n m gb b' b:Nat} {A:Nat->Acc} {sb:Nat->Value} {T':TS} {w x3:World} {lv:Value} {x x':World} (h:DelS L (SentR ab n m gb b' A sb T' x3) b w lv x) (hb:Below x.heap.size x x'):DelS L (SentR ab n m gb b' A sb T' x3) b w lv x':=by
 obtain⟨h1,h2,base,tv,h3,h4⟩:=h;exact⟨h1.below hb,h2.below hb,base,tv,h3,h4.kb (Kb.of_below (S:=[]) hb) (by simp) (by simp)⟩
def RsK (st gs:Nat) (out:ByteArray) (D:Value->World->Prop):Kp:=fun p v x=>∃ad n c,v=zaJ st gs out (.slice ad n c)/\(p=2->D (.slice ad n c) x)
def PhY (D:Value->World->Prop) (b st gs:Nat) (out:ByteArray) (w:World):Nat->World->Prop
 |0,x=>Below w.heap.size w x
 |1,x=>Below w.heap.size w x
 |2,x=>∃lv,D lv x
 |_,x=>∃lv y,D lv y/\Below (yv y b st gs out lv).heap.size (yv y b st gs out lv) x
theorem zml {D:Value->World->Prop} {b st gs:Nat} {out:ByteArray} {w x:World} {k:Nat} (h:PhY D b st gs out w k x) (hk:k<=1):Below w.heap.size w x:=by
 match k,hk,h with
 |0,_,h=>exact h
 |1,_,h=>exact h
theorem phy_bel {L:List LogE} {ab n m gb b' b st gs:Nat} {out:ByteArray} {A:Nat->Acc} {sb:Nat->Value} {T':TS} {w x3:World} (k:Nat) (x x':World) (h:PhY (DelS L (SentR ab n m gb b' A sb T' x3) b w) b st gs out w k x) (hb:Below x.heap.size x x'):PhY (DelS L (SentR ab n m gb b' A sb T' x3) b w) b st gs out w k x':=by
 match k,h with
 |0,h=>exact(show Below w.heap.size w x from h).trans (hb.mono (show Below w.heap.size w x from h).size)
 |1,h=>exact(show Below w.heap.size w x from h).trans (hb.mono (show Below w.heap.size w x from h).size)
 |2,⟨lv,h⟩=>exact⟨lv,h.below hb⟩
 |_+3,⟨lv,y,h1,h2⟩=>exact⟨lv,y,h1,h2.trans (hb.mono h2.size)⟩
section
variable {s:Act} {x:World} {pos:String} {af:Array Edge} {gd:Option (Nat×Bool)} {K:Act->World->Prop} {Q:Exit->Act->World->Prop}
theorem zor {t d mb fr tt val gas:Nat} {data:ByteArray} {ty:TypeId} (h:s.tmps.getD t undef=.pointer (some ⟨mb,0,none⟩)) (hm:MsgAt x mb fr tt val data gas) (hK:K (s.put (some d) (zjX fr tt val data gas)) x):
  Oper.wp prog ⟨some d,.load 43 (.tmp t),ty,pos,af,gd⟩ s x K Q:=by
 have f3:s.eval (.tmp t)=.pointer (some ⟨mb,0,none⟩):=h;obtain⟨q0,q1,q2,q3,q4,q5,q6,q7,q8,q9,q10,q11,q12,q13⟩:=hm.cells;go_simp;exact hK
theorem ziT {t1 t2 b st gs m cp:Nat} {out:ByteArray} {ad:Option Addr} {ty:TypeId} (h1:s.tmps.getD t1 undef=.pointer (some ⟨b,0,none⟩)) (h2:s.tmps.getD t2 undef=zaJ st gs out (.slice ad m cp)) (hr:ResAt x b 0 0 ⟨#[]⟩ noL) (hK:K (s.put none undef) (yv x b st gs out (.slice ad m cp))):
  Oper.wp prog ⟨none,.store 38 (.tmp t1) (.tmp t2),ty,pos,af,gd⟩ s x K Q:=by
 have e1:s.eval (.tmp t1)=.pointer (some ⟨b,0,none⟩):=h1;have e2:s.eval (.tmp t2)=.agg #[.int .u8 (st:Int),.int .i64 (gs:Int),.string out,.slice ad m cp]:=h2;obtain⟨⟨k0,k1,k2,k3⟩,f0,f1,f2,f3⟩:=hr;go_simp;exact hK
theorem zkR {t1 t2 d tb:Nat} {mv:Value} {ty:TypeId} {Post:Ending->World->Prop} (h1:s.tmps.getD t1 undef=.pointer (some ⟨tb,0,none⟩)) (h2:s.tmps.getD t2 undef=mv) (hc:Calls prog 35 #[.pointer (some ⟨tb,0,none⟩),mv] x Post)
  (hr:∀v x',Post (.returned v) x'->K (s.put (some d) v) x') (hp:∀l x',Post (.panicked l) x'->Q (.panic l) s x') (hn:∀x',¬Post .outgrown x'):
  Oper.wp prog ⟨some d,.call ⟨.value (.func 35),#[.tmp t1,.tmp t2],#[96,43]⟩,ty,pos,af,gd⟩ s x K Q:=by
 have e2:s.eval (.tmp t1)=.pointer (some ⟨tb,0,none⟩):=h1;have e3:s.eval (.tmp t2)=mv:=h2;refine zZ (env:=fun _=>none) (fun t c h=>by cases h) hc ?_ hr hp hn;rw[zdk (fun t c h=>by cases h)];go_simp
end
def SendR (gb ab n:Nat) (A:Nat->Acc) (sb:Nat->Value) (low:Bool) (R:Res×TS) (w:World) (e:Ending) (w':World):Prop:=
 if low=true then e=.returned (.tuple #[zaJ 0 0 ⟨#[]⟩ noL,.int .i64 5])/\HostAt gb ab n A sb w'/\Kb [gb] w w'
 else∃lv base tv n' sb',e=.returned (.tuple #[zaJ R.1.st R.1.gas R.1.out lv,.int .i64 0])/\HostAt gb ab n' R.2.acc sb' w'/\n'<=n+3400010/\w.heap.size<=base/\Lo w' base lv tv R.2.logs/\(∃S2,Kb (gb::S2) w w'/\∀k∈S2,ZZ ab A sb k)/\∀k,ZZ ab R.2.acc sb' k->ZZ ab A sb k\/w.heap.size<=k
theorem zpA {gb ab n:Nat} {A:Nat->Acc} {sb:Nat->Value} (fr tt val gas:Nat) (data:ByteArray) (w:World) (h:HostAt gb ab n A sb w) (hd:data.size<=500) (hg:gas<=100000) (hA:GoodT (T0 A)) (hn:n+3400010<800000000000):
  Calls prog 13 #[.pointer (some ⟨gb,0,none⟩),zjX fr tt val data gas] w (SendR gb ab n A sb (decide (Z7 (A fr).bal val<0)) (YT (T0 A) fr tt val data gas) w):=by
 obtain⟨low,hcmp⟩:∃low,decide (Z7 (A fr).bal val<0)=low:=⟨_,rfl⟩;rw[hcmp];have HDEL0:Hid (∀tb pb base x,Tr base tb (T0 A) (V0 ab pb n sb) x->Calls prog 35 #[.pointer (some ⟨tb,0,none⟩),zjX fr tt val data gas] x (DelR base tb (T0 A) (YT (T0 A) fr tt val data gas).2 (V0 ab pb n sb) (YT (T0 A) fr tt val data gas).1.st (YT (T0 A) fr tt val data gas).1.gas (YT (T0 A) fr tt val data gas).1.out x)):=fun tb pb base x hx=>zjE fr tt val gas data x hx hg hA (by omega) (by show 0+0<=_;omega) hn
 obtain⟨R,hR⟩:∃R,R=YT (T0 A) fr tt val data gas:=⟨_,rfl⟩;rw[<-hR] at HDEL0⊢;obtain⟨⟨st,gs,out⟩,T'⟩:=R;dsimp only at HDEL0;clear hR hA;have hB:Below w.heap.size w (s2 w fr tt val data gas):=bal (bal (Below.refl _ w) _) _;have HM:=zb (zim fr tt val gas data hd hg (s2 w fr tt val data gas));have HH:=zb h;have HB:=zb hB;clear h hB
 go_enter_defers func13,ntmps13
 go_wp2_with fail
 refine HM.out.mono ?_;rintro e w1 ⟨rfl,hb1⟩;have hB1:Below w.heap.size w w1:=HB.out.trans (hb1.mono HB.out.size);have hr1:=zg HH.out.row hB1;have l0:=hr1.cell (i:=0) (by decide);have lz:=hr1.frozen 0;rw[show zfq ab 0=.int .i32 0 from rfl] at l0;have HLK:=zb (lock_free zjo ⟨gb,0,none⟩ w1 l0 lz);have hm1:MsgAt w1 w.heap.size fr tt val data gas:=zg (zg (zlY w fr tt val data gas) (bal (Below.refl _ _) _)) hb1
 have hrs1:ResAt w1 (w.heap.size+1) 0 0 ⟨#[]⟩ noL:=by
  have h0:ResAt (s2 w fr tt val data gas) (w.heap.size+1) 0 0 ⟨#[]⟩ noL:=by unfold ResAt;simp[go_sem]
  exact h0.below hb1
 have HX:=zb (And.intro hB1 (And.intro hm1 hrs1));clear hb1 hB1 hr1 l0 lz hm1 hrs1 HM;go_wp2_with fail
 refine HLK.out.mono ?_;rintro e w2 ⟨rfl,rfl⟩;have HH1:=zg HH.out.row HX.out.1;have hgl:gb<w1.heap.size:=HH1.lt;have hgw:gb<w.heap.size:=HH.out.row.lt;have hk2:Kb [gb] w1 (w1.setCell ⟨gb,0,none⟩ (.int .i32 1)):=(Kb.refl [gb] w1).setCell (Or.inl (by simp)) _;have hr2:(w1.setCell ⟨gb,0,none⟩ (.int .i32 1)).rowIs gb 91 3 (fun i=>if i=0 then .int .i32 1 else zfq ab i):=HH1.set 0 _;have hacc1:=HH.out.acc.kb (Kb.of_below (S:=[]) HX.out.1) (by simp);have hacc2:=hacc1.kb hk2 (fun k hk hf=>ZN HH1 (hacc1.isMap hf) (List.mem_singleton.1 hk).symm);have hz1:=HH.out.zr.below HX.out.1
 have hz2:Zr (w1.setCell ⟨gb,0,none⟩ (.int .i32 1)):=hz1.kb hk2 (fun hm=>by
  have e:(0:Nat)=gb:=by simpa using hm
  have h1:=HH1.cell (i:=0) (by decide);rw[<-e,hz1.1.1] at h1;cases h1)
 have hm2:MsgAt (w1.setCell ⟨gb,0,none⟩ (.int .i32 1)) w.heap.size fr tt val data gas:=hk2.row HX.out.2.1 (by simp;omega);have hs2:=HX.out.2.2.kb hk2 (by simp;omega);go_wp2;generalize w1.setCell ⟨gb,0,none⟩ (.int .i32 1)=x2 at*;obtain⟨f,hf,hf'⟩:=hacc2.map;obtain⟨sv,e1,e3,e4,e5⟩:=hacc2.read fr hf';obtain⟨om,rfl⟩:=e3.is;have c2:=hr2.cell (i:=2) (by decide);refine send_r5 (mb:=w.heap.size) (ab:=ab) (bl:=(A fr).bal) (code:=(A fr).code) (o:=om) (val:=val) _ x2 hr2.lt c2 hm2 (fun x hx=> ?_) (Below.refl _ _).drew rfl rfl rfl ?_
 ·have:=(hf.kb (Kb.of_below (S:=[]) hx) (by simp)).look YA Yj fr;rw[e1] at this;exact this
 intro x3 hx3;have hx3:Below x2.heap.size x2 x3:=hx3;simp only[zF,List.foldl_cons,List.foldl_nil,Act.put];simp only[sx9];rw[hcmp];have hr3:=zg hr2 hx3;have hacc3:=hacc2.kb (Kb.of_below (S:=[]) hx3) (by simp);have hz3:=hz2.below hx3;have hm3:=zg hm2 hx3;have hs3:=hs2.below hx3;have c3:=hr3.cell (i:=2) (by decide);have hb1:w.heap.size<=w1.heap.size:=HX.out.1.size;have hb3:w.heap.size<=x3.heap.size:=Nat.le_trans hb1 (Nat.le_trans hk2.size hx3.size)
 -- behind the end:the mutex is given back
 have HHEND:Hid (∀(z:World) (n':Nat) (A':Nat->Acc) (sb':Nat->Value) (S2:List Nat),z.rowIs gb 91 3 (fun i=>if i=0 then .int .i32 1 else zfq ab i)->Accs ab n' A' sb' z->Zr z->Kb S2 x3 z->HostAt gb ab n' A' sb' (z.setCell ⟨gb,0,none⟩ (.int .i32 0))/\Kb (gb::S2) w (z.setCell ⟨gb,0,none⟩ (.int .i32 0))):=by
  intro z n' A' sb' S2 hrp hap hzp hkz3;have hkz:Kb [gb] z (z.setCell ⟨gb,0,none⟩ (.int .i32 0)):=(Kb.refl [gb] z).setCell (Or.inl (by simp)) _;refine⟨⟨?_,hap.kb hkz (fun k hk hf=>ZN hrp (hap.isMap hf) (List.mem_singleton.1 hk).symm),hzp.kb hkz (fun hm=> ?_)⟩, ?_⟩
  ·refine(hrp.set 0 (.int .i32 0)).congr fun i hi=> ?_
   by_cases e:i=0
   ·subst e;rfl
   ·simp only[if_neg e]
  ·have e:(0:Nat)=gb:=by simpa using hm
   have u0:=hrp.cell (i:=0) (by decide);rw[<-e,hzp.1.1] at u0;cases u0
  ·have b1:Kb (gb::S2) w w1:=Kb.of_below HX.out.1;have b2:=b1.trans hk2 (fun i hi=>Or.inl (by simp at hi;simp[hi]));have b3:=b2.trans (Kb.of_below (S:=[]) hx3) (by simp);have b4:=b3.trans hkz3 (fun i hi=>Or.inl (List.mem_cons_of_mem _ hi));exact b4.trans hkz (fun i hi=>Or.inl (by simp at hi;simp[hi]))
 clear c2 e1 e3 e4 e5 hf hf' hr2 hacc2 hz2 hm2 hs2;cases low with
 |true=>
  have hkp:Kb [w.heap.size+1] x3 (yv x3 (w.heap.size+1) 0 0 ⟨#[]⟩ noL):=YG (Kb.refl _ x3) (Or.inl (by simp));have hrp:=hkp.row hr3 (by simp;omega)
  have hnb:∀k∈[w.heap.size+1],¬ZZ ab A sb k:=fun k hk hf=>by
   obtain rfl:k=w.heap.size+1:=by simpa using hk
   obtain⟨es,cl,q7⟩:=hacc3.isMap hf;have h0:=hs3.1.1;simp[World.cell?,q7] at h0
  have hbl:w.heap.size+1<x3.heap.size:=zbh hs3.1.1;have HE:=zb (HHEND.out (yv x3 (w.heap.size+1) 0 0 ⟨#[]⟩ noL) n A sb [w.heap.size+1] hrp (hacc3.kb hkp hnb) (hz3.kb hkp (by simp)) hkp);obtain⟨⟨y0,y1,y2,y3⟩,_⟩:=hs3.put (st:=0) (gs:=0) (out:=⟨#[]⟩) (lv:=noL);obtain⟨⟨k0,k1,k2,k3⟩,f0,f1,f2,f3⟩:=hs3;have u0:=hrp.cell (i:=0) (by decide);have uz:=hrp.frozen 0;simp only[if_true] at u0;have hbg:w.heap.size+1≠gb:=by omega
  clear hrp hkp hnb hacc3 hz3 hm3 hr3 c3 HHEND HDEL0;go_wp2;refine leaves_cons (f:=32) (args:=#[.pointer (some ⟨gb,0,none⟩)]) (by simp) (by simp[go_sem]) ?_;refine(unlock_deferred zjo ⟨gb,0,none⟩ .returning (yv x3 (w.heap.size+1) 0 0 ⟨#[]⟩ noL) u0 uz).mono ?_;rintro e u' w'' ⟨rfl,rfl,rfl⟩;have hkz:Kb [gb] (yv x3 (w.heap.size+1) 0 0 ⟨#[]⟩ noL) ((yv x3 (w.heap.size+1) 0 0 ⟨#[]⟩ noL).setCell ⟨gb,0,none⟩ (.int .i32 0)):=(Kb.refl [gb] _).setCell (Or.inl (by simp)) _;have hlp:w.heap.size+1<(yv x3 (w.heap.size+1) 0 0 ⟨#[]⟩ noL).heap.size:=zbh y0;generalize yv x3 (w.heap.size+1) 0 0 ⟨#[]⟩ noL=z at*;have e:=hkz.block (w.heap.size+1) hlp (by simp;omega);have j0:=(World.cell?_of_block e).trans y0;have j1:=(World.cell?_of_block e).trans y1;have j2:=(World.cell?_of_block e).trans y2;have j3:=(World.cell?_of_block e).trans y3;refine⟨.tuple #[zaJ 0 0 ⟨#[]⟩ noL,.int .i64 5],by simp[results,results13,go_sem,j0,j1,j2,j3],rfl,HE.out.1,(Kb.refl [gb] w).trans HE.out.2 (fun i hi=> ?_)⟩;rcases List.mem_cons.1 hi with e|e
  ·exact Or.inl (by simp[e])
  ·exact Or.inr (by simp at e;omega)
 |false=>
  go_wp2;have HDEL:Hid (∀tb pb base x,Below x3.heap.size x3 x->Tr base tb (T0 A) (V0 ab pb n sb) x->tb=base+1->pb=base->x3.heap.size<=base->Calls prog 35 #[.pointer (some ⟨tb,0,none⟩),zjX fr tt val data gas] x (DelR base tb (T0 A) T' (V0 ab pb n sb) st gs out x)):=fun tb pb base x _ hT _ _ _=>HDEL0.out tb pb base x hT
  have hnotA:∀b T N (f:Nat->Value),x3.rowIs b T N f->∀k,ZZ ab A sb k->b≠k:=fun b T N f hr k hk=>ZN hr (hacc3.isMap hk)
  refine zt (PhY (DelS (T'.logs) (SentR ab n 3400010 gb (w.heap.size+1) A sb T' x3) (w.heap.size+1) x3) (w.heap.size+1) st gs out x3) (fun _ _ _=>True) [(0,(.pointer (some ⟨gb,0,none⟩))),(3,(.pointer (some ⟨w.heap.size,0,none⟩))),(4,(.pointer (some ⟨w.heap.size+1,0,none⟩)))] [(some 30,.v (.pointer (some ⟨gb,0,none⟩))),(some 31,.v (.pointer (some ⟨gb,0,none⟩))),(some 32,.v (.pointer (some ⟨gb,2,none⟩))),(some 33,.v (.map (some ab))),(some 34,.l (TrK A ab n sb x3)),(some 35,.v (zjX fr tt val data gas)),(some 36,.l (RsK st gs out (DelS (T'.logs) (SentR ab n 3400010 gb (w.heap.size+1) A sb T' x3) (w.heap.size+1) x3))),(none,.v undef),(some 5,.v (.int .i64 0))] [4,6,7] [3,5] (by kernel_rfl) (by rfl) (by rfl) (by kernel_rfl) ((Below.refl _ _).drew) (phy_bel)
    (zf _ _ _ rfl rfl
    (fun s x hph hdf hv hl K hK=>by
     have hx:Below x3.heap.size x3 x:=hph;refine zZ (Post:=fun e w'=>e=.returned (.pointer (some ⟨x.heap.size+1,0,none⟩))/\Below x.heap.size x w'/\Tr x.heap.size (x.heap.size+1) (T0 A) (V0 ab x.heap.size n sb) w') hv (zh5 x (hacc3.kb (Kb.of_below (S:=[]) hx) (by simp)) (hz3.below hx)) (by kernel_rfl) (fun v x' h=> ?_) (fun l x' h=>by cases h.1) (fun x' h=>by cases h.1);obtain⟨h1,h2,h3⟩:=h;obtain rfl:=Ending.returned.inj h1;exact hK _ x' (hx.trans (h2.mono hx.size)) trivial nn1 ⟨_,_,_,rfl,fun _=>⟨h3,rfl,rfl,hx.size⟩⟩)
    (zf _ _ _ rfl rfl
    (fun s x hph hdf hv hl K hK=>by
     have hx:Below x3.heap.size x3 x:=hph;obtain⟨tb,pb,base,e1,e2⟩:=hl 34 _ rfl;obtain⟨e2,e3,e4,e5⟩:=e2 rfl;refine zkR (tb:=tb) e1 (hv 35 _ rfl) (HDEL.out tb pb base x hx e2 e3 e4 e5) ?_ (fun l x' h=>by obtain⟨_,_,h1,_⟩:=h;cases h1) (fun x' h=>by obtain⟨_,_,h1,_⟩:=h;cases h1);rintro v x' ⟨lv,tv,h1,h2,h3⟩;obtain rfl:=Ending.returned.inj h1;obtain⟨ad,cp,e⟩:=zS h3.2.1;have h6:=zqK (gb:=gb) (b:=w.heap.size+1) hx hacc3 e3 e4 e5 h2
     have h9:DelS (T'.logs) (SentR ab n 3400010 gb (w.heap.size+1) A sb T' x3) (w.heap.size+1) x3 lv x':=by
      refine⟨h6, ?_,base,tv,e5,h3⟩;obtain⟨V',S2,_,_,q1,q2,_⟩:=h6;refine hs3.kb q1 fun hm=> ?_
      obtain⟨⟨h0,_⟩,_⟩:=hs3;obtain⟨es,cl,q3⟩:=hacc3.isMap (q2 _ hm);simp[World.cell?,q3] at h0
     exact hK _ x' ⟨lv,h9⟩ trivial nn1 ⟨ad,_,cp,by rw[e],fun _=>e▸h9⟩)
    (zf _ _ _ rfl rfl
    (fun s x hph hdf hv hl K hK=>by
     obtain⟨ad,m,cp,e1,e2⟩:=hl 36 _ rfl;have e2:=e2 rfl;exact ziT (hv 4 _ rfl) e1 e2.2.1 (hK _ _ ⟨_,x,e2,Below.refl _ _⟩ trivial (fun _=>rfl) rfl))
    True.intro)))
    (zf _ _ _ rfl rfl
    (fun k s x hk hlo hhi hph hdf hv hl K hK=>by
     have hx:Below x3.heap.size x3 x:=zml hph (by have:=hhi 0 4 rfl (by kernel_rfl);omega);exact zv (v:=.map (some ab)) (fun w=>by kernel_rfl) (hv 32 _ rfl) ((hx.cell hr3.lt).trans c3) (hK _ x (Below.refl _ _) nn1 rfl))
    (zf _ _ _ rfl rfl
    (fun k s x hk hlo hhi hph hdf hv hl K hK=>by
     have hx:Below x3.heap.size x3 x:=zml hph (by have:=hhi 1 6 rfl (by kernel_rfl);omega);exact zor (hv 3 _ rfl) (show MsgAt x w.heap.size fr tt val data gas from zg hm3 hx) (hK _ x (Below.refl _ _) nn1 rfl))
    True.intro))
    (fun i d T9 he p v x x' hne hp hph hrel hT=>by
     rcases ltq9 (show i<9 from(List.getElem?_eq_some_iff.1 he).1) with rfl|rfl|rfl|rfl|rfl|rfl|rfl|rfl|rfl
     ·cases he
     ·cases he
     ·cases he
     ·cases he
     ·obtain rfl:=Sum.inr.inj (Prod.mk.inj (Option.some.inj he)).2;obtain⟨tb,pb,base,e,h1⟩:=hT;have hp0:p≠0:=fun e2=>hne (by rw[e2];rfl)
      exact⟨tb,pb,base,e,fun h2=>absurd h2 (by omega)⟩
     ·cases he
     ·obtain rfl:=Sum.inr.inj (Prod.mk.inj (Option.some.inj he)).2;obtain⟨ad,m,cp,e,h1⟩:=hT;have hp0:p≠1:=fun e2=>hne (by rw[e2];rfl)
      exact⟨ad,m,cp,e,fun h2=>absurd h2 (by omega)⟩
     ·cases he
     ·cases he) (fun i d T9 he p v x x' hph hb hT=>by
     have hm:=List.mem_of_getElem? he;simp only[List.mem_cons,Prod.mk.injEq,reduceCtorEq,and_false,false_or,or_false,List.not_mem_nil,En.l.injEq] at hm;rcases hm with⟨-,rfl⟩|⟨-,rfl⟩
     ·obtain⟨tb,pb,base,e,h1⟩:=hT;exact⟨tb,pb,base,e,fun h2=>by obtain⟨g1,g2⟩:=h1 h2;exact⟨g1.below hb,g2⟩⟩
     ·obtain⟨ad,m,cp,e,h1⟩:=hT;exact⟨ad,m,cp,e,fun h2=>(h1 h2).below hb⟩) ?_
  intro gg z hz hgv;obtain⟨lv,y,⟨hR,hRs,base,tv,hbase,hlo⟩,hzy⟩:PhY (DelS (T'.logs) (SentR ab n 3400010 gb (w.heap.size+1) A sb T' x3) (w.heap.size+1) x3) (w.heap.size+1) st gs out x3 3 z:=hz;obtain⟨V',S2,q1,q2,q3,q4,q5,q6⟩:=hR;obtain⟨ad,cp,hsl⟩:=zS hlo.2.1;subst hsl;have hry:=q3.row hr3 (fun hm=>hnotA _ _ _ _ hr3 _ (q4 _ hm) rfl);have hbg:w.heap.size+1≠gb:=by omega
  have hkp:Kb [w.heap.size+1] y z:=(YG (Kb.refl _ y) (Or.inl (by simp))).below hzy;have hrp:=hkp.row hry (by simp;omega);have hbl:w.heap.size+1<x3.heap.size:=zbh hs3.1.1
  have hnb:∀k∈[w.heap.size+1],¬ZZ ab T'.acc V'.sb k:=fun k hk hf=>by
   obtain rfl:k=w.heap.size+1:=by simpa using hk
   obtain⟨es,cl,q7⟩:=q1.isMap hf;have h0:=hRs.1.1;simp[World.cell?,q7] at h0
  have hlz:Lo z base (.slice ad T'.logs.length cp) tv T'.logs:=by
   refine hlo.kb hkp (fun k hk hm=> ?_) (fun t ht k hk hm=> ?_)
   ·have h1:=(hlo.2.1.lt k hk).1;simp at hm;omega
   ·obtain⟨i,hi⟩:=List.getElem?_of_mem ht;have hl:i<T'.logs.length:=by rw[<-hlo.1];exact(List.getElem?_eq_some_iff.1 hi).1
    have h1:=((hlo.2.2 i T'.logs[i] t (List.getElem?_eq_getElem hl) hi).lt k hk).1;simp at hm;omega
  have HE:=zb (HHEND.out z V'.n T'.acc V'.sb (S2++[w.heap.size+1]) hrp (q1.kb hkp hnb) (q5.kb hkp (by simp)) ((q3.mono (fun i hi=>List.mem_append_left _ hi)).trans hkp (fun i hi=>Or.inl (List.mem_append_right _ hi))));obtain⟨⟨y0,y1,y2,y3⟩,_⟩:=(hRs.put (st:=st) (gs:=gs) (out:=out) (lv:=.slice ad T'.logs.length cp)).below hzy;have u0:=hrp.cell (i:=0) (by decide);have uz:=hrp.frozen 0;simp only[if_true] at u0;have hkz:Kb [gb] z (z.setCell ⟨gb,0,none⟩ (.int .i32 0)):=(Kb.refl [gb] z).setCell (Or.inl (by simp)) _
  have HZC:Hid ((z.setCell ⟨gb,0,none⟩ (.int .i32 0)).cell? ⟨w.heap.size+1,0,none⟩=some (.int .u8 (st:Int))/\(z.setCell ⟨gb,0,none⟩ (.int .i32 0)).cell? ⟨w.heap.size+1,1,none⟩=some (.int .i64 (gs:Int))/\(z.setCell ⟨gb,0,none⟩ (.int .i32 0)).cell? ⟨w.heap.size+1,2,none⟩=some (.string out)/\(z.setCell ⟨gb,0,none⟩ (.int .i32 0)).cell? ⟨w.heap.size+1,3,none⟩=some (.slice ad T'.logs.length cp)):=by
   have e:=hkz.block (w.heap.size+1) (zbh y0) (by simp;omega);exact⟨(World.cell?_of_block e).trans y0,(World.cell?_of_block e).trans y1,(World.cell?_of_block e).trans y2,(World.cell?_of_block e).trans y3⟩
  have HLZ:Hid (Lo (z.setCell ⟨gb,0,none⟩ (.int .i32 0)) base (.slice ad T'.logs.length cp) tv T'.logs):=by
   refine hlz.kb hkz (fun k hk hm=> ?_) (fun t ht k hk hm=> ?_)
   ·have h1:=(hlz.2.1.lt k hk).1;simp at hm;omega
   ·obtain⟨i,hi⟩:=List.getElem?_of_mem ht;have hl:i<T'.logs.length:=by rw[<-hlz.1];exact(List.getElem?_eq_some_iff.1 hi).1
    have h1:=((hlz.2.2 i T'.logs[i] t (List.getElem?_eq_getElem hl) hi).lt k hk).1;simp at hm;omega
  have HQ:=zb (And.intro q2 (And.intro q4 q6));clear hrp hkp hnb hacc3 hz3 hm3 hr3 c3 HHEND HDEL0 q1 q2 q3 q4 q5 q6 hRs hlo hlz hry hkz hzy HDEL hs3;simp only[yx,yB,yA,Zj,zF,List.foldl_cons,List.foldl_nil,Act.put];simp only[sx9];go_wp2;refine leaves_cons (f:=32) (args:=#[.pointer (some ⟨gb,0,none⟩)]) (by simp) (by simp[go_sem]) ?_;refine(unlock_deferred zjo ⟨gb,0,none⟩ .returning z u0 uz).mono ?_;rintro e u' w'' ⟨rfl,rfl,rfl⟩;obtain⟨k0,k1,k2,k3⟩:=HZC.out;refine⟨.tuple #[zaJ st gs out (.slice ad T'.logs.length cp),.int .i64 0],by simp[results,results13,go_sem,k0,k1,k2,k3], ?_⟩;obtain⟨q2,q4,q6⟩:=HQ.out;refine⟨_,base,tv,V'.n,V'.sb,rfl,HE.out.1,q2,Nat.le_trans hb3 hbase,HLZ.out,⟨S2,(Kb.refl (gb::S2) w).trans HE.out.2 (fun i hi=> ?_),q4⟩,fun k hk=>(q6 k hk).imp id (fun h=>Nat.le_trans hb3 h)⟩;rcases List.mem_cons.1 hi with e|e
  ·exact Or.inl (by simp[e])
  ·rcases List.mem_append.1 e with e|e
   ·exact Or.inl (List.mem_cons_of_mem _ e)
   ·exact Or.inr (by simp at e;omega)
end
section
open Go.RowKit Go.Maps Go.MuLone
theorem zfr {w:World} {base e size n:Nat} {v:Value} {xs:List Value} (h:w.ownsRow base e size v n xs) {g i:Nat} (hg:g<base) (u:Value):(w.setCell ⟨g,i,none⟩ u).ownsRow base e size v n xs:=yR h (fun k hk e=>by have:=(h.lt k hk).1;omega) _ _
theorem Told.setlow {base:Nat} {A:Nat->Acc} {ts:List Nat} {v:Value} {sls:List Value} {w:World} (h:Told base A ts v sls w) {g i:Nat} (hg:g<base) (u:Value):Told base A ts v sls (w.setCell ⟨g,i,none⟩ u):=
 ⟨h.len,zfr h.own hg u,fun j k sl h1 h2=>by obtain⟨us,q1,q2,q3⟩:=h.sl j k sl h1 h2;exact⟨us,q1,q2,zfr q3 hg u⟩⟩
theorem zhb {gb ab n:Nat} {A:Nat->Acc} {sb:Nat->Value} (w:World) (h:HostAt gb ab n A sb w) (hn:n<=1000000000000):
  Calls prog 23 #[.pointer (some ⟨gb,0,none⟩)] w fun e w'=>∃(v:Value) (ts:List Nat) (sls:List Value),e=.returned v/\ts.length<=n/\zbS A ts/\Told w.heap.size A ts v sls w'/\HostAt gb ab n A sb w'/\Kb [gb] w w':=by
 have l0:=h.row.cell (i:=0) (by decide);have lz:=h.row.frozen 0;rw[show zfq ab 0=.int .i32 0 from rfl] at l0;have HLK:=zb (lock_free zjo ⟨gb,0,none⟩ w l0 lz);have hgw:gb<w.heap.size:=h.row.lt;have hk2:Kb [gb] w (w.setCell ⟨gb,0,none⟩ (.int .i32 1)):=(Kb.refl [gb] w).setCell (Or.inl (by simp)) _;have hr2:(w.setCell ⟨gb,0,none⟩ (.int .i32 1)).rowIs gb 91 3 (fun i=>if i=0 then .int .i32 1 else zfq ab i):=h.row.set 0 _;have hacc2:=h.acc.kb hk2 (fun k hk hf=>ZN h.row (h.acc.isMap hf) (List.mem_singleton.1 hk).symm)
 have hz2:Zr (w.setCell ⟨gb,0,none⟩ (.int .i32 1)):=h.zr.kb hk2 (fun hm=>by
  have e:(0:Nat)=gb:=by simpa using hm
  rw[<-e,h.zr.1.1] at l0;cases l0)
 have hs2:(w.setCell ⟨gb,0,none⟩ (.int .i32 1)).heap.size=w.heap.size:=by simp
 have HH:=zb h;clear h l0 lz
 go_enter_defers func23,ntmps23
 go_wp2_with fail
 refine HLK.out.mono ?_;rintro e w2 ⟨rfl,rfl⟩;generalize w.setCell ⟨gb,0,none⟩ (.int .i32 1)=x2 at*;have HLI:=zb (zpb x2 hacc2 hn);have c2:=hr2.cell (i:=2) (by decide);simp only[zfq,show(2:Nat)≠0 by omega,show(2:Nat)≠1 by omega,if_false] at c2;go_wp2_with fail
 refine HLI.out.mono ?_;rintro e z ⟨v,ts,sls,rfl,hl,hk,ht,hb⟩;have hrp:=zg hr2 hb;have u0:=hrp.cell (i:=0) (by decide);have uz:=hrp.frozen 0;simp only[if_true] at u0;have hap:=hacc2.kb (Kb.of_below (S:=[]) hb) (by simp);have hzp:=hz2.below hb
 have HE:Hid (∃(v':Value) (ts:List Nat) (sls:List Value),Ending.returned v=.returned v'/\ts.length<=n/\zbS A ts/\Told w.heap.size A ts v' sls (z.setCell ⟨gb,0,none⟩ (.int .i32 0))/\HostAt gb ab n A sb (z.setCell ⟨gb,0,none⟩ (.int .i32 0))/\Kb [gb] w (z.setCell ⟨gb,0,none⟩ (.int .i32 0))):=by
  have hkz:Kb [gb] z (z.setCell ⟨gb,0,none⟩ (.int .i32 0)):=(Kb.refl [gb] z).setCell (Or.inl (by simp)) _;rw[hs2] at ht;refine⟨v,ts,sls,rfl,hl,hk,ht.setlow hgw _,⟨?_,hap.kb hkz (fun k hk hf=>ZN hrp (hap.isMap hf) (List.mem_singleton.1 hk).symm),hzp.kb hkz (fun hm=> ?_)⟩,(hk2.below hb).setCell (Or.inl (by simp)) _⟩
  ·refine(hrp.set 0 (.int .i32 0)).congr fun i hi=> ?_
   by_cases e:i=0
   ·subst e;rfl
   ·simp only[if_neg e]
  ·have e:(0:Nat)=gb:=by simpa using hm
   rw[<-e,hzp.1.1] at u0;cases u0
 obtain⟨ad,cp,rfl⟩:=zS ht.own;clear ht hb hrp hap hzp hk hr2 hacc2 hz2 HLI;go_wp2;refine leaves_cons (f:=32) (args:=#[.pointer (some ⟨gb,0,none⟩)]) (by simp) (by simp[go_sem]) ?_;refine(unlock_deferred zjo ⟨gb,0,none⟩ .returning z u0 uz).mono ?_;rintro e u' w'' ⟨rfl,rfl,rfl⟩;exact⟨.slice ad ts.length cp,by simp[results,results23,go_sem],HE.out⟩
end
section
open Go.Maps
def PhB (wr:World):Nat->World->Prop:=fun _ x=>Below wr.heap.size wr x
theorem zl2 {wr:World} (k:Nat) (x x':World) (h:PhB wr k x) (hb:Below x.heap.size x x'):PhB wr k x':=(show Below wr.heap.size wr x from h).trans (hb.mono (show Below wr.heap.size wr x from h).size)
section
variable {s:Act} {x:World} {pos:String} {af:Array Edge} {gd:Option (Nat×Bool)} {K:Act->World->Prop} {Q:Exit->Act->World->Prop}
theorem zok {t d i:Nat} {ty:TypeId} (h:s.tmps.getD t undef=.int .i64 (i:Int)) (hi:0<i) (hK:K (s.put (some d) (.bool true)) x):
  Oper.wp prog ⟨some d,.binOp .gtr 3 (.tmp t) (.const (.int .i64 0)) 3,ty,pos,af,gd⟩ s x K Q:=by
 have f1:s.eval (.tmp t)=.int .i64 (i:Int):=h;have f2:decide ((0:Int)<(i:Int))=true:=decide_eq_true (by omega);go_simp;exact hK
theorem zqx {t d:Nat} {i:Int} {q:Bool} {ty:TypeId} (h:s.tmps.getD t undef=.int .i64 i) (hq:q=decide ((0:Int)<=i)) (hK:K (s.put (some d) (.bool q)) x):
  Oper.wp prog ⟨some d,.binOp .geq 3 (.tmp t) (.const (.int .i64 0)) 3,ty,pos,af,gd⟩ s x K Q:=by
 have f1:s.eval (.tmp t)=.int .i64 i:=h;rw[hq] at hK;go_simp;exact hK
theorem zj8 {t d i:Nat} {ty:TypeId} (h:s.tmps.getD t undef=.int .i64 (i:Int)) (hi:0<i) (hl:i<=1000000) (hK:K (s.put (some d) (.int .i64 ((i - 1:Nat):Int))) x):
  Oper.wp prog ⟨some d,.binOp .sub 3 (.tmp t) (.const (.int .i64 1)) 3,ty,pos,af,gd⟩ s x K Q:=by
 have f1:s.eval (.tmp t)=.int .i64 (i:Int):=h;have e:((i - 1:Nat):Int)=(i:Int) - 1:=by omega
 rw[e] at hK;go_simp
 go_bits
 exact hK
theorem zpx {t u d j len cap gg o:Nat} {ty:TypeId} (he:s.tmps.getD t undef=.slice (some ⟨gg,o,none⟩) len cap) (hu:s.tmps.getD u undef=.int .i64 (j:Int)) (hj:j<len) (hK:K (s.put (some d) (.pointer (some ⟨gg,o+j*8,none⟩))) x):
  Oper.wp prog ⟨some d,.indexAddr 32 (.tmp t) (.tmp u),ty,pos,af,gd⟩ s x K Q:=by
 have he2:s.eval (.tmp t)=.slice (some ⟨gg,o,none⟩) len cap:=he;have hu2:s.eval (.tmp u)=.int .i64 (j:Int):=hu;go_simp;exact hK
theorem zof {t u d j len cap gg o:Nat} {ty:TypeId} (he:s.tmps.getD t undef=.slice (some ⟨gg,o,none⟩) len cap) (hu:s.tmps.getD u undef=.int .i64 (j:Int)) (hj:j<len) (hK:K (s.put (some d) (.pointer (some ⟨gg,o+j*10,none⟩))) x):
  Oper.wp prog ⟨some d,.indexAddr 35 (.tmp t) (.tmp u),ty,pos,af,gd⟩ s x K Q:=by
 have he2:s.eval (.tmp t)=.slice (some ⟨gg,o,none⟩) len cap:=he;have hu2:s.eval (.tmp u)=.int .i64 (j:Int):=hu;go_simp;exact hK
end
def SlIn (x:World) (v:Value) (l:List (Nat×Nat)):Prop:=∃ad c,v=.slice ad l.length c/\(l=[]\/∃g o,ad=some ⟨g,o,none⟩/\g<x.heap.size/\∀(i:Nat) p,l[i]? =some p->∀j,j<8->x.cell? ⟨g,o+i*8+j,none⟩=some ((ZF p.1++ZF p.2)[j]!))
theorem SlIn.below {x y:World} {v:Value} {l:List (Nat×Nat)} (h:SlIn x v l) (hb:Below x.heap.size x y):SlIn y v l:=by
 obtain⟨ad,c,h1,h2⟩:=h;refine⟨ad,c,h1,h2.imp id ?_⟩;rintro⟨g,o,h3,h4,h5⟩;exact⟨g,o,h3,Nat.lt_of_lt_of_le h4 hb.size,fun i p hp j hj=>(hb.cell h4).trans (h5 i p hp j hj)⟩
def rS (l:List (Nat×Nat)) (i:Nat):Bool:=(i==0|| !decide (0<=Z7 (l.getD (i - 1) (0,0)).1 (l.getD i (0,0)).1))&& !decide ((l.getD i (0,0)).2%M=0)
def zbe (l:List (Nat×Nat)):Bool:=decide (l.length<=20)&&(List.range l.length).all (rS l)
theorem Yf {n i:Nat} {f:Nat->Bool} (hi:i<n) (h:f i=false):(List.range n).all f=false:=by
 rw[List.all_eq_false];exact⟨i,List.mem_range.2 hi,by rw[h];exact Bool.false_ne_true⟩
theorem zfE {n:Nat} {f:Nat->Bool} (h:∀j,j<n->f j=true):(List.range n).all f=true:=List.all_eq_true.2 fun j hj=>h j (List.mem_range.1 hj)
theorem YJ {α:Type} (l:List α) (d:α) {i:Nat} (h:i<l.length):l.getD i d=l[i]:=by rw[List.getD_eq_getElem?_getD,List.getElem?_eq_getElem h];rfl
theorem zhW {v:Value} (l:List (Nat×Nat)) (w:World) (h:SlIn w v l) (hz:Zr w):Calls prog 80 #[v] w fun e w'=>e=.returned (.bool (zbe l))/\Below w.heap.size w w':=by
 obtain⟨ad,cp,rfl,h2⟩:=h;obtain⟨L,HL⟩:∃L,Hid (L=l.length):=⟨_,rfl⟩;obtain⟨R,HR⟩:∃R,Hid (R=zbe l):=⟨_,rfl⟩;rw[<-HR.out,<-HL.out];by_cases hgt:20<L
 ·have hd:decide ((20:Int)<(L:Int))=true:=decide_eq_true (by omega);have e:R=false:=by rw[HR.out];unfold zbe;rw[decide_eq_false (by rw[<-HL.out];omega)];rfl
  rw[e];clear h2;go_enter func80,ntmps80;go_wp2;go_ret;exact⟨rfl,Below.refl _ _⟩
 have hd:decide ((20:Int)<(L:Int))=false:=decide_eq_false (by omega)
 have HR2:Hid (R=(List.range L).all (rS l)):=by
  show R=_;rw[HR.out,HL.out];unfold zbe;rw[decide_eq_true (by rw[<-HL.out];omega)];rfl
 have HS:=zb h2;have HZ:=zb hz;clear h2 hz HR;go_enter func80,ntmps80;go_wp2
 go_loopw [10] (fun t10 wr=>∃i:Nat,i<=L/\t10=.int .i64 (i:Int)/\Hid (Below w.heap.size w wr)/\Hid (∀j,j<i->rS l j=true)) (fun t10 _=>L - (RowKit.intOf t10).toNat)
 case atStart=>exact⟨0,Nat.zero_le _,rfl,Below.refl _ _,fun j hj=>absurd hj (by omega)⟩
 case round=>
  obtain⟨i,hi,rfl,HB,HA⟩:=hrel;by_cases hlt:i<L
  ·have hd2:decide ((i:Int)<(L:Int))=true:=decide_eq_true (by omega);obtain⟨g,o,rfl,hgl,hcell⟩:=HS.out.resolve_left (fun e=>by rw[HL.out,e] at hlt;exact absurd hlt (by simp));have hil:i<l.length:=by rw[<-HL.out];exact hlt
   obtain⟨k9,HK9⟩:∃k9:Nat,Hid (k9=l[i].1):=⟨l[i].1,zb rfl⟩;obtain⟨v9,HV9⟩:∃v9:Nat,Hid (v9=l[i].2):=⟨l[i].2,zb rfl⟩;have hc:=hcell i l[i] (List.getElem?_eq_getElem hil);rw[<-HK9.out,<-HV9.out] at hc;have cc:∀j,j<8->wr.cell? ⟨g,o+i*8+j,none⟩=some ((ZF k9++ZF v9)[j]!):=fun j hj=>(HB.out.cell (by exact hgl)).trans (hc j hj)
   have c0:wr.cell? ⟨g,o+i*8,none⟩=some (.int .u64 (za k9 0)):=cc 0 (by omega);have c1:wr.cell? ⟨g,o+i*8+1,none⟩=some (.int .u64 (za k9 1)):=cc 1 (by omega);have c2:wr.cell? ⟨g,o+i*8+2,none⟩=some (.int .u64 (za k9 2)):=cc 2 (by omega);have c3:wr.cell? ⟨g,o+i*8+3,none⟩=some (.int .u64 (za k9 3)):=cc 3 (by omega);have c4:wr.cell? ⟨g,o+i*8+4,none⟩=some (.int .u64 (za v9 0)):=cc 4 (by omega);have c5:wr.cell? ⟨g,o+i*8+5,none⟩=some (.int .u64 (za v9 1)):=cc 5 (by omega);have c6:wr.cell? ⟨g,o+i*8+6,none⟩=some (.int .u64 (za v9 2)):=cc 6 (by omega);have c7:wr.cell? ⟨g,o+i*8+7,none⟩=some (.int .u64 (za v9 3)):=cc 7 (by omega);have HGL:=zb hgl;have HCL:=zb hcell;have HIL:=zb hil;clear cc hc hcell hgl;by_cases hi9:i=0
   ·subst hi9;simp only[Nat.zero_mul,Nat.add_zero] at c0 c1 c2 c3 c4 c5 c6 c7;obtain⟨q9,hq9⟩:∃q9,q9=false:=⟨_,rfl⟩
    have HRS:Hid (rS l 0=((0==0|| !q9)&& !decide (v9%M=0))):=by
     show rS l 0=_;unfold rS;rw[HV9.out,YJ l (0,0) HIL.out];simp
    have hi9:(0:Nat)=0:=rfl;go_wp2
    go_quiet (fail)
    have hBx:Below w.heap.size w ((wr.alloc (.cells #[.int .u64 (za k9 0),.int .u64 (za k9 1),.int .u64 (za k9 2),.int .u64 (za k9 3),.int .u64 (za v9 0),.int .u64 (za v9 1),.int .u64 (za v9 2),.int .u64 (za v9 3)] 54)).drewN nq):=yG (bal HB.out _) nq;have HBX:=zb hBx;clear hBx;subst hq9;obtain⟨⟨z0,z1,z2,z3⟩,_⟩:=HZ.out.below HBX.out;have hez:=Z8 v9;by_cases hv0:v9%M=0
    ·rw[ze5 hv0] at hez;go_wp2;go_ret;refine⟨?_,HBX.out⟩;rw[HR2.out,Yf hlt (by rw[HRS.out];simp[hv0])];rfl
    ·rw[ziy hv0] at hez;go_wp2;refine⟨⟨0+1,by omega,by simp,HBX.out, ?_⟩, ?_⟩
     ·intro j hj;by_cases e:j=0
      ·subst e;rw[HRS.out];simp[hv0]
      ·exact HA.out j (by omega)
     ·simp[RowKit.intOf];omega
   ·have hi0:0<i:=by omega
    have hil9:i<=1000000:=by omega
    obtain⟨a9,HA9⟩:∃a9:Nat,Hid (a9=(l[i - 1]'(by have:=HIL.out;omega)).1):=⟨(l[i - 1]'(by have:=HIL.out;omega)).1,zb rfl⟩;obtain⟨q9,hq9⟩:∃q9,q9=decide ((0:Int)<=Z7 a9 k9):=⟨_,rfl⟩
    have HRS:Hid (rS l i=((i==0|| !q9)&& !decide (v9%M=0))):=by
     show rS l i=_;unfold rS;rw[hq9,HV9.out,HK9.out,HA9.out,YJ l (0,0) HIL.out,YJ l (0,0) (show i - 1<l.length by have:=HIL.out;omega)]
    go_wp2;obtain⟨wr9,hwr9⟩:∃wr9,wr9=wr.alloc (.cells #[.int .u64 (za k9 0),.int .u64 (za k9 1),.int .u64 (za k9 2),.int .u64 (za k9 3),.int .u64 (za v9 0),.int .u64 (za v9 1),.int .u64 (za v9 2),.int .u64 (za v9 3)] 54):=⟨_,rfl⟩;obtain⟨pb9,hpb9⟩:∃pb9,pb9=wr.heap.size:=⟨_,rfl⟩;have hB9:Below wr.heap.size wr wr9:=by rw[hwr9];exact bal (Below.refl _ _) _
    have hpc:=HCL.out (i - 1) (l[i - 1]'(by have:=HIL.out;omega)) (List.getElem?_eq_getElem (by have:=HIL.out;omega));have hgl9:g<wr9.heap.size:=Nat.lt_of_lt_of_le HGL.out (Nat.le_trans HB.out.size hB9.size);have pc:∀j,j<8->wr9.cell? ⟨g,o+(i - 1)*8+j,none⟩=_:=fun j hj=>((HB.out.trans (hB9.mono HB.out.size)).cell (by exact HGL.out)).trans (hpc j hj)
    rw[<-HA9.out] at pc;have p0:wr9.cell? ⟨g,o+(i - 1)*8,none⟩=some (.int .u64 (za a9 0)):=pc 0 (by omega);have p1:wr9.cell? ⟨g,o+(i - 1)*8+1,none⟩=some (.int .u64 (za a9 1)):=pc 1 (by omega);have p2:wr9.cell? ⟨g,o+(i - 1)*8+2,none⟩=some (.int .u64 (za a9 2)):=pc 2 (by omega);have p3:wr9.cell? ⟨g,o+(i - 1)*8+3,none⟩=some (.int .u64 (za a9 3)):=pc 3 (by omega);have hpl9:pb9<wr9.heap.size:=by rw[hpb9,hwr9];simp
    have hbl:=fun j u hu=>zV wr #[.int .u64 (za k9 0),.int .u64 (za k9 1),.int .u64 (za k9 2),.int .u64 (za k9 3),.int .u64 (za v9 0),.int .u64 (za v9 1),.int .u64 (za v9 2),.int .u64 (za v9 3)] 54 j u hu
    have b0:wr9.cell? ⟨pb9,0,none⟩=some (.int .u64 (za k9 0)):=by rw[hpb9,hwr9];exact hbl 0 _ rfl
    have b1:wr9.cell? ⟨pb9,0+1,none⟩=some (.int .u64 (za k9 1)):=by rw[hpb9,hwr9];exact hbl 1 _ rfl
    have b2:wr9.cell? ⟨pb9,0+2,none⟩=some (.int .u64 (za k9 2)):=by rw[hpb9,hwr9];exact hbl 2 _ rfl
    have b3:wr9.cell? ⟨pb9,0+3,none⟩=some (.int .u64 (za k9 3)):=by rw[hpb9,hwr9];exact hbl 3 _ rfl
    rw[<-hwr9,<-hpb9]
    refine zt (PhB wr9) (fun _ _ _=>True) [(0,(.slice (some ⟨g,o,none⟩) L cp)),(3,(.int .i64 (i:Int))),(4,(.pointer (some ⟨pb9,0,none⟩)))] [(some 15,.v (.int .i64 (i:Int))),(some 16,.v (.bool true)),(some 17,.v (.bool true)),(some 18,.v (.slice (some ⟨g,o,none⟩) L cp)),(some 19,.v (.int .i64 (i:Int))),(some 20,.v (.int .i64 ((i - 1:Nat):Int))),(some 21,.v (.pointer (some ⟨g,o+(i - 1)*8,none⟩))),(some 22,.v (.pointer (some ⟨g,o+(i - 1)*8,none⟩))),(some 23,.v (wv a9)),(some 24,.v (.pointer (some ⟨pb9,0,none⟩))),(some 25,.v (wv k9)),(some 26,.v (.int .i64 (Z7 a9 k9))),(some 27,.v (.bool q9)),(some 28,.v (.bool q9))] [] [1,5,6,8,10,11,12] (by kernel_rfl) (by rfl) (by rfl) (by kernel_rfl) ((Below.refl _ _).drew) (zl2)
      True.intro
      (zf _ _ _ rfl rfl
      (fun k s9 x hk hlo hhi hph hdf hv hl K hK=>by
       have hx:Below wr9.heap.size wr9 x:=hph;exact zok (hv 15 _ rfl) hi0 (hK _ x (Below.refl _ _) nn1 rfl))
      (zf _ _ _ rfl rfl
      (fun k s9 x hk hlo hhi hph hdf hv hl K hK=>by
       have hx:Below wr9.heap.size wr9 x:=hph;exact zj8 (hv 19 _ rfl) hi0 hil9 (hK _ x (Below.refl _ _) nn1 rfl))
      (zf _ _ _ rfl rfl
      (fun k s9 x hk hlo hhi hph hdf hv hl K hK=>by
       have hx:Below wr9.heap.size wr9 x:=hph;exact zpx (hv 18 _ rfl) (hv 20 _ rfl) (by omega) (hK _ x (Below.refl _ _) nn1 rfl))
      (zf _ _ _ rfl rfl
      (fun k s9 x hk hlo hhi hph hdf hv hl K hK=>by
       have hx:Below wr9.heap.size wr9 x:=hph;exact zD (n:=a9) (hv 22 _ rfl) ((hx.cell hgl9).trans p0) ((hx.cell hgl9).trans p1) ((hx.cell hgl9).trans p2) ((hx.cell hgl9).trans p3) (hK _ x (Below.refl _ _) nn1 rfl))
      (zf _ _ _ rfl rfl
      (fun k s9 x hk hlo hhi hph hdf hv hl K hK=>by
       have hx:Below wr9.heap.size wr9 x:=hph;exact zD (n:=k9) (hv 24 _ rfl) ((hx.cell hpl9).trans b0) ((hx.cell hpl9).trans b1) ((hx.cell hpl9).trans b2) ((hx.cell hpl9).trans b3) (hK _ x (Below.refl _ _) nn1 rfl))
      (zf _ _ _ rfl rfl
      (fun k s9 x hk hlo hhi hph hdf hv hl K hK=>by
       have hx:Below wr9.heap.size wr9 x:=hph;refine zZ hv (Yc a9 k9 x) (by kernel_rfl) (fun v y h=> ?_) (fun l y h=>absurd h.1 (by simp)) (fun y h=>absurd h.1 (by simp));obtain⟨e,hb⟩:=h;injection e with e
       subst e;exact hK _ y hb nn1 rfl)
      (zf _ _ _ rfl rfl
      (fun k s9 x hk hlo hhi hph hdf hv hl K hK=>by
       have hx:Below wr9.heap.size wr9 x:=hph;exact zqx (hv 26 _ rfl) hq9 (hK _ x (Below.refl _ _) nn1 rfl))
      True.intro)))))))
      (fun _ _ _ h=>(zu rfl h).elim) (fun _ _ _ h=>(zu rfl h).elim) ?_
    intro gg x hph _;have e4:x.cell? ⟨pb9,4,none⟩=some (.int .u64 (za v9 0)):=((show Below wr9.heap.size wr9 x from hph).cell hpl9).trans (by rw[hpb9,hwr9];exact hbl 4 _ rfl);have e5:x.cell? ⟨pb9,5,none⟩=some (.int .u64 (za v9 1)):=((show Below wr9.heap.size wr9 x from hph).cell hpl9).trans (by rw[hpb9,hwr9];exact hbl 5 _ rfl);have e6:x.cell? ⟨pb9,6,none⟩=some (.int .u64 (za v9 2)):=((show Below wr9.heap.size wr9 x from hph).cell hpl9).trans (by rw[hpb9,hwr9];exact hbl 6 _ rfl);have e7:x.cell? ⟨pb9,7,none⟩=some (.int .u64 (za v9 3)):=((show Below wr9.heap.size wr9 x from hph).cell hpl9).trans (by rw[hpb9,hwr9];exact hbl 7 _ rfl);have hBx:Below w.heap.size w x:=(HB.out.trans (hB9.mono HB.out.size)).trans ((show Below wr9.heap.size wr9 x from hph).mono (Nat.le_trans HB.out.size hB9.size));clear hq9 hph p0 p1 p2 p3 b0 b1 b2 b3 pc hpc hbl hgl9 hpl9 hwr9 hpb9 hB9;simp only[yx,yB,yA,Zj,zF,List.foldl_cons,List.foldl_nil,Act.put];simp only[sx9];have HBX:=zb hBx;clear hBx;cases hqe:q9 with
    |true=>
     subst hqe;go_wp2;go_ret;refine⟨?_,HBX.out⟩;rw[HR2.out,Yf hlt (by rw[HRS.out];simp[hi9])];rfl
    |false=>
     subst hqe;obtain⟨⟨z0,z1,z2,z3⟩,_⟩:=HZ.out.below HBX.out;have hez:=Z8 v9;by_cases hv0:v9%M=0
     ·rw[ze5 hv0] at hez;go_wp2;go_ret;refine⟨?_,HBX.out⟩;rw[HR2.out,Yf hlt (by rw[HRS.out];simp[hv0])];rfl
     ·rw[ziy hv0] at hez;go_wp2;refine⟨⟨i+1,by omega,by simp,HBX.out, ?_⟩, ?_⟩
      ·intro j hj;by_cases e:j=i
       ·subst e;rw[HRS.out];simp[hv0]
       ·exact HA.out j (by omega)
      ·simp[RowKit.intOf];omega
  ·have hd2:decide ((i:Int)<(L:Int))=false:=decide_eq_false (by omega);have HA2:Hid (∀j,j<L->rS l j=true):=fun j hj=>HA.out j (by omega)
   clear HA;go_wp2;go_ret;refine⟨?_,HB.out⟩;rw[HR2.out,zfE HA2.out];rfl
end
section
open Go.Maps
structure AcE where
 at':Nat
 bal:Nat
 code:ByteArray
 slots:List (Nat×Nat)
def ac0:AcE:=⟨0,0,⟨#[]⟩,[]⟩
def AcIn (x:World) (v:Value) (l:List AcE):Prop:=∃ad c,v=.slice ad l.length c/\(l=[]\/∃g o,ad=some ⟨g,o,none⟩/\g<x.heap.size/\∀(i:Nat) a,l[i]? =some a->∃sl,(∀j,j<10->x.cell? ⟨g,o+i*10+j,none⟩=some ((acC a.at' a.bal a.code sl)[j]!))/\SlIn x sl a.slots)
theorem AcIn.below {x y:World} {v:Value} {l:List AcE} (h:AcIn x v l) (hb:Below x.heap.size x y):AcIn y v l:=by
 obtain⟨ad,c,h1,h2⟩:=h;refine⟨ad,c,h1,h2.imp id ?_⟩;rintro⟨g,o,h3,h4,h5⟩;refine⟨g,o,h3,Nat.lt_of_lt_of_le h4 hb.size,fun i p hp=> ?_⟩;obtain⟨sl,h6,h7⟩:=h5 i p hp;exact⟨sl,fun j hj=>(hb.cell h4).trans (h6 j hj),h7.below hb⟩
def rA (l:List AcE) (i:Nat):Bool:=(i==0|| !decide (0<=Z7 (l.getD (i - 1) ac0).at' (l.getD i ac0).at'))&&(decide ((l.getD i ac0).code.size<=1000)&&zbe (l.getD i ac0).slots)
def zaL (l:List AcE):Bool:=decide (l.length<=8)&&(List.range l.length).all (rA l)
theorem zkb {v:Value} (l:List AcE) (w:World) (h:AcIn w v l) (hz:Zr w):Calls prog 55 #[v] w fun e w'=>e=.returned (.bool (zaL l))/\Below w.heap.size w w':=by
 obtain⟨ad,cp,rfl,h2⟩:=h;obtain⟨L,HL⟩:∃L,Hid (L=l.length):=⟨_,rfl⟩;obtain⟨R,HR⟩:∃R,Hid (R=zaL l):=⟨_,rfl⟩;rw[<-HR.out,<-HL.out];by_cases hgt:8<L
 ·have hd:decide ((8:Int)<(L:Int))=true:=decide_eq_true (by omega);have e:R=false:=by rw[HR.out];unfold zaL;rw[decide_eq_false (by rw[<-HL.out];omega)];rfl
  rw[e];clear h2;go_enter func55,ntmps55;go_wp2;go_ret;exact⟨rfl,Below.refl _ _⟩
 have hd:decide ((8:Int)<(L:Int))=false:=decide_eq_false (by omega)
 have HR2:Hid (R=(List.range L).all (rA l)):=by
  show R=_;rw[HR.out,HL.out];unfold zaL;rw[decide_eq_true (by rw[<-HL.out];omega)];rfl
 have HS:=zb h2;have HZ:=zb hz;clear h2 hz HR;go_enter func55,ntmps55;go_wp2
 go_loopw [10] (fun t10 wr=>∃i:Nat,i<=L/\t10=.int .i64 (i:Int)/\Hid (Below w.heap.size w wr)/\Hid (∀j,j<i->rA l j=true)) (fun t10 _=>L - (RowKit.intOf t10).toNat)
 case atStart=>exact⟨0,Nat.zero_le _,rfl,Below.refl _ _,fun j hj=>absurd hj (by omega)⟩
 case round=>
  obtain⟨i,hi,rfl,HB,HA⟩:=hrel;by_cases hlt:i<L
  ·have hd2:decide ((i:Int)<(L:Int))=true:=decide_eq_true (by omega);obtain⟨g,o,rfl,hgl,hcell⟩:=HS.out.resolve_left (fun e=>by rw[HL.out,e] at hlt;exact absurd hlt (by simp));have hil:i<l.length:=by rw[<-HL.out];exact hlt
   obtain⟨a,HAE⟩:∃a,Hid (a=l[i]):=⟨l[i],zb rfl⟩;obtain⟨sl,hc,hsl⟩:=hcell i l[i] (List.getElem?_eq_getElem hil);rw[<-HAE.out] at hc hsl;obtain⟨k9,bl9,cd9,ss⟩:=a;dsimp only at hc hsl;obtain⟨r8,HR8⟩:∃r8,Hid (r8=zbe ss):=⟨_,rfl⟩
   have HSL:Hid (∀x,Below w.heap.size w x->Calls prog 80 #[sl] x fun e w'=>e=.returned (.bool r8)/\Below x.heap.size x w'):=fun x hx=>by
    rw[HR8.out];exact zhW ss x (hsl.below hx) (HZ.out.below hx)
   obtain⟨ad2,cq2,rfl,_⟩:=hsl;obtain⟨n2,HN2⟩:∃n2,Hid (n2=ss.length):=⟨_,rfl⟩;rw[<-HN2.out] at hc HSL;have cc:∀j,j<10->wr.cell? ⟨g,o+i*10+j,none⟩=some ((acC k9 bl9 cd9 (.slice ad2 n2 cq2))[j]!):=fun j hj=>(HB.out.cell (by exact hgl)).trans (hc j hj)
   have c0:wr.cell? ⟨g,o+i*10,none⟩=some (.int .u64 (za k9 0)):=cc 0 (by omega);have c1:wr.cell? ⟨g,o+i*10+1,none⟩=some (.int .u64 (za k9 1)):=cc 1 (by omega);have c2:wr.cell? ⟨g,o+i*10+2,none⟩=some (.int .u64 (za k9 2)):=cc 2 (by omega);have c3:wr.cell? ⟨g,o+i*10+3,none⟩=some (.int .u64 (za k9 3)):=cc 3 (by omega);have c4:wr.cell? ⟨g,o+i*10+4,none⟩=some (.int .u64 (za bl9 0)):=cc 4 (by omega);have c5:wr.cell? ⟨g,o+i*10+5,none⟩=some (.int .u64 (za bl9 1)):=cc 5 (by omega);have c6:wr.cell? ⟨g,o+i*10+6,none⟩=some (.int .u64 (za bl9 2)):=cc 6 (by omega);have c7:wr.cell? ⟨g,o+i*10+7,none⟩=some (.int .u64 (za bl9 3)):=cc 7 (by omega);have c8:wr.cell? ⟨g,o+i*10+8,none⟩=some (.string cd9):=cc 8 (by omega);have c9:wr.cell? ⟨g,o+i*10+9,none⟩=some (.slice ad2 n2 cq2):=cc 9 (by omega);have HGL:=zb hgl;have HCL:=zb hcell;have HIL:=zb hil;clear cc hc hcell hgl;by_cases hi9:i=0
   ·subst hi9;simp only[Nat.zero_mul,Nat.add_zero] at c0 c1 c2 c3 c4 c5 c6 c7 c8 c9;obtain⟨q9,hq9⟩:∃q9,q9=false:=⟨_,rfl⟩
    have HRS:Hid (rA l 0=((0==0|| !q9)&&(decide (cd9.size<=1000)&&r8))):=by
     show rA l 0=_;unfold rA;rw[YJ l ac0 HIL.out,<-HAE.out,HR8.out];simp
    have hi9:(0:Nat)=0:=rfl;go_wp2
    go_quiet (fail)
    have hBx:Below w.heap.size w ((wr.alloc (.cells #[.int .u64 (za k9 0),.int .u64 (za k9 1),.int .u64 (za k9 2),.int .u64 (za k9 3),.int .u64 (za bl9 0),.int .u64 (za bl9 1),.int .u64 (za bl9 2),.int .u64 (za bl9 3),.string cd9,.slice ad2 n2 cq2] 34)).drewN nq):=yG (bal HB.out _) nq;have HBX:=zb hBx;clear hBx;subst hq9;by_cases hcd:1000<cd9.size
    ·have hd3:decide ((1000:Int)<(cd9.size:Int))=true:=decide_eq_true (by omega);go_wp2;go_ret;refine⟨?_,HBX.out⟩;rw[HR2.out,Yf hlt (by rw[HRS.out,decide_eq_false (show¬cd9.size<=1000 by omega)];simp)];rfl
    ·have hd3:decide ((1000:Int)<(cd9.size:Int))=false:=decide_eq_false (by omega);have HAR:=zb (HSL.out _ HBX.out);clear HSL;cases hre:r8 with
     |false=>
      subst hre;go_wp2_with (first|(go_at_call 80;refine HAR.out.mono ?_;rintro e w9 ⟨rfl,hb9⟩)|fail)
      go_ret;refine⟨?_,HBX.out.trans (hb9.mono HBX.out.size)⟩;rw[HR2.out,Yf hlt (by rw[HRS.out];simp)];rfl
     |true=>
      subst hre;go_wp2_with (first|(go_at_call 80;refine HAR.out.mono ?_;rintro e w9 ⟨rfl,hb9⟩)|fail)
      refine⟨⟨0+1,by omega,by simp,HBX.out.trans (hb9.mono HBX.out.size), ?_⟩, ?_⟩
      ·intro j hj;by_cases e:j=0
       ·subst e;rw[HRS.out,decide_eq_true (show cd9.size<=1000 by omega)];simp
       ·exact HA.out j (by omega)
      ·simp[RowKit.intOf];omega
   ·have hi0:0<i:=by omega
    have hil9:i<=1000000:=by omega
    obtain⟨a9,HA9⟩:∃a9:Nat,Hid (a9=(l[i - 1]'(by have:=HIL.out;omega)).at'):=⟨(l[i - 1]'(by have:=HIL.out;omega)).at',zb rfl⟩;obtain⟨q9,hq9⟩:∃q9,q9=decide ((0:Int)<=Z7 a9 k9):=⟨_,rfl⟩
    have HRS:Hid (rA l i=((i==0|| !q9)&&(decide (cd9.size<=1000)&&r8))):=by
     show rA l i=_;unfold rA;rw[YJ l ac0 HIL.out,YJ l ac0 (show i - 1<l.length by have:=HIL.out;omega),<-HAE.out,<-HA9.out,HR8.out,hq9]
    go_wp2;obtain⟨wr9,hwr9⟩:∃wr9,wr9=wr.alloc (.cells #[.int .u64 (za k9 0),.int .u64 (za k9 1),.int .u64 (za k9 2),.int .u64 (za k9 3),.int .u64 (za bl9 0),.int .u64 (za bl9 1),.int .u64 (za bl9 2),.int .u64 (za bl9 3),.string cd9,.slice ad2 n2 cq2] 34):=⟨_,rfl⟩;obtain⟨pb9,hpb9⟩:∃pb9,pb9=wr.heap.size:=⟨_,rfl⟩;have hB9:Below wr.heap.size wr wr9:=by rw[hwr9];exact bal (Below.refl _ _) _
    obtain⟨slp,hpc,_⟩:=HCL.out (i - 1) (l[i - 1]'(by have:=HIL.out;omega)) (List.getElem?_eq_getElem (by have:=HIL.out;omega));have hgl9:g<wr9.heap.size:=Nat.lt_of_lt_of_le HGL.out (Nat.le_trans HB.out.size hB9.size);have pc:∀j,j<10->wr9.cell? ⟨g,o+(i - 1)*10+j,none⟩=_:=fun j hj=>((HB.out.trans (hB9.mono HB.out.size)).cell (by exact HGL.out)).trans (hpc j hj)
    rw[<-HA9.out] at pc;have p0:wr9.cell? ⟨g,o+(i - 1)*10,none⟩=some (.int .u64 (za a9 0)):=pc 0 (by omega);have p1:wr9.cell? ⟨g,o+(i - 1)*10+1,none⟩=some (.int .u64 (za a9 1)):=pc 1 (by omega);have p2:wr9.cell? ⟨g,o+(i - 1)*10+2,none⟩=some (.int .u64 (za a9 2)):=pc 2 (by omega);have p3:wr9.cell? ⟨g,o+(i - 1)*10+3,none⟩=some (.int .u64 (za a9 3)):=pc 3 (by omega);have hpl9:pb9<wr9.heap.size:=by rw[hpb9,hwr9];simp
    have hbl:=fun j u hu=>zV wr #[.int .u64 (za k9 0),.int .u64 (za k9 1),.int .u64 (za k9 2),.int .u64 (za k9 3),.int .u64 (za bl9 0),.int .u64 (za bl9 1),.int .u64 (za bl9 2),.int .u64 (za bl9 3),.string cd9,.slice ad2 n2 cq2] 34 j u hu
    have b0:wr9.cell? ⟨pb9,0,none⟩=some (.int .u64 (za k9 0)):=by rw[hpb9,hwr9];exact hbl 0 _ rfl
    have b1:wr9.cell? ⟨pb9,0+1,none⟩=some (.int .u64 (za k9 1)):=by rw[hpb9,hwr9];exact hbl 1 _ rfl
    have b2:wr9.cell? ⟨pb9,0+2,none⟩=some (.int .u64 (za k9 2)):=by rw[hpb9,hwr9];exact hbl 2 _ rfl
    have b3:wr9.cell? ⟨pb9,0+3,none⟩=some (.int .u64 (za k9 3)):=by rw[hpb9,hwr9];exact hbl 3 _ rfl
    rw[<-hwr9,<-hpb9]
    refine zt (PhB wr9) (fun _ _ _=>True) [(0,(.slice (some ⟨g,o,none⟩) L cp)),(3,(.int .i64 (i:Int))),(4,(.pointer (some ⟨pb9,0,none⟩)))] [(some 15,.v (.int .i64 (i:Int))),(some 16,.v (.bool true)),(some 17,.v (.bool true)),(some 18,.v (.slice (some ⟨g,o,none⟩) L cp)),(some 19,.v (.int .i64 (i:Int))),(some 20,.v (.int .i64 ((i - 1:Nat):Int))),(some 21,.v (.pointer (some ⟨g,o+(i - 1)*10,none⟩))),(some 22,.v (.pointer (some ⟨g,o+(i - 1)*10,none⟩))),(some 23,.v (wv a9)),(some 24,.v (.pointer (some ⟨pb9,0,none⟩))),(some 25,.v (wv k9)),(some 26,.v (.int .i64 (Z7 a9 k9))),(some 27,.v (.bool q9)),(some 28,.v (.bool q9))] [] [1,5,6,8,10,11,12] (by kernel_rfl) (by rfl) (by rfl) (by kernel_rfl) ((Below.refl _ _).drew) (zl2)
      True.intro
      (zf _ _ _ rfl rfl
      (fun k s9 x hk hlo hhi hph hdf hv hl K hK=>by
       have hx:Below wr9.heap.size wr9 x:=hph;exact zok (hv 15 _ rfl) hi0 (hK _ x (Below.refl _ _) nn1 rfl))
      (zf _ _ _ rfl rfl
      (fun k s9 x hk hlo hhi hph hdf hv hl K hK=>by
       have hx:Below wr9.heap.size wr9 x:=hph;exact zj8 (hv 19 _ rfl) hi0 hil9 (hK _ x (Below.refl _ _) nn1 rfl))
      (zf _ _ _ rfl rfl
      (fun k s9 x hk hlo hhi hph hdf hv hl K hK=>by
       have hx:Below wr9.heap.size wr9 x:=hph;exact zof (hv 18 _ rfl) (hv 20 _ rfl) (by omega) (hK _ x (Below.refl _ _) nn1 rfl))
      (zf _ _ _ rfl rfl
      (fun k s9 x hk hlo hhi hph hdf hv hl K hK=>by
       have hx:Below wr9.heap.size wr9 x:=hph;exact zD (n:=a9) (hv 22 _ rfl) ((hx.cell hgl9).trans p0) ((hx.cell hgl9).trans p1) ((hx.cell hgl9).trans p2) ((hx.cell hgl9).trans p3) (hK _ x (Below.refl _ _) nn1 rfl))
      (zf _ _ _ rfl rfl
      (fun k s9 x hk hlo hhi hph hdf hv hl K hK=>by
       have hx:Below wr9.heap.size wr9 x:=hph;exact zD (n:=k9) (hv 24 _ rfl) ((hx.cell hpl9).trans b0) ((hx.cell hpl9).trans b1) ((hx.cell hpl9).trans b2) ((hx.cell hpl9).trans b3) (hK _ x (Below.refl _ _) nn1 rfl))
      (zf _ _ _ rfl rfl
      (fun k s9 x hk hlo hhi hph hdf hv hl K hK=>by
       have hx:Below wr9.heap.size wr9 x:=hph;refine zZ hv (Yc a9 k9 x) (by kernel_rfl) (fun v y h=> ?_) (fun l y h=>absurd h.1 (by simp)) (fun y h=>absurd h.1 (by simp));obtain⟨e,hb⟩:=h;injection e with e
       subst e;exact hK _ y hb nn1 rfl)
      (zf _ _ _ rfl rfl
      (fun k s9 x hk hlo hhi hph hdf hv hl K hK=>by
       have hx:Below wr9.heap.size wr9 x:=hph;exact zqx (hv 26 _ rfl) hq9 (hK _ x (Below.refl _ _) nn1 rfl))
      True.intro)))))))
      (fun _ _ _ h=>(zu rfl h).elim) (fun _ _ _ h=>(zu rfl h).elim) ?_
    intro gg x hph _;have e8:x.cell? ⟨pb9,8,none⟩=some (.string cd9):=((show Below wr9.heap.size wr9 x from hph).cell hpl9).trans (by rw[hpb9,hwr9];exact hbl 8 _ rfl);have e9:x.cell? ⟨pb9,9,none⟩=some (.slice ad2 n2 cq2):=((show Below wr9.heap.size wr9 x from hph).cell hpl9).trans (by rw[hpb9,hwr9];exact hbl 9 _ rfl);have hBx:Below w.heap.size w x:=(HB.out.trans (hB9.mono HB.out.size)).trans ((show Below wr9.heap.size wr9 x from hph).mono (Nat.le_trans HB.out.size hB9.size));clear hq9 hph p0 p1 p2 p3 b0 b1 b2 b3 pc hpc hbl hgl9 hpl9 hwr9 hpb9 hB9;simp only[yx,yB,yA,Zj,zF,List.foldl_cons,List.foldl_nil,Act.put];simp only[sx9];have HBX:=zb hBx;clear hBx;cases hqe:q9 with
    |true=>
     subst hqe;go_wp2;go_ret;refine⟨?_,HBX.out⟩;rw[HR2.out,Yf hlt (by rw[HRS.out];simp[hi9])];rfl
    |false=>
     subst hqe;by_cases hcd:1000<cd9.size
     ·have hd3:decide ((1000:Int)<(cd9.size:Int))=true:=decide_eq_true (by omega);go_wp2;go_ret;refine⟨?_,HBX.out⟩;rw[HR2.out,Yf hlt (by rw[HRS.out,decide_eq_false (show¬cd9.size<=1000 by omega)];simp)];rfl
     ·have hd3:decide ((1000:Int)<(cd9.size:Int))=false:=decide_eq_false (by omega);have HAR:=zb (HSL.out _ HBX.out);clear HSL;cases hre:r8 with
      |false=>
       subst hre;go_wp2_with (first|(go_at_call 80;refine HAR.out.mono ?_;rintro e w9 ⟨rfl,hb9⟩)|fail)
       go_ret;refine⟨?_,HBX.out.trans (hb9.mono HBX.out.size)⟩;rw[HR2.out,Yf hlt (by rw[HRS.out];simp)];rfl
      |true=>
       subst hre;go_wp2_with (first|(go_at_call 80;refine HAR.out.mono ?_;rintro e w9 ⟨rfl,hb9⟩)|fail)
       refine⟨⟨i+1,by omega,by simp,HBX.out.trans (hb9.mono HBX.out.size), ?_⟩, ?_⟩
       ·intro j hj;by_cases e:j=i
        ·subst e;rw[HRS.out,decide_eq_true (show cd9.size<=1000 by omega)];simp
        ·exact HA.out j (by omega)
       ·simp[RowKit.intOf];omega
  ·have hd2:decide ((i:Int)<(L:Int))=false:=decide_eq_false (by omega);have HA2:Hid (∀j,j<L->rA l j=true):=fun j hj=>HA.out j (by omega)
   clear HA;go_wp2;go_ret;refine⟨?_,HB.out⟩;rw[HR2.out,zfE HA2.out];rfl
end
section
open Go.Maps
def paidF (F:Fz) (c:Nat):Fz:={onF F with gas:=F.gas - c}
end
theorem zoN:prog.cellsOf 5=1:=by kernel_rfl
theorem u8_info:(prog.info? 5).map (·.size)=some 1:=by kernel_rfl
theorem ty_u8s:prog.underlying 26=some (.slice 5):=by kernel_rfl
theorem ty_pu8:prog.underlying 253=some (.pointer 5):=by kernel_rfl
theorem zjR (s:ByteArray) (h0:s.size≠0) (hs:s.size<=100000) (w:World):Calls prog 146 #[.string s] w fun e w'=>e=.returned (.string s)/\Below w.heap.size w w':=by
 have hmk:=ze6 s.size (by omega);have hZs:(madeCells #[Value.int .u8 0] s.size).size=s.size:=by simp[size_madeCells]
 generalize madeCells #[Value.int .u8 0] s.size=Z at*;have hcp:=Lib.run_copy_row_string (P:=prog) (w.alloc (.cells Z 5)) 26 9 3 5 w.heap.size 0 s.size s.size s Z 5 ty_u8s u8_info (heap_alloc_new w _) (Nat.le_refl _) (by omega)
 have hrow:(Z.toList.take 0++Lib.byteCells s.data.toList++Z.toList.drop (0+s.size)).toArray=(Lib.byteCells s.data.toList).toArray:=by
  rw[List.take_zero,List.nil_append,List.drop_of_length_le (by rw[Array.length_toList];omega),List.append_nil]
 rw[hrow] at hcp;have hbl:(Lib.byteCells s.data.toList).toArray.size=s.size:=by rw[List.size_toArray,Lib.byteCells_length,<-Lib.size_eq]
 have hg:=setRow_heap (w.alloc (.cells Z 5)) w.heap.size Z (Lib.byteCells s.data.toList).toArray 5 (0,0) (heap_alloc_new w _)
 have hus:=Lib.run_unsafeString_row (P:=prog) ((w.alloc (.cells Z 5)).setRow w.heap.size (Lib.byteCells s.data.toList).toArray) 253 3 9 5 ty_pu8 zoN w.heap.size (Lib.byteCells s.data.toList).toArray.size (by unfold World.shape?;rw[hg]) s.data.toList (fun e=>h0 (by rw[Lib.size_eq,e];rfl)) (by rw[<-Lib.size_eq];omega) (by rw[<-Lib.size_eq];omega)
  (fun j x hx=>Lib.cells_of_row hg (Lib.byteCells s.data.toList).toArray.size j _ (by rw[List.take_of_length_le (by simp)];simp[Lib.byteCells,hx]))
 rw[<-Lib.size_eq] at hus;have hB:Below w.heap.size w ((w.alloc (.cells Z 5)).setRow w.heap.size (Lib.byteCells s.data.toList).toArray):=(bal (Below.refl _ w) _).trans ⟨rfl,rfl,rfl,by simp,fun k hk=>setRow_other _ _ _ _ (by omega)⟩;have HB:=zb (Lib.below_freeze hB (p:=⟨w.heap.size,0,none⟩) (Nat.le_refl _) s.size);have d0:((s.size:Int)==0)=false:=by rw[beq_eq_false_iff_ne];omega
 clear hB hg hrow;generalize(Lib.byteCells s.data.toList).toArray=Y at*;go_enter func146,ntmps146;go_wp2;go_ret;exact⟨rfl,HB.out⟩
theorem znI (s:ByteArray) (hs:s.size<=100000) (w:World):Calls prog 82 #[.string s] w fun e w'=>e=.returned (.string s)/\Below w.heap.size w w':=by
 have HC:Hid (Calls prog 146 #[.string s] w fun e w'=>e=.returned (.string s)/\Below w.heap.size w w'):=by
  by_cases h0:s.size=0
  ·obtain rfl:s=⟨#[]⟩:=ByteArray.ext (Array.eq_empty_of_size_eq_zero h0);show Calls _ _ _ _ _;go_enter func146,ntmps146;go_wp2;go_ret;exact⟨rfl,Below.refl _ _⟩
  ·exact zjR s h0 hs w
 go_enter func82,ntmps82;go_wp2_with fail
 refine HC.out.mono ?_;rintro e w1 ⟨rfl,hb⟩;have HB:=zb hb;clear hb HC;go_wp2;go_ret;exact⟨rfl,HB.out⟩
section
open Go.Maps
def noA:Nat->Acc:=fun _=>⟨0,⟨#[]⟩,fun _=>0⟩
theorem zhU (m:Nat):(noA m).no:=⟨rfl,rfl,fun _=>rfl⟩
theorem znY (w:World):Accs w.heap.size 0 noA (fun _=>.map none) (w.alloc (.map #[] 0)):=
 ⟨⟨_,AM.made w,fun m=>⟨fun _=>rfl,fun h=>absurd (zhU m) h⟩⟩,fun m h=>absurd (zhU m) h,fun m m' b h=>absurd (zhU m) h,fun m m' e=>⟨rfl,rfl⟩⟩
def zbt (l:List (Nat×Nat)):Nat->Nat:=l.foldl (fun s p=>zau s p.1 p.2) (fun _=>0)
def YL (a:AcE):Acc:=⟨a.bal,a.code,zbt a.slots⟩
def ZY (l:List AcE):Nat->Acc:=l.foldl (fun A a=>Zv A a.at' (YL a)) noA
theorem zld {l:List (Nat×Nat)} {j:Nat} (h:j<l.length):zbt (l.take (j+1))=zau (zbt (l.take j)) l[j].1 l[j].2:=by
 rw[List.take_succ_eq_append_getElem h];unfold zbt;rw[List.foldl_append];rfl
theorem ziL {l:List AcE} {j:Nat} (h:j<l.length):ZY (l.take (j+1))=Zv (ZY (l.take j)) l[j].at' (YL l[j]):=by
 rw[List.take_succ_eq_append_getElem h];unfold ZY;rw[List.foldl_append];rfl
def PhK (R:World->Prop) (w:World):Nat->World->Prop
 |0,x=>Below w.heap.size w x
 |_+1,x=>R x
theorem zeW {R:World->Prop} {w x:World} {k:Nat} (h:PhK R w k x) (hk:k<=0):Below w.heap.size w x:=by
 obtain rfl:k=0:=by omega
 exact h
theorem phk_bel {R:World->Prop} {w:World} (hst:∀x x',R x->Below x.heap.size x x'->R x') (k:Nat) (x x':World) (h:PhK R w k x) (hb:Below x.heap.size x x'):PhK R w k x':=by
 match k,h with
 |0,h=>exact(show Below w.heap.size w x from h).trans (hb.mono (show Below w.heap.size w x from h).size)
 |_+1,h=>exact hst x x' h hb
def zet (ab n:Nat) (A:Nat->Acc) (w y:World):Prop:=(∃sb,Accs ab n A sb y/\∀k,ZZ ab A sb k->ab<=k)/\Below w.heap.size w y
theorem zoG {ab n sm9:Nat} {A:Nat->Acc} {w wr9 x:World} (hab:ab=w.heap.size) {sb:Nat->Value} (hac:Accs ab n A sb wr9) (hft:∀k,ZZ ab A sb k->ab<=k/\k<sm9) (hbw:Below w.heap.size w wr9) (a:AcE) (hsm:AM wr9 sm9 n (Zs (zbt a.slots))) (hsa:ab<sm9) (hn:n<=100) (hz:Zr w) (hx:Below wr9.heap.size wr9 x):
  Calls prog 81 #[.map (some ab),wv a.at',Z2 a.bal a.code (.map (some sm9))] x fun e w'=>e=.returned (.tuple #[])/\zet ab (n+1) (Zv A a.at' (YL a)) w w':=by
 have hBx:Below w.heap.size w x:=hbw.trans (hx.mono hbw.size);have hK:=Kb.of_below (S:=[]) hx;refine(zh6 (YL a) (.map (some sm9)) x ((hac.kb hK (by simp)).x a.at') (Or.inr ⟨_,rfl,by omega,hsm.kb hK (by simp)⟩) (fun m b _ h1 h2 h3=> ?_) (by omega) (hz.below hBx)).mono ?_
 ·injection h3 with h3
  injection h3 with h3
  have:=(hft b (Or.inr ⟨m,h1,h2⟩)).2;omega
 ·rintro e y ⟨h1,h2,h3⟩;refine⟨h1,⟨_,h2,fun k hf=> ?_⟩, ?_⟩
  ·rcases hf with e|⟨m,q1,q2⟩
   ·omega
   ·unfold Zv at q1 q2;split at q2
    ·injection q2 with q2
     injection q2 with q2
     omega
    ·rename_i hne;rw[if_neg hne] at q1;exact(hft k (Or.inr ⟨m,q1,q2⟩)).1
  ·exact((Kb.of_below (S:=[]) hBx).trans h3 (fun i hi=>Or.inr (by have:=List.mem_singleton.1 hi;omega))).to_below
theorem zpt {v:Value} (l:List AcE) (w:World) (h:AcIn w v l) (hz:Zr w) (hl:l.length<=8) (hr:∀a∈l,a.code.size<=1000/\a.slots.length<=20/\∀p∈a.slots,p.2%M≠0):Calls prog 56 #[v] w fun e w'=>e=.returned (.map (some w.heap.size))/\∃n,n<=40/\zet w.heap.size n (ZY l) w w':=by
 obtain⟨ad,cp,rfl,h2⟩:=h;obtain⟨L,HL⟩:∃L,Hid (L=l.length):=⟨_,rfl⟩;rw[<-HL.out];have hl8:L<=8:=by rw[HL.out];exact hl
 have hmm:=@run_makeMap prog;have HS:=zb h2;have HZ:=zb hz;have HR:=zb hr;clear h2 hz hr hl;go_enter func56,ntmps56;go_wp2
 go_loopw [12] (fun t12 wr=>∃i:Nat,i<=L/\t12=.int .i64 (i:Int)/\Hid (zet w.heap.size (20+i) (ZY (l.take i)) w wr)/\Hid (w.heap.size<wr.heap.size)) (fun t12 _=>L - (RowKit.intOf t12).toNat)
 case atStart=>exact⟨0,Nat.zero_le _,rfl,⟨⟨_,(znY w).mono (by omega),fun k hk=>by
  rcases hk with e|⟨m,h1,_⟩
  ·omega
  ·exact absurd (zhU m) h1⟩,bal (Below.refl _ w) _⟩,by show _<_;simp⟩
 case round=>
  obtain⟨i,hi,rfl,HK,HSZ⟩:=hrel;obtain⟨wo,rfl⟩:∃wo,wo=wr:=⟨_,rfl⟩;by_cases hlt:i<L
  ·have hd2:decide ((i:Int)<(L:Int))=true:=decide_eq_true (by omega);obtain⟨g,o,rfl,hgl,hcell⟩:=HS.out.resolve_left (fun e=>by rw[HL.out,e] at hlt;exact absurd hlt (by simp));have hil:i<l.length:=by rw[<-HL.out];exact hlt
   obtain⟨a,HA⟩:∃a,Hid (a=l[i]):=⟨l[i],zb rfl⟩;obtain⟨sl,hc,hsl⟩:=hcell i l[i] (List.getElem?_eq_getElem hil);rw[<-HA.out] at hc hsl;obtain⟨ad2,cq2,rfl,hs2⟩:=hsl;have HRA:=zb (HR.out l[i] (List.getElem_mem hil));rw[<-HA.out] at HRA;have HAS:=zb (ziL hil);rw[<-HA.out] at HAS;obtain⟨a9,bl9,cd9,ss⟩:=a;obtain⟨n2,HN2⟩:∃n2,Hid (n2=ss.length):=⟨_,rfl⟩;dsimp only at hc hs2 HRA HAS;rw[<-HN2.out] at hc;have hn20:n2<=20:=by rw[HN2.out];exact HRA.out.2.1
   have cc:∀j,j<10->wo.cell? ⟨g,o+i*10+j,none⟩=some ((acC a9 bl9 cd9 (.slice ad2 n2 cq2))[j]!):=fun j hj=>(HK.out.2.cell (by exact hgl)).trans (hc j hj)
   have c0:wo.cell? ⟨g,o+i*10,none⟩=some (.int .u64 (za a9 0)):=cc 0 (by omega);have c1:wo.cell? ⟨g,o+i*10+1,none⟩=some (.int .u64 (za a9 1)):=cc 1 (by omega);have c2:wo.cell? ⟨g,o+i*10+2,none⟩=some (.int .u64 (za a9 2)):=cc 2 (by omega);have c3:wo.cell? ⟨g,o+i*10+3,none⟩=some (.int .u64 (za a9 3)):=cc 3 (by omega);have c4:wo.cell? ⟨g,o+i*10+4,none⟩=some (.int .u64 (za bl9 0)):=cc 4 (by omega);have c5:wo.cell? ⟨g,o+i*10+5,none⟩=some (.int .u64 (za bl9 1)):=cc 5 (by omega);have c6:wo.cell? ⟨g,o+i*10+6,none⟩=some (.int .u64 (za bl9 2)):=cc 6 (by omega);have c7:wo.cell? ⟨g,o+i*10+7,none⟩=some (.int .u64 (za bl9 3)):=cc 7 (by omega);have c8:wo.cell? ⟨g,o+i*10+8,none⟩=some (.string cd9):=cc 8 (by omega);have c9:wo.cell? ⟨g,o+i*10+9,none⟩=some (.slice ad2 n2 cq2):=cc 9 (by omega);have HGL:=zb hgl;have HSS:=zb hs2;have HIL:=zb hil;clear cc hc hcell hgl hs2;go_wp2;have hB4:Below wo.heap.size wo ((wo.alloc (.cells #[.int .u64 (za a9 0),.int .u64 (za a9 1),.int .u64 (za a9 2),.int .u64 (za a9 3),.int .u64 (za bl9 0),.int .u64 (za bl9 1),.int .u64 (za bl9 2),.int .u64 (za bl9 3),.string cd9,.slice ad2 n2 cq2] 34)).alloc (.map #[] 0)):=bal (bal (Below.refl _ _) _) _;obtain⟨w4,hw4⟩:∃w4,w4=(wo.alloc (.cells #[.int .u64 (za a9 0),.int .u64 (za a9 1),.int .u64 (za a9 2),.int .u64 (za a9 3),.int .u64 (za bl9 0),.int .u64 (za bl9 1),.int .u64 (za bl9 2),.int .u64 (za bl9 3),.string cd9,.slice ad2 n2 cq2] 34)).alloc (.map #[] 0):=⟨_,rfl⟩
   have hAM4:AM w4 (wo.heap.size+1) 0 (Zs (zbt (ss.take 0))):=by
    have h1:=AM.made (wo.alloc (.cells #[.int .u64 (za a9 0),.int .u64 (za a9 1),.int .u64 (za a9 2),.int .u64 (za a9 3),.int .u64 (za bl9 0),.int .u64 (za bl9 1),.int .u64 (za bl9 2),.int .u64 (za bl9 3),.string cd9,.slice ad2 n2 cq2] 34));rw[show(wo.alloc (.cells #[.int .u64 (za a9 0),.int .u64 (za a9 1),.int .u64 (za a9 2),.int .u64 (za a9 3),.int .u64 (za bl9 0),.int .u64 (za bl9 1),.int .u64 (za bl9 2),.int .u64 (za bl9 3),.string cd9,.slice ad2 n2 cq2] 34)).heap.size=wo.heap.size+1 by simp] at h1;rw[hw4];exact h1.congr (fun m=>rfl)
   have hs4:w4.heap.size=wo.heap.size+1+1:=by rw[hw4];simp
   have hb4:∀j,j<10->w4.cell? ⟨wo.heap.size,j,none⟩=some ((#[.int .u64 (za a9 0),.int .u64 (za a9 1),.int .u64 (za a9 2),.int .u64 (za a9 3),.int .u64 (za bl9 0),.int .u64 (za bl9 1),.int .u64 (za bl9 2),.int .u64 (za bl9 3),.string cd9,.slice ad2 n2 cq2]:Array Value)[j]!):=fun j hj=>by
    have hB5:Below (wo.alloc (.cells #[.int .u64 (za a9 0),.int .u64 (za a9 1),.int .u64 (za a9 2),.int .u64 (za a9 3),.int .u64 (za bl9 0),.int .u64 (za bl9 1),.int .u64 (za bl9 2),.int .u64 (za bl9 3),.string cd9,.slice ad2 n2 cq2] 34)).heap.size (wo.alloc (.cells #[.int .u64 (za a9 0),.int .u64 (za a9 1),.int .u64 (za a9 2),.int .u64 (za a9 3),.int .u64 (za bl9 0),.int .u64 (za bl9 1),.int .u64 (za bl9 2),.int .u64 (za bl9 3),.string cd9,.slice ad2 n2 cq2] 34)) w4:=by rw[hw4];exact bal (Below.refl _ _) _
    refine(hB5.cell (by simp)).trans ?_;have h1:=zV wo #[.int .u64 (za a9 0),.int .u64 (za a9 1),.int .u64 (za a9 2),.int .u64 (za a9 3),.int .u64 (za bl9 0),.int .u64 (za bl9 1),.int .u64 (za bl9 2),.int .u64 (za bl9 3),.string cd9,.slice ad2 n2 cq2] 34 j;rw[show(⟨wo.heap.size,0,none⟩:Addr).add j=⟨wo.heap.size,j,none⟩ by simp[Addr.add,eq_comm]] at h1;refine h1 _ ?_;rcases(show j=0\/j=1\/j=2\/j=3\/j=4\/j=5\/j=6\/j=7\/j=8\/j=9 by omega) with rfl|rfl|rfl|rfl|rfl|rfl|rfl|rfl|rfl|rfl<;>rfl
   rw[<-hw4] at hB4;have HB4:=zb hB4;have HAM4:=zb hAM4;have HS4:=zb hs4;have HC4:=zb hb4;have HBK:=zb (HK.out.2.trans (hB4.mono HK.out.2.size));clear hB4 hAM4 hs4 hb4;rw[<-hw4];clear hw4 c0 c1 c2 c3 c4 c5 c6 c7 c8 c9
   go_loopw [20] (fun t20 wr=>∃j:Nat,j<=n2/\t20=.int .i64 (j:Int)/\Hid (AM wr (wo.heap.size+1) j (Zs (zbt (ss.take j))))/\Hid (Kb [wo.heap.size+1] w4 wr)) (fun t20 _=>n2 - (RowKit.intOf t20).toNat)
   case atStart=>exact⟨0,Nat.zero_le _,rfl,HAM4.out,Kb.of_below (Below.refl _ _)⟩
   case round=>
    obtain⟨j,hj,rfl,HM,HKB⟩:=hrel;by_cases hjt:j<n2
    ·have hd3:decide ((j:Int)<(n2:Int))=true:=decide_eq_true (by omega);obtain⟨g2,o2,rfl,hgl2,hcell2⟩:=HSS.out.resolve_left (fun e=>by rw[HN2.out,e] at hjt;exact absurd hjt (by simp));have hjl:j<ss.length:=by rw[<-HN2.out];exact hjt
     obtain⟨k9,HK9⟩:∃k9:Nat,Hid (k9=ss[j].1):=⟨ss[j].1,zb rfl⟩;obtain⟨v9,HV9⟩:∃v9:Nat,Hid (v9=ss[j].2):=⟨ss[j].2,zb rfl⟩;have hdc:=hcell2 j ss[j] (List.getElem?_eq_getElem hjl);rw[<-HK9.out,<-HV9.out] at hdc;have hg2:g2<w4.heap.size:=Nat.lt_of_lt_of_le hgl2 HBK.out.size;have hne2:g2∉[wo.heap.size+1]:=fun hm=>by have:=List.mem_singleton.1 hm;have:=HSZ.out;omega
     have dd:∀q,q<8->wr.cell? ⟨g2,o2+j*8+q,none⟩=some ((ZF k9++ZF v9)[q]!):=fun q hq=>(World.cell?_of_block (w:=w4) (HKB.out.block g2 hg2 hne2)).trans ((HBK.out.cell (by exact hgl2)).trans (hdc q hq))
     have d0:wr.cell? ⟨g2,o2+j*8,none⟩=some (.int .u64 (za k9 0)):=dd 0 (by omega);have d1:wr.cell? ⟨g2,o2+j*8+1,none⟩=some (.int .u64 (za k9 1)):=dd 1 (by omega);have d2:wr.cell? ⟨g2,o2+j*8+2,none⟩=some (.int .u64 (za k9 2)):=dd 2 (by omega);have d3:wr.cell? ⟨g2,o2+j*8+3,none⟩=some (.int .u64 (za k9 3)):=dd 3 (by omega);have d4:wr.cell? ⟨g2,o2+j*8+4,none⟩=some (.int .u64 (za v9 0)):=dd 4 (by omega);have d5:wr.cell? ⟨g2,o2+j*8+5,none⟩=some (.int .u64 (za v9 1)):=dd 5 (by omega);have d6:wr.cell? ⟨g2,o2+j*8+6,none⟩=some (.int .u64 (za v9 2)):=dd 6 (by omega);have d7:wr.cell? ⟨g2,o2+j*8+7,none⟩=some (.int .u64 (za v9 3)):=dd 7 (by omega);have HVZ:Hid (v9%M≠0):=by show v9%M≠0;rw[HV9.out];exact HRA.out.2.2 ss[j] (List.getElem_mem hjl)
     have HSN:=zb (zld hjl);rw[<-HK9.out,<-HV9.out] at HSN;have HMA:Hid (AM (wr.alloc (.cells #[.int .u64 (za k9 0),.int .u64 (za k9 1),.int .u64 (za k9 2),.int .u64 (za k9 3),.int .u64 (za v9 0),.int .u64 (za v9 1),.int .u64 (za v9 2),.int .u64 (za v9 3)] 54)) (wo.heap.size+1) j (Zs (zbt (ss.take j)))):=HM.out.kb (Kb.of_below (S:=[]) (bal (Below.refl _ _) _)) (by simp);have HML:Hid (j<maxLen):=by show j<maxLen;unfold maxLen;omega
     have HKA:Hid (Kb [wo.heap.size+1] w4 (wr.alloc (.cells #[.int .u64 (za k9 0),.int .u64 (za k9 1),.int .u64 (za k9 2),.int .u64 (za k9 3),.int .u64 (za v9 0),.int .u64 (za v9 1),.int .u64 (za v9 2),.int .u64 (za v9 3)] 54))):=HKB.out.trans (Kb.of_below (S:=[]) (bal (Below.refl _ _) _)) (by simp);clear dd hdc hcell2 hgl2 hg2 hne2;go_wp2_with (first|(at_mapUpdate;refine ZX _ rfl _ _ _ 93 rfl _ zaG (wo.heap.size+1) j (Zs (zbt (ss.take j))) rfl HMA.out HML.out k9 (wv v9) rfl rfl ?_;intro w1 hA hT)|go_in)
     have HA1:Hid (AM w1 (wo.heap.size+1) (j+1) (Zs (zbt (ss.take (j+1))))):=by
      refine hA.congr fun m=> ?_
      rw[HSN.out];unfold Zs zau;by_cases e:m%M=k9%M
      ·rw[if_pos e,if_pos e,if_neg HVZ.out]
      ·rw[if_neg e,if_neg e]
     have HT1:Hid (Kb [wo.heap.size+1] w4 w1):=HKA.out.trans (yF hT) (fun i hi=>Or.inl hi);clear hA hT d0 d1 d2 d3 d4 d5 d6 d7;go_wp2;exact⟨⟨j+1,by omega,by simp,HA1.out,HT1.out⟩,by simp[RowKit.intOf];omega⟩
    ·have hd3:decide ((j:Int)<(n2:Int))=false:=decide_eq_false (by omega);obtain rfl:j=n2:=by omega
     obtain⟨⟨sb,hac,hft⟩,hbw⟩:=HK.out;have hafl:∀k,ZZ w.heap.size (ZY (l.take i)) sb k->k<wo.heap.size:=fun k hk=>hac.lt hk
     have HPL9:Hid (wo.heap.size<wr.heap.size):=by show wo.heap.size<wr.heap.size;have:=HKB.out.size;have:=HS4.out;omega
     have b:∀q,q<10->wr.cell? ⟨wo.heap.size,q,none⟩=_:=fun q hq=>(World.cell?_of_block (w:=w4) (HKB.out.block wo.heap.size (by have:=HS4.out;omega) (by simp))).trans (HC4.out q hq)
     have b0:wr.cell? ⟨wo.heap.size,0,none⟩=some (.int .u64 (za a9 0)):=b 0 (by omega);have b1:wr.cell? ⟨wo.heap.size,1,none⟩=some (.int .u64 (za a9 1)):=b 1 (by omega);have b2:wr.cell? ⟨wo.heap.size,2,none⟩=some (.int .u64 (za a9 2)):=b 2 (by omega);have b3:wr.cell? ⟨wo.heap.size,3,none⟩=some (.int .u64 (za a9 3)):=b 3 (by omega);have b4:wr.cell? ⟨wo.heap.size,4,none⟩=some (.int .u64 (za bl9 0)):=b 4 (by omega);have b5:wr.cell? ⟨wo.heap.size,5,none⟩=some (.int .u64 (za bl9 1)):=b 5 (by omega);have b6:wr.cell? ⟨wo.heap.size,6,none⟩=some (.int .u64 (za bl9 2)):=b 6 (by omega);have b7:wr.cell? ⟨wo.heap.size,7,none⟩=some (.int .u64 (za bl9 3)):=b 7 (by omega);have b8:wr.cell? ⟨wo.heap.size,8,none⟩=some (.string cd9):=b 8 (by omega);have hcs9:cd9.size<=100000:=by have:=HRA.out.1;omega
     have hac2:Accs w.heap.size (20+i) (ZY (l.take i)) sb wr:=(hac.kb (Kb.of_below (S:=[]) HB4.out) (by simp)).kb HKB.out (fun k hk hf=>by have:=hafl k hf;have:=List.mem_singleton.1 hk;omega);have hbw2:Below w.heap.size w wr:=((Kb.of_below (S:=[]) HBK.out).trans HKB.out (fun i hi=>Or.inr (by have:=List.mem_singleton.1 hi;have:=HSZ.out;omega))).to_below
     have hsmm:AM wr (wo.heap.size+1) (20+i) (Zs (zbt ss)):=by
      have h1:=HM.out.mono (show j<=20+i by omega);rwa[HN2.out,List.take_length] at h1
     have hput9:∀x,Below wr.heap.size wr x->_:=fun x hx=>zoG (ab:=w.heap.size) (n:=20+i) (sm9:=wo.heap.size+1) (w:=w) rfl hac2 (fun k hk=>⟨hft k hk,by have:=hafl k hk;omega⟩) hbw2 ⟨a9,bl9,cd9,ss⟩ hsmm (by have:=HSZ.out;omega) (by omega) HZ.out hx
     have hst9:∀x x',zet w.heap.size (20+i+1) (Zv (ZY (l.take i)) a9 (YL ⟨a9,bl9,cd9,ss⟩)) w x->Below x.heap.size x x'->zet w.heap.size (20+i+1) (Zv (ZY (l.take i)) a9 (YL ⟨a9,bl9,cd9,ss⟩)) w x':=by
      rintro x x' ⟨⟨sb,q1,q2⟩,q3⟩ hb;exact⟨⟨sb,q1.kb (Kb.of_below (S:=[]) hb) (by simp),q2⟩,q3.trans (hb.mono q3.size)⟩
     clear b;go_wp2
     refine zt (PhK (fun y=>zet w.heap.size (20+i+1) (Zv (ZY (l.take i)) a9 (YL ⟨a9,bl9,cd9,ss⟩)) w y) wr) (fun _ _ _=>True) [(3,(.map (some w.heap.size))),(5,(.pointer (some ⟨wo.heap.size,0,none⟩))),(6,(.map (some (wo.heap.size+1))))] [(some 30,.v (.map (some w.heap.size))),(some 31,.v (.pointer (some ⟨wo.heap.size,0,none⟩))),(some 32,.v (wv a9)),(some 33,.v (.pointer (some ⟨wo.heap.size,4,none⟩))),(some 34,.v (wv bl9)),(some 35,.v (.pointer (some ⟨wo.heap.size,8,none⟩))),(some 36,.v (.string cd9)),(some 37,.v (.string cd9)),(some 38,.v (.map (some (wo.heap.size+1)))),(some 39,.v (.agg #[.int .u64 (za bl9 0),.int .u64 (za bl9 1),.int .u64 (za bl9 2),.int .u64 (za bl9 3),.string cd9,.map (some (wo.heap.size+1))])),(some 40,.v (.tuple #[]))] [10] [2,4,6,7] (by kernel_rfl) (by rfl) (by rfl) (by kernel_rfl) ((Below.refl _ _).drew) (phk_bel hst9)
       (zf _ _ _ rfl rfl
       (fun s9 x hph hdf hv hl K hK=>by
        have hx:Below wr.heap.size wr x:=hph;refine zZ hv (hput9 x hx) (by kernel_rfl) (fun v y h=> ?_) (fun l y h=>absurd h.1 (by simp)) (fun y h=>absurd h.1 (by simp));obtain⟨e,hR⟩:=h;injection e with e
        subst e;exact hK _ y hR trivial nn1 rfl)
       True.intro)
       (zf _ _ _ rfl rfl
       (fun k s9 x hk hlo hhi hph hdf hv hl K hK=>by
        have hx:Below wr.heap.size wr x:=zeW hph (hhi 0 10 rfl (by kernel_rfl));exact zD (n:=a9) (hv 31 _ rfl) ((hx.cell HPL9.out).trans b0) ((hx.cell HPL9.out).trans b1) ((hx.cell HPL9.out).trans b2) ((hx.cell HPL9.out).trans b3) (hK _ x (Below.refl _ _) nn1 rfl))
       (zf _ _ _ rfl rfl
       (fun k s9 x hk hlo hhi hph hdf hv hl K hK=>by
        have hx:Below wr.heap.size wr x:=zeW hph (hhi 0 10 rfl (by kernel_rfl));exact zD (n:=bl9) (hv 33 _ rfl) ((hx.cell HPL9.out).trans b4) ((hx.cell HPL9.out).trans b5) ((hx.cell HPL9.out).trans b6) ((hx.cell HPL9.out).trans b7) (hK _ x (Below.refl _ _) nn1 rfl))
       (zf _ _ _ rfl rfl
       (fun k s9 x hk hlo hhi hph hdf hv hl K hK=>by
        have hx:Below wr.heap.size wr x:=zeW hph (hhi 0 10 rfl (by kernel_rfl));exact zv (v:=.string cd9) (fun w=>by kernel_rfl) (hv 35 _ rfl) ((hx.cell HPL9.out).trans b8) (hK _ x (Below.refl _ _) nn1 rfl))
       (zf _ _ _ rfl rfl
       (fun k s9 x hk hlo hhi hph hdf hv hl K hK=>by
        have hx:Below wr.heap.size wr x:=zeW hph (hhi 0 10 rfl (by kernel_rfl));refine zZ hv (znI cd9 hcs9 x) (by kernel_rfl) (fun v y h=> ?_) (fun l y h=>absurd h.1 (by simp)) (fun y h=>absurd h.1 (by simp));obtain⟨e,hb⟩:=h;injection e with e
        subst e;exact hK _ y hb nn1 rfl)
       True.intro))))
       (fun _ _ _ h=>(zu rfl h).elim) (fun _ _ _ h=>(zu rfl h).elim) ?_
     intro gg x hph _;have HR:Hid (zet w.heap.size (20+i+1) (Zv (ZY (l.take i)) a9 (YL ⟨a9,bl9,cd9,ss⟩)) w x):=hph
     have HSX:Hid (w.heap.size<x.heap.size):=by
      obtain⟨⟨sb,q1,q2⟩,q3⟩:=HR.out;exact q1.lt (Or.inl rfl)
     clear hph hput9 hst9 b0 b1 b2 b3 b4 b5 b6 b7 b8 hafl hft hac hac2 hbw hbw2 hsmm;simp only[yx,yB,yA,Zj,zF,List.foldl_cons,List.foldl_nil,Act.put];simp only[sx9];go_wp2;refine⟨⟨i+1,by omega,by simp, ?_,HSX.out⟩,by simp[RowKit.intOf];omega⟩;rw[HAS.out,show 20+(i+1)=20+i+1 by omega];exact HR.out
  ·have hd2:decide ((i:Int)<(L:Int))=false:=decide_eq_false (by omega)
   have HK2:Hid (zet w.heap.size (20+i) (ZY l) w wo):=by
    have h1:=HK.out;rwa[show i=l.length by rw[<-HL.out];omega,List.take_length,show l.length=i by rw[<-HL.out];omega] at h1
   clear HK;go_wp2;go_ret;exact⟨rfl,20+i,by omega,HK2.out⟩
end
section
open Go.Maps
theorem zjj {l:List AcE} (h:zaL l=true):l.length<=8/\∀a∈l,a.code.size<=1000/\a.slots.length<=20/\∀p∈a.slots,p.2%M≠0:=by
 unfold zaL at h;obtain⟨h1,h2⟩:=(Bool.and_eq_true _ _).mp h;refine⟨of_decide_eq_true h1,fun a ha=> ?_⟩;obtain⟨i,hi,rfl⟩:=List.getElem_of_mem ha;have h3:=List.all_eq_true.1 h2 i (List.mem_range.2 hi);unfold rA at h3;rw[YJ l ac0 hi] at h3;obtain⟨_,h4⟩:=(Bool.and_eq_true _ _).mp h3;obtain⟨h5,h6⟩:=(Bool.and_eq_true _ _).mp h4;unfold zbe at h6;obtain⟨h7,h8⟩:=(Bool.and_eq_true _ _).mp h6;refine⟨of_decide_eq_true h5,of_decide_eq_true h7,fun p hp e=> ?_⟩;obtain⟨j,hj,rfl⟩:=List.getElem_of_mem hp;have h9:=List.all_eq_true.1 h8 j (List.mem_range.2 hj);unfold rS at h9;rw[YJ l[i].slots (0,0) hj] at h9;obtain⟨_,h10⟩:=(Bool.and_eq_true _ _).mp h9;rw[decide_eq_true e] at h10;cases h10
def zlJ (A:Nat->Acc) (w:World) (gb:Nat) (w':World):Prop:=∃ab n sb,n<=40/\HostAt gb ab n A sb w'/\Below w.heap.size w w'/\w.heap.size<=gb/\∀k,ZZ ab A sb k->w.heap.size<=k
theorem new_any {v:Value} (l:List AcE) (w:World) (h:AcIn w v l) (hz:Zr w) (hr:zaL l=true):Calls prog 29 #[v] w fun e w'=>∃gb,e=.returned (.tuple #[.pointer (some ⟨gb,0,none⟩),.int .i64 0])/\zlJ (ZY l) w gb w':=by
 have HR:=zb (zkb l w h hz);rw[hr] at HR;obtain⟨hl8,hrr⟩:=zjj hr;have HA:=zb h;have HZ:=zb hz;have HL:=zb hl8;have HRR:=zb hrr;obtain⟨ad,cp,rfl,_⟩:=h;obtain⟨L,HLL⟩:∃L,Hid (L=l.length):=⟨_,rfl⟩;rw[<-HLL.out] at HA HR⊢;clear hz hl8 hrr hr;go_enter func29,ntmps29;go_wp2_with fail
 refine HR.out.mono ?_;rintro e w1 ⟨rfl,hb1⟩;have HK:=zb (zpt l w1 (HA.out.below hb1) (HZ.out.below hb1) HL.out HRR.out);have HB1:=zb hb1;clear hb1 HR;go_wp2_with fail
 refine HK.out.mono ?_;rintro e w2 ⟨rfl,n,hn,⟨sb,hac,hft⟩,hb2⟩;have hBw:Below w.heap.size w w2:=HB1.out.trans (hb2.mono HB1.out.size)
 have HH:Hid (HostAt w2.heap.size w1.heap.size n (ZY l) sb (w2.alloc (.cells #[.int .i32 0,.int .u32 0,.map (some w1.heap.size)] 91))):=by
  refine⟨World.rowIs_alloc w2 _ _ _ (fun i hi=> ?_),hac.kb (Kb.of_below (S:=[]) (bal (Below.refl _ w2) _)) (by simp),(HZ.out.below hBw).below (bal (Below.refl _ w2) _)⟩;have hi:i<3:=hi;rcases ltq3 hi with rfl|rfl|rfl<;>rfl
 have HF:Hid (w.heap.size<=w2.heap.size/\∀k,ZZ w1.heap.size (ZY l) sb k->w.heap.size<=k):=⟨hBw.size,fun k hk=>Nat.le_trans HB1.out.size (hft k hk)⟩;clear hft;have HN:=zb hn;have HBW:=zb (bal hBw (.cells #[.int .i32 0,.int .u32 0,.map (some w1.heap.size)] 91));clear hn hac hb2 hBw HK HB1;go_wp2;refine bodyPost_ret (v:=.tuple #[.pointer (some ⟨w2.heap.size,0,none⟩),.int .i64 0]) (by simp[results,results29,go_sem]) rfl ⟨_,rfl,_,n,sb,HN.out,HH.out,HBW.out,HF.out⟩
theorem zqq {v:Value} (l:List AcE) (w:World) (h:AcIn w v l) (hz:Zr w) (hr:zaL l=true):Calls prog 11 #[v] w fun e w'=>∃gb,e=.returned (.pointer (some ⟨gb,0,none⟩))/\zlJ (ZY l) w gb w':=by
 have HR:=zb (new_any l w h hz hr);obtain⟨ad,cp,rfl,_⟩:=h;obtain⟨L,HLL⟩:∃L,Hid (L=l.length):=⟨_,rfl⟩;rw[<-HLL.out] at HR⊢;clear hz hr;go_enter func11,ntmps11;go_wp2_with fail
 refine HR.out.mono ?_;rintro e w1 ⟨gb,rfl,hh⟩;have HX:=zb hh;clear hh HR;go_wp2;go_ret;exact⟨gb,rfl,HX.out⟩
def zap (s:ByteArray):ByteArray:=if 1000<s.size then s.extract 0 1000 else s
theorem zoo (s:ByteArray):(zap s).size<=1000:=by
 unfold zap;split
 ·rw[ByteArray.size_extract];omega
 ·omega
theorem zjP (s:ByteArray) (w:World):Calls prog 26 #[.string s] w fun e w'=>e=.returned (.string (zap s))/\w'=w:=by
 unfold zap;by_cases h:1000<s.size
 ·have hd:decide ((1000:Int)<(s.size:Int))=true:=decide_eq_true (by omega);rw[if_pos h];go_enter func26,ntmps26;go_wp2;go_ret;exact⟨rfl,rfl⟩
 ·have hd:decide ((1000:Int)<(s.size:Int))=false:=decide_eq_false (by omega);rw[if_neg h];go_enter func26,ntmps26;go_wp2;go_ret;exact⟨rfl,rfl⟩
end
end cin
end Go.Proofs.YtohoajjdoihekaaGreatDoor
