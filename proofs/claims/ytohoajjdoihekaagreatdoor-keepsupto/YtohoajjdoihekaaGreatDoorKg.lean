import Derived.Test.YtohoajjdoihekaaGreatDoorQh
import Derived.Lib.BufferWrite
import Derived.Lib.UnsafeStr
import Derived.Laws.MakeOwn
set_option linter.unusedVariables false
set_option linter.unusedSimpArgs false
namespace Go.Proofs.YtohoajjdoihekaaGreatDoor
namespace cin
open Go.RowKit Go.Proofs.Tryz Tryz
set_option maxRecDepth 100000
set_option maxHeartbeats 8000000
section
open Go.RowKit Go.Maps Go.Sort Go.Shelf
def acC (k bl:Nat) (cd:ByteArray) (sl:Value):List Value:=[.int .u64 (za k 0),.int .u64 (za k 1),.int .u64 (za k 2),.int .u64 (za k 3),.int .u64 (za bl 0),.int .u64 (za bl 1),.int .u64 (za bl 2),.int .u64 (za bl 3),.string cd,sl]
def acL (A:Nat->Acc):List Nat->List Value->List Value
 |k::r,sl::t=>acC k (A k).bal (A k).code sl++acL A r t
 |_,_=>[]
theorem ziD (A:Nat->Acc):∀(ts:List Nat) (sls:List Value),sls.length=ts.length->∀k sl,acL A (ts++[k]) (sls++[sl])=acL A ts sls++acC k (A k).bal (A k).code sl
 |[],[],_,k,sl=>by simp[acL]
 |[],_::_,h,_,_=>by cases h
 |_::_,[],h,_,_=>by cases h
 |a::r,b::t,h,k,sl=>by
  show acC a (A a).bal (A a).code b++acL A (r++[k]) (t++[sl])=acC a (A a).bal (A a).code b++acL A r t++_;rw[ziD A r t (by simpa using h),List.append_assoc]
theorem zk8 (k bl:Nat) (cd:ByteArray) (ad:Option Addr) (n c:Nat):∀u∈acC k bl cd (.slice ad n c),u.oneCell'=true:=by
 intro u hu;simp[acC] at hu;rcases hu with rfl|rfl|rfl|rfl|rfl|rfl|rfl|rfl|rfl|rfl<;>rfl
theorem zkY:(prog.info? 34).map (fun i=>(i.zero,i.size,i.bytes))=some (some (.agg #[.int .u64 0,.int .u64 0,.int .u64 0,.int .u64 0,.int .u64 0,.int .u64 0,.int .u64 0,.int .u64 0,.string ⟨#[]⟩,.slice none 0 0]),10,104):=by kernel_rfl
theorem tAc_Sl:(34:TypeId)≠54:=by decide
def SlV (base:Nat) (s:Nat->Nat):Kp:=fun p v x=>p≠0/\∃us:List Nat,us.length<=1000000000000/\SortedKeys (Zs s) us/\x.ownsRow base 54 8 v us.length (slC s us)
theorem SlV.below {base p:Nat} {s:Nat->Nat} {v:Value} {x x':World} (h:SlV base s p v x) (hb:Below x.heap.size x x'):SlV base s p v x':=by
 obtain⟨h1,us,h2,h3,h4⟩:=h;exact⟨h1,us,h2,h3,zm h4 hb⟩
theorem zfa {x x':World} {b1 b2 n1 n2:Nat} {v1 v2:Value} {xs ys:List Value} (h:x.ownsRow b1 54 8 v1 n1 xs) (k:x.ownsRow b2 34 10 v2 n2 ys) (hg:x.grownBy x' v2.ownBlock):x'.ownsRow b1 54 8 v1 n1 xs:=by
 refine⟨h.1,h.2.imp id ?_⟩;rintro⟨g,cap,cur,h1,h2,h3,h4⟩;refine⟨g,cap,cur,h1,h2,(hg.block g (Array.getElem?_eq_some_iff.1 h3).1 (fun e=> ?_)).trans h3,h4⟩;rcases k.2 with⟨e2,_⟩|⟨g2,cap2,cur2,e2,_,e3,_⟩
 ·rw[e2] at e;cases e
 ·rw[e2] at e;have e:some g=some g2:=e;obtain rfl:=Option.some.inj e;rw[h3] at e3;have:=(Obj.cells.inj (Option.some.inj e3)).2.1;exact tAc_Sl this.symm
theorem SlV.step {base p:Nat} {s:Nat->Nat} {v v2:Value} {x x':World} {b2 n2:Nat} {ys:List Value} (h:SlV base s p v x) (k:x.ownsRow b2 34 10 v2 n2 ys) (hg:x.grownBy x' v2.ownBlock):SlV base s (p+1) v x':=by
 obtain⟨h1,us,h2,h3,h4⟩:=h;exact⟨by omega,us,h2,h3,zfa h4 k hg⟩
def AcV (k bl:Nat) (cd:ByteArray) (S:Kp):Kp:=fun p v x=>∃ad n c,v=.agg #[.int .u64 (za k 0),.int .u64 (za k 1),.int .u64 (za k 2),.int .u64 (za k 3),.int .u64 (za bl 0),.int .u64 (za bl 1),.int .u64 (za bl 2),.int .u64 (za bl 3),.string cd,.slice ad n c]/\S p (.slice ad n c) x
theorem AcV.below {k bl base p:Nat} {cd:ByteArray} {s:Nat->Nat} {v:Value} {x x':World} (h:AcV k bl cd (SlV base s) p v x) (hb:Below x.heap.size x x'):AcV k bl cd (SlV base s) p v x':=by
 obtain⟨ad,n,c,e,h⟩:=h;exact⟨ad,n,c,e,h.below hb⟩
def OneA (k bl:Nat) (cd:ByteArray) (S:Kp):Kp:=fun p v x=>∃ad n c q,v=.slice (some ⟨q,0,none⟩) 1 1/\S p (.slice ad n c) x/\(p<=1->q<x.heap.size/\∀(j:Nat) u,(acC k bl cd (.slice ad n c))[j]? =some u->x.cell? ((⟨q,0,none⟩:Addr).add j)=some u)
theorem OneA.below {k bl base p:Nat} {cd:ByteArray} {s:Nat->Nat} {v:Value} {x x':World} (h:OneA k bl cd (SlV base s) p v x) (hb:Below x.heap.size x x'):OneA k bl cd (SlV base s) p v x':=by
 obtain⟨ad,n,c,q,e,h,h2⟩:=h;exact⟨ad,n,c,q,e,h.below hb,fun hp=>⟨Nat.lt_of_lt_of_le (h2 hp).1 hb.size,fun j u hu=>(hb.cell (by rw[zbV];exact(h2 hp).1)).trans ((h2 hp).2 j u hu)⟩⟩
def NewA (base n:Nat) (xs:List Value) (k bl:Nat) (cd:ByteArray) (S:Kp):Kp:=fun p v x=>2<=p/\∃sl,S p sl x/\x.ownsRow base 34 10 v n (xs++acC k bl cd sl)
theorem NewA.below {k bl base n p:Nat} {xs:List Value} {cd:ByteArray} {s:Nat->Nat} {v:Value} {x x':World} (h:NewA base n xs k bl cd (SlV base s) p v x) (hb:Below x.heap.size x x'):NewA base n xs k bl cd (SlV base s) p v x':=by
 obtain⟨h1,sl,h2,h3⟩:=h;exact⟨h1,sl,h2.below hb,zm h3 hb⟩
def PhA (wr:World) (ob:Option Nat):Nat->World->Prop
 |0,x=>Below wr.heap.size wr x
 |1,x=>Below wr.heap.size wr x
 |_,x=>∃y,Below wr.heap.size wr y/\y.grownBy x ob
theorem zlE {wr x:World} {ob:Option Nat} {k:Nat} (h:PhA wr ob k x) (hk:k<=0):Below wr.heap.size wr x:=by
 obtain rfl:k=0:=by omega
 exact h
theorem zdb {wr x:World} {ob:Option Nat} {k:Nat} (h:PhA wr ob k x) (hk:k<=1):Below wr.heap.size wr x:=by
 match k,hk,h with
 |0,_,h=>exact h
 |1,_,h=>exact h
theorem zfK {x y z:World} {ob:Option Nat} (h:x.grownBy y ob) (hb:Below y.heap.size y z):x.grownBy z ob:=⟨hb.os.trans h.os,hb.tape.trans h.tape,hb.output.trans h.output,Nat.le_trans h.size hb.size,fun k hk hne=>(hb.block k (Nat.lt_of_lt_of_le hk h.size)).trans (h.block k hk hne)⟩
theorem zkF {wr:World} {ob:Option Nat} (k:Nat) (x x':World) (h:PhA wr ob k x) (hb:Below x.heap.size x x'):PhA wr ob k x':=by
 match k,h with
 |0,h=>exact(show Below wr.heap.size wr x from h).trans (hb.mono (show Below wr.heap.size wr x from h).size)
 |1,h=>exact(show Below wr.heap.size wr x from h).trans (hb.mono (show Below wr.heap.size wr x from h).size)
 |_+2,⟨y,h1,h2⟩=>exact⟨y,h1,zfK h2 hb⟩
section
variable {wr x x':World} {base p i k bl:Nat} {cd:ByteArray} {s:Nat->Nat} {v v2:Value} {xs:List Value} {b2:Nat}
theorem zcL (hp:p<2) (hown:wr.ownsRow b2 34 10 v2 i xs) (hph:PhA wr v2.ownBlock p x) (hrel:p=1->x.grownBy x' v2.ownBlock) (h:SlV base s p v x):SlV base s (p+1) v x':=by
 have h1:=h.1;obtain rfl:p=1:=by omega
 exact h.step (zm hown hph) (hrel rfl)
theorem zib (hp:p<2) (hown:wr.ownsRow b2 34 10 v2 i xs) (hph:PhA wr v2.ownBlock p x) (hrel:p=1->x.grownBy x' v2.ownBlock) (h:AcV k bl cd (SlV base s) p v x):AcV k bl cd (SlV base s) (p+1) v x':=by
 obtain⟨ad,n,c,e,h⟩:=h;exact⟨ad,n,c,e,zcL hp hown hph hrel h⟩
theorem ziT (hp:p<2) (hown:wr.ownsRow b2 34 10 v2 i xs) (hph:PhA wr v2.ownBlock p x) (hrel:p=1->x.grownBy x' v2.ownBlock) (h:OneA k bl cd (SlV base s) p v x):OneA k bl cd (SlV base s) (p+1) v x':=by
 obtain⟨ad,n,c,q,e,h,h2⟩:=h;have h1:=h.1;exact⟨ad,n,c,q,e,zcL hp hown hph hrel h,fun h9=>by omega⟩
end
section
variable {s:Act} {x:World} {pos:String} {af:Array Edge} {gd:Option (Nat×Bool)} {K:Act->World->Prop} {Q:Exit->Act->World->Prop}
theorem zlR {t d b bl:Nat} {cd:ByteArray} {o:Option Nat} {ty:TypeId} (h:s.tmps.getD t undef=.pointer (some ⟨b,0,none⟩)) (q0:x.cell? ⟨b,0,none⟩=some (.int .u64 (za bl 0))) (q1:x.cell? ⟨b,0+1,none⟩=some (.int .u64 (za bl 1))) (q2:x.cell? ⟨b,0+2,none⟩=some (.int .u64 (za bl 2))) (q3:x.cell? ⟨b,0+3,none⟩=some (.int .u64 (za bl 3))) (q4:x.cell? ⟨b,4,none⟩=some (.string cd)) (q5:x.cell? ⟨b,5,none⟩=some (.map o)) (hK:K (s.put (some d) (Z1 bl cd (.map o))) x):
  Oper.wp prog ⟨some d,.load 95 (.tmp t),ty,pos,af,gd⟩ s x K Q:=by
 have f3:s.eval (.tmp t)=.pointer (some ⟨b,0,none⟩):=h;simp only[Nat.zero_add] at q1 q2 q3;go_simp;exact hK
theorem zcm {t1 t2 t3 t4 d k bl n c:Nat} {cd:ByteArray} {ad:Option Addr} {ty:TypeId} (h1:s.tmps.getD t1 undef=wv k) (h2:s.tmps.getD t2 undef=wv bl) (h3:s.tmps.getD t3 undef=.string cd) (h4:s.tmps.getD t4 undef=.slice ad n c) (hK:K (s.put (some d) (.agg #[.int .u64 (za k 0),.int .u64 (za k 1),.int .u64 (za k 2),.int .u64 (za k 3),.int .u64 (za bl 0),.int .u64 (za bl 1),.int .u64 (za bl 2),.int .u64 (za bl 3),.string cd,.slice ad n c])) x):
  Oper.wp prog ⟨some d,.build 34 #[(0,.tmp t1),(1,.tmp t2),(2,.tmp t3),(3,.tmp t4)],ty,pos,af,gd⟩ s x K Q:=by
 have e1:s.eval (.tmp t1)=.agg #[.int .u64 (za k 0),.int .u64 (za k 1),.int .u64 (za k 2),.int .u64 (za k 3)]:=h1;have e2:s.eval (.tmp t2)=.agg #[.int .u64 (za bl 0),.int .u64 (za bl 1),.int .u64 (za bl 2),.int .u64 (za bl 3)]:=h2;have e3:s.eval (.tmp t3)=.string cd:=h3;have e4:s.eval (.tmp t4)=.slice ad n c:=h4;have g1:s.tmps[t1]?.getD undef=.agg #[.int .u64 (za k 0),.int .u64 (za k 1),.int .u64 (za k 2),.int .u64 (za k 3)]:=by rw[<-Array.getD_eq_getD_getElem?];exact e1
 have g2:s.tmps[t2]?.getD undef=.agg #[.int .u64 (za bl 0),.int .u64 (za bl 1),.int .u64 (za bl 2),.int .u64 (za bl 3)]:=by rw[<-Array.getD_eq_getD_getElem?];exact e2
 have g3:s.tmps[t3]?.getD undef=.string cd:=by rw[<-Array.getD_eq_getD_getElem?];exact e3
 have g4:s.tmps[t4]?.getD undef=.slice ad n c:=by rw[<-Array.getD_eq_getD_getElem?];exact e4
 go_simp;exact hK
theorem zfp {t d k bl n c:Nat} {cd:ByteArray} {ad:Option Addr} {ty:TypeId} (he:s.tmps.getD t undef=.agg #[.int .u64 (za k 0),.int .u64 (za k 1),.int .u64 (za k 2),.int .u64 (za k 3),.int .u64 (za bl 0),.int .u64 (za bl 1),.int .u64 (za bl 2),.int .u64 (za bl 3),.string cd,.slice ad n c]) (hK:K (s.put (some d) (.slice (some ⟨x.heap.size,0,none⟩) 1 1)) (x.alloc (.cells #[.int .u64 (za k 0),.int .u64 (za k 1),.int .u64 (za k 2),.int .u64 (za k 3),.int .u64 (za bl 0),.int .u64 (za bl 1),.int .u64 (za bl 2),.int .u64 (za bl 3),.string cd,.slice ad n c] 34))):
  Oper.wp prog ⟨some d,.buildSlice 35 1 #[(0,.tmp t)],ty,pos,af,gd⟩ s x K Q:=by
 have he2:s.eval (.tmp t)=.agg #[.int .u64 (za k 0),.int .u64 (za k 1),.int .u64 (za k 2),.int .u64 (za k 3),.int .u64 (za bl 0),.int .u64 (za bl 1),.int .u64 (za bl 2),.int .u64 (za bl 3),.string cd,.slice ad n c]:=he;have he3:s.tmps[t]?.getD undef=.agg #[.int .u64 (za k 0),.int .u64 (za k 1),.int .u64 (za k 2),.int .u64 (za k 3),.int .u64 (za bl 0),.int .u64 (za bl 1),.int .u64 (za bl 2),.int .u64 (za bl 3),.string cd,.slice ad n c]:=by rw[<-Array.getD_eq_getD_getElem?];exact he
 go_simp;exact hK
end
def SlAll (base:Nat) (A:Nat->Acc) (ts:List Nat) (sls:List Value) (w:World):Prop:=∀(i:Nat) k sl,ts[i]? =some k->sls[i]? =some sl->∃us:List Nat,us.length<=1000000000000/\SortedKeys (Zs (A k).slots) us/\w.ownsRow base 54 8 sl us.length (slC (A k).slots us)
structure Told (base:Nat) (A:Nat->Acc) (ts:List Nat) (v:Value) (sls:List Value) (w:World):Prop where
 len:sls.length=ts.length
 own:w.ownsRow base 34 10 v ts.length (acL A ts sls)
 sl:SlAll base A ts sls w
def zap (A:Nat->Acc) (ts:List Nat):Prop:=ts.Pairwise (·<·)/\∀m,m∈ts↔m<M/\¬(A m).no
theorem znh {ab n:Nat} {A:Nat->Acc} {sb:Nat->Value} (w:World) (h:Accs ab n A sb w) (hn:n<=1000000000000):
  Calls prog 48 #[.map (some ab)] w fun e w'=>∃(v:Value) (ts:List Nat) (sls:List Value),e=.returned v/\ts.length<=n/\zap A ts/\Told w.heap.size A ts v sls w'/\Below w.heap.size w w':=by
 have eg:∀args w,(callFunc 136 args).run prog w=.ok (.enter 136 args) w:=enters_of func136 (by kernel_rfl) rfl;obtain⟨f,hf,hf'⟩:=h.map;have hB2:Below w.heap.size w (w.alloc (.cells #[.map (some ab)] 89)):=bal (Below.refl _ w) _;have HK:=zb (keys_a (some ab) w)
 have hseq:SeqGives FA 3 prog 136 #[.pointer (some ⟨w.heap.size,0,none⟩)] wv (zb4 f) n (w.alloc (.cells #[.map (some ab)] 89)):=
  gives_a 3 (by omega) _ ab n _ _ (by simp) (by simp[go_sem]) (hf.kb (Kb.of_below (S:=[]) hB2) (by simp))
 have HS:=zb (zda 5 (by omega) _ _ eg f n hn _ hseq);have HH:=zb h;have HF:=zb (And.intro hf hf');clear hseq h hf hf';go_enter func48,ntmps48;go_wp2_with fail
 refine HK.out.mono ?_;rintro e w2 ⟨rfl,rfl⟩;generalize w.alloc (.cells #[.map (some ab)] 89)=w2 at*;clear HK;go_wp2_with fail
 refine HS.out.mono ?_;rintro e w3 ⟨v,ts,rfl,hlen,hts,hrow,hb3⟩;obtain⟨adv,cpv,rfl⟩:=Zk hrow;have HX:=zb (And.intro hts (And.intro hrow hb3));have hB3:Below w.heap.size w w3:=hB2.trans (hb3.mono hB2.size);clear HS hrow hts hB2 hb3;obtain⟨L,HLL⟩:∃L,Hid (L=ts.length):=⟨_,rfl⟩;rw[<-HLL.out] at hlen⊢;go_wp2
 go_loopw [3,11] (fun t3 t11 wr=>∃(i:Nat) (ad:Option Addr) (cp:Nat) (sls:List Value),i<=L/\t11=.int .i64 (i:Int)/\t3=.slice ad i cp/\Hid (Told w3.heap.size A (ts.take i) (.slice ad i cp) sls wr/\Below w3.heap.size w3 wr)) (fun _ t11 _=>L - (RowKit.intOf t11).toNat)
 case atStart=>
  refine⟨0,none,0,[],Nat.zero_le _,rfl,rfl,⟨⟨by simp, ?_,fun i k sl h1=>by simp at h1⟩,Below.refl _ _⟩⟩;simp only[List.take_zero];exact World.ownsRow_nil _ _ _ _
 case round=>
  obtain⟨i,ad,cp,sls,hi,rfl,rfl,HR⟩:=hrel;by_cases hlt:i<L
  ·have hd:decide ((i:Int)<(L:Int))=true:=decide_eq_true (by omega);obtain⟨hts,hrow,hb3⟩:=HX.out;have hil:i<ts.length:=by rw[<-HLL.out];exact hlt
   obtain⟨kb,cap,he,hkb⟩:=zfy hrow (by omega);obtain⟨rfl,rfl⟩:adv=some ⟨kb,0,none⟩/\cpv=cap:=by injection he with h1 h2 h3;exact⟨h1,h3⟩
   have hkl3:kb<w3.heap.size:=(hrow.lt kb rfl).2;obtain⟨c0,c1,c2,c3⟩:=zji hrow i hil;obtain⟨k9,HK9⟩:∃k9:Nat,Hid (k9=ts[i]):=⟨ts[i],zb rfl⟩;rw[<-HK9.out] at c0 c1 c2 c3;have c0:=(HR.out.2.cell (p:=⟨kb,i*4,none⟩) hkl3).trans c0;have c1:=(HR.out.2.cell (p:=⟨kb,i*4+1,none⟩) hkl3).trans c1;have c2:=(HR.out.2.cell (p:=⟨kb,i*4+2,none⟩) hkl3).trans c2;have c3:=(HR.out.2.cell (p:=⟨kb,i*4+3,none⟩) hkl3).trans c3;have hBwr:Below w.heap.size w wr:=hB3.trans (HR.out.2.mono hB3.size);have hAr:=HH.out.kb (Kb.of_below (S:=[]) hBwr) (by simp);obtain⟨sv,e1,e3,e4,e5⟩:=hAr.read k9 HF.out.2;obtain⟨o9,rfl⟩:=e3.is;have hBk:Below wr.heap.size wr (wr.alloc (.cells #[.int .u64 (za k9 0),.int .u64 (za k9 1),.int .u64 (za k9 2),.int .u64 (za k9 3)] 24)):=bal (Below.refl _ wr) _;obtain⟨bl9,HBL⟩:∃bl9,Hid (bl9=(A k9).bal):=⟨_,rfl⟩;obtain⟨cd9,HCD⟩:∃cd9,Hid (cd9=(A k9).code):=⟨_,rfl⟩
   have hlk:(Instr.lookup 89 (.map (some ab)) (.agg #[.int .u64 (za k9 0),.int .u64 (za k9 1),.int .u64 (za k9 2),.int .u64 (za k9 3)]) false).run prog (wr.alloc (.cells #[.int .u64 (za k9 0),.int .u64 (za k9 1),.int .u64 (za k9 2),.int .u64 (za k9 3)] 24))=.ok (.agg #[.int .u64 (za bl9 0),.int .u64 (za bl9 1),.int .u64 (za bl9 2),.int .u64 (za bl9 3),.string cd9,.map o9]) (wr.alloc (.cells #[.int .u64 (za k9 0),.int .u64 (za k9 1),.int .u64 (za k9 2),.int .u64 (za k9 3)] 24)):=by
    have:=((HF.out.1.kb (Kb.of_below (S:=[]) hBwr) (by simp)).kb (Kb.of_below (S:=[]) hBk) (by simp)).look Yr Yk k9;rw[e1,<-HBL.out,<-HCD.out] at this;exact this
   have HSO:=zb e3;clear hrow hts hb3 he e1 e3 e4 e5 hAr;go_wp2;obtain⟨wr9,HW9⟩:∃wr9,Hid (wr9=(wr.alloc (.cells #[.int .u64 (za k9 0),.int .u64 (za k9 1),.int .u64 (za k9 2),.int .u64 (za k9 3)] 24)).alloc (.cells #[.int .u64 (za bl9 0),.int .u64 (za bl9 1),.int .u64 (za bl9 2),.int .u64 (za bl9 3),.string cd9,.map o9] 95)):=⟨_,rfl⟩;rw[<-HW9.out];have hBw:Below wr.heap.size wr wr9:=by rw[HW9.out];exact bal (bal (Below.refl _ wr) _) _
   obtain⟨kb9,HKB⟩:∃kb9,Hid (kb9=wr.heap.size):=⟨_,rfl⟩;obtain⟨ab9,HAB⟩:∃ab9,Hid (ab9=wr.heap.size+1):=⟨_,rfl⟩
   have hkc:wr9.cell? ⟨kb9,0,none⟩=some (.int .u64 (za k9 0))/\wr9.cell? ⟨kb9,0+1,none⟩=some (.int .u64 (za k9 1))/\wr9.cell? ⟨kb9,0+2,none⟩=some (.int .u64 (za k9 2))/\wr9.cell? ⟨kb9,0+3,none⟩=some (.int .u64 (za k9 3)):=by
    rw[HW9.out,HKB.out];refine⟨?_, ?_, ?_, ?_⟩<;>simp[go_sem]
   have hbc:wr9.cell? ⟨ab9,0,none⟩=some (.int .u64 (za bl9 0))/\wr9.cell? ⟨ab9,0+1,none⟩=some (.int .u64 (za bl9 1))/\wr9.cell? ⟨ab9,0+2,none⟩=some (.int .u64 (za bl9 2))/\wr9.cell? ⟨ab9,0+3,none⟩=some (.int .u64 (za bl9 3)):=by
    rw[HW9.out,HAB.out];refine⟨?_, ?_, ?_, ?_⟩<;>simp[go_sem]
   have hcc:wr9.cell? ⟨ab9,4,none⟩=some (.string cd9):=by
    rw[HW9.out,HAB.out];simp[go_sem]
   have hsc:wr9.cell? ⟨ab9,5,none⟩=some (.map o9):=by
    rw[HW9.out,HAB.out];simp[go_sem]
   have hkl:kb9<wr9.heap.size:=by rw[HW9.out,HKB.out];simp;omega
   have hal:ab9<wr9.heap.size:=by rw[HW9.out,HAB.out];simp
   rw[<-HAB.out,<-HKB.out];have hb39:Below w3.heap.size w3 wr9:=HR.out.2.trans (hBw.mono HR.out.2.size);have hown9':=zm HR.out.1.own hBw;have htl:(ts.take i).length=i:=by rw[List.length_take];omega
   rw[htl] at hown9';obtain⟨xs9,HXS⟩:∃xs9,Hid (xs9=acL A (ts.take i) sls):=⟨_,rfl⟩;have hown9:wr9.ownsRow w3.heap.size 34 10 (.slice ad i cp) i xs9:=by rw[HXS.out];exact hown9'
   have hBww:Below w.heap.size w wr9:=hBwr.trans (hBw.mono hBwr.size);obtain⟨s9s,HSS⟩:∃s9s,Hid (s9s=(A k9).slots):=⟨_,rfl⟩
   have HSLO:Hid (∀x,Below wr9.heap.size wr9 x->Calls prog 76 #[Z1 bl9 cd9 (.map o9)] x fun e w'=>∃(v:Value) (ts:List Nat),e=.returned v/\ts.length<=1000000000000/\SortedKeys (Zs s9s) ts/\w'.ownsRow x.heap.size 54 8 v ts.length (slC s9s ts)/\Below x.heap.size x w'):=fun x hx=>by
    have hBx:=hBw.trans (hx.mono hBw.size);have hs:=HSO.out.kb (Kb.of_below (S:=[]) hBx) (by simp) (Nat.le_refl _);rw[<-HSS.out] at hs;refine(zgW x hs hn).mono ?_;rintro e w' ⟨v,ts,h1,h2,h3,h4,h5⟩;exact⟨v,ts,h1,by omega,h3,h4,h5⟩
   clear c0 c1 c2 c3 hlk hown9'
   refine zq (PhA wr9 (Value.slice ad i cp).ownBlock) (fun p x x'=>p=1->x.grownBy x' (Value.slice ad i cp).ownBlock) [(3,(.slice ad i cp)),(5,(.pointer (some ⟨kb9,0,none⟩))),(6,(.pointer (some ⟨ab9,0,none⟩)))] [(some 18,.v (.slice ad i cp)),(some 19,.v (wv k9)),(some 20,.v (.pointer (some ⟨ab9,0,none⟩))),(some 21,.v (wv bl9)),(some 22,.v (.pointer (some ⟨ab9,4,none⟩))),(some 23,.v (.string cd9)),(some 24,.v (Z1 bl9 cd9 (.map o9))),(some 25,.l (SlV w3.heap.size s9s)),(some 26,.l (AcV k9 bl9 cd9 (SlV w3.heap.size s9s))),(some 27,.l (OneA k9 bl9 cd9 (SlV w3.heap.size s9s))),(some 28,.l (NewA w3.heap.size (i+1) xs9 k9 bl9 cd9 (SlV w3.heap.size s9s))),(some 3,.l (NewA w3.heap.size (i+1) xs9 k9 bl9 cd9 (SlV w3.heap.size s9s)))] [7,10] [1,3,5,6,8,9,11] (by kernel_rfl) (by rfl) (by rfl) (by kernel_rfl) ((Below.refl _ _).drew) (zkF)
     (zf _ _ _ rfl rfl
     (fun s9 x hph hdf hv hl K hK=>by
      have hx:Below wr9.heap.size wr9 x:=hph;refine zW (Post:=fun e w'=>∃(v:Value) (ts:List Nat),e=.returned v/\ts.length<=1000000000000/\SortedKeys (Zs s9s) ts/\w'.ownsRow x.heap.size 54 8 v ts.length (slC s9s ts)/\Below x.heap.size x w') hv (HSLO.out x hx) (by kernel_rfl) (fun v x' h=> ?_) (fun l x' h=>by obtain⟨_,_,h,_⟩:=h;cases h) (fun x' h=>by obtain⟨_,_,h,_⟩:=h;cases h);obtain⟨v',us,h1,h2,h3,h4,h5⟩:=h;obtain rfl:=Ending.returned.inj h1;exact hK _ x' (hx.trans (h5.mono hx.size)) (fun h=>absurd h (by omega)) nn1 ⟨by omega,us,h2,h3,zc1 h4 (Nat.le_trans hb39.size hx.size)⟩)
     (zf _ _ _ rfl rfl
     (fun s9 x hph hdf hv hl K hK=>by
      have hx:Below wr9.heap.size wr9 x:=hph;obtain⟨ad5,n5,c5,q,e1,e2,e3⟩:=hl 27 _ rfl;obtain⟨hq,hcells⟩:=e3 (by omega);obtain⟨i0,hi0,hz0,hz1,hz2⟩:=info_parts zkY;refine zaR w3.heap.size 34 i0 _ 10 104 (by kernel_rfl) hi0 hz0 hz1 hz2 rfl (by decide) (.slice ad i cp) i xs9 (hv 18 _ rfl) (zm hown9 hx) ⟨q,0,none⟩ 1 1 (acC k9 bl9 cd9 (.slice ad5 n5 c5)) e1 rfl hcells (zk8 k9 bl9 cd9 ad5 n5 c5) (by unfold maxLen;omega) (by omega) (by have:=hb39.size;have:=hx.size;omega) ?_;intro v' y ho hgr hfr;exact hK v' y ⟨x,hx,hgr⟩ (fun _=>hgr) nn1 ⟨by omega,.slice ad5 n5 c5,e2.step (zm hown9 hx) hgr,ho⟩)
     True.intro))
     (zf _ _ _ rfl rfl
     (fun k s9 x hk hlo hhi hph hdf hv hl K hK=>by
      have hx:Below wr9.heap.size wr9 x:=zdb hph (by have:=hhi 1 10 rfl (by kernel_rfl);omega);obtain⟨q0,q1,q2,q3⟩:=hkc;exact zB (n:=k9) (hv 5 _ rfl) ((hx.cell hkl).trans q0) ((hx.cell hkl).trans q1) ((hx.cell hkl).trans q2) ((hx.cell hkl).trans q3) (hK _ x (Below.refl _ _) nn1 rfl))
     (zf _ _ _ rfl rfl
     (fun k s9 x hk hlo hhi hph hdf hv hl K hK=>by
      have hx:Below wr9.heap.size wr9 x:=zdb hph (by have:=hhi 1 10 rfl (by kernel_rfl);omega);obtain⟨q0,q1,q2,q3⟩:=hbc;exact zB (n:=bl9) (hv 20 _ rfl) ((hx.cell hal).trans q0) ((hx.cell hal).trans q1) ((hx.cell hal).trans q2) ((hx.cell hal).trans q3) (hK _ x (Below.refl _ _) nn1 rfl))
     (zf _ _ _ rfl rfl
     (fun k s9 x hk hlo hhi hph hdf hv hl K hK=>by
      have hx:Below wr9.heap.size wr9 x:=zdb hph (by have:=hhi 1 10 rfl (by kernel_rfl);omega);exact zv (v:=.string cd9) (fun w=>by kernel_rfl) (hv 22 _ rfl) ((hx.cell hal).trans hcc) (hK _ x (Below.refl _ _) nn1 rfl))
     (zf _ _ _ rfl rfl
     (fun k s9 x hk hlo hhi hph hdf hv hl K hK=>by
      have hx:Below wr9.heap.size wr9 x:=zlE hph (hhi 0 7 rfl (by kernel_rfl));obtain⟨q0,q1,q2,q3⟩:=hbc;exact zlR (hv 6 _ rfl) ((hx.cell hal).trans q0) ((hx.cell hal).trans q1) ((hx.cell hal).trans q2) ((hx.cell hal).trans q3) ((hx.cell hal).trans hcc) ((hx.cell hal).trans hsc) (hK _ x (Below.refl _ _) nn1 rfl))
     (zf _ _ _ rfl rfl
     (fun k s9 x hk hlo hhi hph hdf hv hl K hK=>by
      obtain⟨hp,us,h1,h2,h3⟩:=hl 25 _ rfl;obtain⟨ad5,cp5,e5⟩:=Zk h3;exact zcm (hv 19 _ rfl) (hv 21 _ rfl) (hv 23 _ rfl) e5 (hK _ x (Below.refl _ _) nn1 ⟨_,_,_,rfl,hp,us,h1,h2,e5▸h3⟩))
     (zf _ _ _ rfl rfl
     (fun k s9 x hk hlo hhi hph hdf hv hl K hK=>by
      obtain⟨ad5,n5,c5,e1,e2⟩:=hl 26 _ rfl;refine zfp e1 (hK _ _ (bal (Below.refl _ x) _) nn1 ⟨ad5,n5,c5,x.heap.size,rfl,e2.below (bal (Below.refl _ x) _),fun _=>⟨by simp,Z8 x #[.int .u64 (za k9 0),.int .u64 (za k9 1),.int .u64 (za k9 2),.int .u64 (za k9 3),.int .u64 (za bl9 0),.int .u64 (za bl9 1),.int .u64 (za bl9 2),.int .u64 (za bl9 3),.string cd9,.slice ad5 n5 c5] 34⟩⟩))
     (zf _ _ _ rfl rfl
     (fun k s9 x hk hlo hhi hph hdf hv hl K hK=>by
      exact zdx 28 3 _ rfl (hK _ x (Below.refl _ _) nn1 (hl 28 _ rfl)))
     True.intro)))))))
     (fun i9 d T' he p v x x' hne hp hph hrel hT=>by
      rcases zla (show i9<12 from(List.getElem?_eq_some_iff.1 he).1) with rfl|rfl|rfl|rfl|rfl|rfl|rfl|rfl|rfl|rfl|rfl|rfl
      all_goals first
       |(cases he;done)
       |(obtain rfl:=Sum.inr.inj (Prod.mk.inj (Option.some.inj he)).2;exact zcL (show p<2 from hp) hown9 hph hrel hT)
       |(obtain rfl:=Sum.inr.inj (Prod.mk.inj (Option.some.inj he)).2;exact zib (show p<2 from hp) hown9 hph hrel hT)
       |(obtain rfl:=Sum.inr.inj (Prod.mk.inj (Option.some.inj he)).2;exact ziT (show p<2 from hp) hown9 hph hrel hT)
       |(obtain rfl:=Sum.inr.inj (Prod.mk.inj (Option.some.inj he)).2;exact absurd (show p<2 from hp) (by have:=hT.1;omega))) (fun i9 d T' he p v x x' hph hb hT=>by
      rcases zla (show i9<12 from(List.getElem?_eq_some_iff.1 he).1) with rfl|rfl|rfl|rfl|rfl|rfl|rfl|rfl|rfl|rfl|rfl|rfl
      all_goals first
       |(cases he;done)
       |(obtain rfl:=Sum.inr.inj (Prod.mk.inj (Option.some.inj he)).2;first|exact SlV.below hT hb|exact AcV.below hT hb|exact OneA.below hT hb|exact NewA.below hT hb)) ?_
   intro gg z hz hgv;obtain⟨-,sl,⟨-,us,hu1,hu2,hu3⟩,hown2⟩:NewA w3.heap.size (i+1) xs9 k9 bl9 cd9 (SlV w3.heap.size s9s) 2 (gg 11) z:=hgv 11 _ _ rfl;obtain⟨y,hy1,hy2⟩:∃y,Below wr9.heap.size wr9 y/\y.grownBy z (Value.slice ad i cp).ownBlock:=hz;obtain⟨ad2,cp2,e9⟩:=Zk hown2
   have HSL:Hid (Told w3.heap.size A (ts.take (i+1)) (.slice ad2 (i+1) cp2) (sls++[sl]) z/\Below w3.heap.size w3 z):=by
    have hll:sls.length=i:=by rw[HR.out.1.len,htl]
    have e1:ts.take (i+1)=ts.take i++[k9]:=by rw[List.take_add_one,List.getElem?_eq_getElem hil,<-HK9.out];rfl
    have hby:Below w3.heap.size w3 y:=hb39.trans (hy1.mono hb39.size);refine⟨⟨?_, ?_,fun j k sl' h1 h2=> ?_⟩,hby.grown hy2 hby.size (fun k hk=>(hown9.lt k hk).1)⟩
    ·rw[e1,List.length_append,List.length_append,hll,htl];rfl
    ·rw[e9] at hown2;rw[e1,ziD A _ _ (by rw[hll,htl]),List.length_append,htl,<-HBL.out,<-HCD.out,<-HXS.out];exact hown2
    ·rw[e1] at h1;by_cases hj:j<i
     ·rw[List.getElem?_append_left (by rw[htl];exact hj)] at h1;rw[List.getElem?_append_left (by rw[hll];exact hj)] at h2;obtain⟨us',g1,g2,g3⟩:=HR.out.1.sl j k sl' h1 h2;exact⟨us',g1,g2,zfa (zm (zm g3 hBw) hy1) (zm hown9 hy1) hy2⟩
     ·rw[List.getElem?_append_right (by rw[htl];omega),htl] at h1;rw[List.getElem?_append_right (by rw[hll];omega),hll] at h2
      have hz0:j - i=0:=by
       have:=(List.getElem?_eq_some_iff.1 h1).1;simp at this;omega
      rw[hz0] at h1 h2;obtain rfl:k9=k:=by simpa using h1
      obtain rfl:sl=sl':=by simpa using h2
      rw[HSS.out] at hu2 hu3;exact⟨us,hu1,hu2,hu3⟩
   clear hown2 hy1 hy2 hgv hBww hal hown9 hb39 hkl hkc hBw hbc hcc hsc hu1 hu2 hu3 HSLO;simp only[yy,yw,yx,Zg,zF,List.foldl_cons,List.foldl_nil,Act.put];simp only[sx9];rw[e9];go_wp2
   go_roundw
   case rel=>exact⟨i+1,ad2,cp2,sls++[sl],by omega,by go_num,rfl,HSL⟩
   case measure=>simp[RowKit.intOf];omega
  ·obtain rfl:i=L:=by omega
   have hd:decide ((i:Int)<(i:Int))=false:=decide_eq_false (by omega);obtain⟨hts,hrow,hb3⟩:=HX.out
   have HE:Hid (∃(v:Value) (ts:List Nat) (sls:List Value),Ending.returned (.slice ad i cp)=.returned v/\ts.length<=n/\zap A ts/\Told w.heap.size A ts v sls wr/\Below w.heap.size w wr):=by
    obtain⟨ht,hbr⟩:=HR.out;rw[HLL.out,List.take_length] at ht;refine⟨_,ts,sls,rfl,by rw[<-HLL.out];exact hlen,⟨hts.1,fun m=> ?_⟩,⟨ht.len, ?_,fun j k sl h1 h2=> ?_⟩,hB3.trans (hbr.mono hB3.size)⟩
    ·rw[hts.2 m];refine and_congr_right fun _=> ?_
     obtain⟨g1,g2⟩:=HF.out.2 m;by_cases hno:(A m).no
     ·rw[g1 hno];simp[hno]
     ·rw[g2 hno];simp[hno]
    ·rw[HLL.out];exact zc1 ht.own hB3.size
    ·obtain⟨us,q1,q2,q3⟩:=ht.sl j k sl h1 h2;exact⟨us,q1,q2,zc1 q3 hB3.size⟩
   clear hts hrow hb3 HR HX;go_wp2;go_ret;exact HE.out
end
section
open Go.RowKit Go.Maps Go.MuLone
theorem zff {w:World} {base e size n:Nat} {v:Value} {xs:List Value} (h:w.ownsRow base e size v n xs) {g i:Nat} (hg:g<base) (u:Value):(w.setCell ⟨g,i,none⟩ u).ownsRow base e size v n xs:=yV h (fun k hk e=>by have:=(h.lt k hk).1;omega) _ _
theorem Told.setlow {base:Nat} {A:Nat->Acc} {ts:List Nat} {v:Value} {sls:List Value} {w:World} (h:Told base A ts v sls w) {g i:Nat} (hg:g<base) (u:Value):Told base A ts v sls (w.setCell ⟨g,i,none⟩ u):=
 ⟨h.len,zff h.own hg u,fun j k sl h1 h2=>by obtain⟨us,q1,q2,q3⟩:=h.sl j k sl h1 h2;exact⟨us,q1,q2,zff q3 hg u⟩⟩
theorem zmq {gb ab n:Nat} {A:Nat->Acc} {sb:Nat->Value} (w:World) (h:HostAt gb ab n A sb w) (hn:n<=1000000000000):
  Calls prog 23 #[.pointer (some ⟨gb,0,none⟩)] w fun e w'=>∃(v:Value) (ts:List Nat) (sls:List Value),e=.returned v/\ts.length<=n/\zap A ts/\Told w.heap.size A ts v sls w'/\HostAt gb ab n A sb w'/\Kb [gb] w w':=by
 have l0:=h.row.cell (i:=0) (by decide);have lz:=h.row.frozen 0;rw[show zeW ab 0=.int .i32 0 from rfl] at l0;have HLK:=zb (lock_free zjf ⟨gb,0,none⟩ w l0 lz);have hgw:gb<w.heap.size:=h.row.lt;have hk2:Kb [gb] w (w.setCell ⟨gb,0,none⟩ (.int .i32 1)):=(Kb.refl [gb] w).setCell (Or.inl (by simp)) _;have hr2:(w.setCell ⟨gb,0,none⟩ (.int .i32 1)).rowIs gb 91 3 (fun i=>if i=0 then .int .i32 1 else zeW ab i):=h.row.set 0 _;have hacc2:=h.acc.kb hk2 (fun k hk hf=>ZN h.row (h.acc.isMap hf) (List.mem_singleton.1 hk).symm)
 have hz2:Zr (w.setCell ⟨gb,0,none⟩ (.int .i32 1)):=h.zr.kb hk2 (fun hm=>by
  have e:(0:Nat)=gb:=by simpa using hm
  rw[<-e,h.zr.1.1] at l0;cases l0)
 have hs2:(w.setCell ⟨gb,0,none⟩ (.int .i32 1)).heap.size=w.heap.size:=by simp
 have HH:=zb h;clear h l0 lz
 go_enter_defers func23,ntmps23
 go_wp2_with fail
 refine HLK.out.mono ?_;rintro e w2 ⟨rfl,rfl⟩;generalize w.setCell ⟨gb,0,none⟩ (.int .i32 1)=x2 at*;have HLI:=zb (znh x2 hacc2 hn);have c2:=hr2.cell (i:=2) (by decide);simp only[zeW,show(2:Nat)≠0 by omega,show(2:Nat)≠1 by omega,if_false] at c2;go_wp2_with fail
 refine HLI.out.mono ?_;rintro e z ⟨v,ts,sls,rfl,hl,hk,ht,hb⟩;have hrp:=zg hr2 hb;have u0:=hrp.cell (i:=0) (by decide);have uz:=hrp.frozen 0;simp only[if_true] at u0;have hap:=hacc2.kb (Kb.of_below (S:=[]) hb) (by simp);have hzp:=hz2.below hb
 have HE:Hid (∃(v':Value) (ts:List Nat) (sls:List Value),Ending.returned v=.returned v'/\ts.length<=n/\zap A ts/\Told w.heap.size A ts v' sls (z.setCell ⟨gb,0,none⟩ (.int .i32 0))/\HostAt gb ab n A sb (z.setCell ⟨gb,0,none⟩ (.int .i32 0))/\Kb [gb] w (z.setCell ⟨gb,0,none⟩ (.int .i32 0))):=by
  have hkz:Kb [gb] z (z.setCell ⟨gb,0,none⟩ (.int .i32 0)):=(Kb.refl [gb] z).setCell (Or.inl (by simp)) _;rw[hs2] at ht;refine⟨v,ts,sls,rfl,hl,hk,ht.setlow hgw _,⟨?_,hap.kb hkz (fun k hk hf=>ZN hrp (hap.isMap hf) (List.mem_singleton.1 hk).symm),hzp.kb hkz (fun hm=> ?_)⟩,(hk2.below hb).setCell (Or.inl (by simp)) _⟩
  ·refine(hrp.set 0 (.int .i32 0)).congr fun i hi=> ?_
   by_cases e:i=0
   ·subst e;rfl
   ·simp only[if_neg e]
  ·have e:(0:Nat)=gb:=by simpa using hm
   rw[<-e,hzp.1.1] at u0;cases u0
 obtain⟨ad,cp,rfl⟩:=Zk ht.own;clear ht hb hrp hap hzp hk hr2 hacc2 hz2 HLI;go_wp2;refine leaves_cons (f:=32) (args:=#[.pointer (some ⟨gb,0,none⟩)]) (by simp) (by simp[go_sem]) ?_;refine(unlock_deferred zjf ⟨gb,0,none⟩ .returning z u0 uz).mono ?_;rintro e u' w'' ⟨rfl,rfl,rfl⟩;exact⟨.slice ad ts.length cp,by simp[results,results23,go_sem],HE.out⟩
end
section
open Go.Maps
def PhB (wr:World):Nat->World->Prop:=fun _ x=>Below wr.heap.size wr x
theorem zlh {wr:World} (k:Nat) (x x':World) (h:PhB wr k x) (hb:Below x.heap.size x x'):PhB wr k x':=(show Below wr.heap.size wr x from h).trans (hb.mono (show Below wr.heap.size wr x from h).size)
section
variable {s:Act} {x:World} {pos:String} {af:Array Edge} {gd:Option (Nat×Bool)} {K:Act->World->Prop} {Q:Exit->Act->World->Prop}
theorem zpc {t d i:Nat} {ty:TypeId} (h:s.tmps.getD t undef=.int .i64 (i:Int)) (hi:0<i) (hK:K (s.put (some d) (.bool true)) x):
  Oper.wp prog ⟨some d,.binOp .gtr 3 (.tmp t) (.const (.int .i64 0)) 3,ty,pos,af,gd⟩ s x K Q:=by
 have f1:s.eval (.tmp t)=.int .i64 (i:Int):=h;have f2:decide ((0:Int)<(i:Int))=true:=decide_eq_true (by omega);go_simp;exact hK
theorem zo7 {t d:Nat} {i:Int} {q:Bool} {ty:TypeId} (h:s.tmps.getD t undef=.int .i64 i) (hq:q=decide ((0:Int)<=i)) (hK:K (s.put (some d) (.bool q)) x):
  Oper.wp prog ⟨some d,.binOp .geq 3 (.tmp t) (.const (.int .i64 0)) 3,ty,pos,af,gd⟩ s x K Q:=by
 have f1:s.eval (.tmp t)=.int .i64 i:=h;rw[hq] at hK;go_simp;exact hK
theorem zh6 {t d i:Nat} {ty:TypeId} (h:s.tmps.getD t undef=.int .i64 (i:Int)) (hi:0<i) (hl:i<=1000000) (hK:K (s.put (some d) (.int .i64 ((i - 1:Nat):Int))) x):
  Oper.wp prog ⟨some d,.binOp .sub 3 (.tmp t) (.const (.int .i64 1)) 3,ty,pos,af,gd⟩ s x K Q:=by
 have f1:s.eval (.tmp t)=.int .i64 (i:Int):=h;have e:((i - 1:Nat):Int)=(i:Int) - 1:=by omega
 rw[e] at hK;go_simp
 go_bits
 exact hK
theorem zpb {t u d j len cap gg o:Nat} {ty:TypeId} (he:s.tmps.getD t undef=.slice (some ⟨gg,o,none⟩) len cap) (hu:s.tmps.getD u undef=.int .i64 (j:Int)) (hj:j<len) (hK:K (s.put (some d) (.pointer (some ⟨gg,o+j*8,none⟩))) x):
  Oper.wp prog ⟨some d,.indexAddr 32 (.tmp t) (.tmp u),ty,pos,af,gd⟩ s x K Q:=by
 have he2:s.eval (.tmp t)=.slice (some ⟨gg,o,none⟩) len cap:=he;have hu2:s.eval (.tmp u)=.int .i64 (j:Int):=hu;go_simp;exact hK
theorem zjd {t u d j len cap gg o:Nat} {ty:TypeId} (he:s.tmps.getD t undef=.slice (some ⟨gg,o,none⟩) len cap) (hu:s.tmps.getD u undef=.int .i64 (j:Int)) (hj:j<len) (hK:K (s.put (some d) (.pointer (some ⟨gg,o+j*10,none⟩))) x):
  Oper.wp prog ⟨some d,.indexAddr 35 (.tmp t) (.tmp u),ty,pos,af,gd⟩ s x K Q:=by
 have he2:s.eval (.tmp t)=.slice (some ⟨gg,o,none⟩) len cap:=he;have hu2:s.eval (.tmp u)=.int .i64 (j:Int):=hu;go_simp;exact hK
end
def SlIn (x:World) (v:Value) (l:List (Nat×Nat)):Prop:=∃ad c,v=.slice ad l.length c/\(l=[]\/∃g o,ad=some ⟨g,o,none⟩/\g<x.heap.size/\∀(i:Nat) p,l[i]? =some p->∀j,j<8->x.cell? ⟨g,o+i*8+j,none⟩=some ((ZH p.1++ZH p.2)[j]!))
theorem SlIn.below {x y:World} {v:Value} {l:List (Nat×Nat)} (h:SlIn x v l) (hb:Below x.heap.size x y):SlIn y v l:=by
 obtain⟨ad,c,h1,h2⟩:=h;refine⟨ad,c,h1,h2.imp id ?_⟩;rintro⟨g,o,h3,h4,h5⟩;exact⟨g,o,h3,Nat.lt_of_lt_of_le h4 hb.size,fun i p hp j hj=>(hb.cell h4).trans (h5 i p hp j hj)⟩
def rS (l:List (Nat×Nat)) (i:Nat):Bool:=(i==0|| !decide (0<=ZZ (l.getD (i - 1) (0,0)).1 (l.getD i (0,0)).1))&& !decide ((l.getD i (0,0)).2%M=0)
def za0 (l:List (Nat×Nat)):Bool:=decide (l.length<=20)&&(List.range l.length).all (rS l)
theorem Yd {n i:Nat} {f:Nat->Bool} (hi:i<n) (h:f i=false):(List.range n).all f=false:=by
 rw[List.all_eq_false];exact⟨i,List.mem_range.2 hi,by rw[h];exact Bool.false_ne_true⟩
theorem zfA {n:Nat} {f:Nat->Bool} (h:∀j,j<n->f j=true):(List.range n).all f=true:=List.all_eq_true.2 fun j hj=>h j (List.mem_range.1 hj)
theorem YG {α:Type} (l:List α) (d:α) {i:Nat} (h:i<l.length):l.getD i d=l[i]:=by rw[List.getD_eq_getElem?_getD,List.getElem?_eq_getElem h];rfl
theorem zg5 {v:Value} (l:List (Nat×Nat)) (w:World) (h:SlIn w v l) (hz:Zr w):Calls prog 80 #[v] w fun e w'=>e=.returned (.bool (za0 l))/\Below w.heap.size w w':=by
 obtain⟨ad,cp,rfl,h2⟩:=h;obtain⟨L,HL⟩:∃L,Hid (L=l.length):=⟨_,rfl⟩;obtain⟨R,HR⟩:∃R,Hid (R=za0 l):=⟨_,rfl⟩;rw[<-HR.out,<-HL.out];by_cases hgt:20<L
 ·have hd:decide ((20:Int)<(L:Int))=true:=decide_eq_true (by omega);have e:R=false:=by rw[HR.out];unfold za0;rw[decide_eq_false (by rw[<-HL.out];omega)];rfl
  rw[e];clear h2;go_enter func80,ntmps80;go_wp2;go_ret;exact⟨rfl,Below.refl _ _⟩
 have hd:decide ((20:Int)<(L:Int))=false:=decide_eq_false (by omega)
 have HR2:Hid (R=(List.range L).all (rS l)):=by
  show R=_;rw[HR.out,HL.out];unfold za0;rw[decide_eq_true (by rw[<-HL.out];omega)];rfl
 have HS:=zb h2;have HZ:=zb hz;clear h2 hz HR;go_enter func80,ntmps80;go_wp2
 go_loopw [10] (fun t10 wr=>∃i:Nat,i<=L/\t10=.int .i64 (i:Int)/\Hid (Below w.heap.size w wr)/\Hid (∀j,j<i->rS l j=true)) (fun t10 _=>L - (RowKit.intOf t10).toNat)
 case atStart=>exact⟨0,Nat.zero_le _,rfl,Below.refl _ _,fun j hj=>absurd hj (by omega)⟩
 case round=>
  obtain⟨i,hi,rfl,HB,HA⟩:=hrel;by_cases hlt:i<L
  ·have hd2:decide ((i:Int)<(L:Int))=true:=decide_eq_true (by omega);obtain⟨g,o,rfl,hgl,hcell⟩:=HS.out.resolve_left (fun e=>by rw[HL.out,e] at hlt;exact absurd hlt (by simp));have hil:i<l.length:=by rw[<-HL.out];exact hlt
   obtain⟨k9,HK9⟩:∃k9:Nat,Hid (k9=l[i].1):=⟨l[i].1,zb rfl⟩;obtain⟨v9,HV9⟩:∃v9:Nat,Hid (v9=l[i].2):=⟨l[i].2,zb rfl⟩;have hc:=hcell i l[i] (List.getElem?_eq_getElem hil);rw[<-HK9.out,<-HV9.out] at hc;have cc:∀j,j<8->wr.cell? ⟨g,o+i*8+j,none⟩=some ((ZH k9++ZH v9)[j]!):=fun j hj=>(HB.out.cell (by exact hgl)).trans (hc j hj)
   have c0:wr.cell? ⟨g,o+i*8,none⟩=some (.int .u64 (za k9 0)):=cc 0 (by omega);have c1:wr.cell? ⟨g,o+i*8+1,none⟩=some (.int .u64 (za k9 1)):=cc 1 (by omega);have c2:wr.cell? ⟨g,o+i*8+2,none⟩=some (.int .u64 (za k9 2)):=cc 2 (by omega);have c3:wr.cell? ⟨g,o+i*8+3,none⟩=some (.int .u64 (za k9 3)):=cc 3 (by omega);have c4:wr.cell? ⟨g,o+i*8+4,none⟩=some (.int .u64 (za v9 0)):=cc 4 (by omega);have c5:wr.cell? ⟨g,o+i*8+5,none⟩=some (.int .u64 (za v9 1)):=cc 5 (by omega);have c6:wr.cell? ⟨g,o+i*8+6,none⟩=some (.int .u64 (za v9 2)):=cc 6 (by omega);have c7:wr.cell? ⟨g,o+i*8+7,none⟩=some (.int .u64 (za v9 3)):=cc 7 (by omega);have HGL:=zb hgl;have HCL:=zb hcell;have HIL:=zb hil;clear cc hc hcell hgl;by_cases hi9:i=0
   ·subst hi9;simp only[Nat.zero_mul,Nat.add_zero] at c0 c1 c2 c3 c4 c5 c6 c7;obtain⟨q9,hq9⟩:∃q9,q9=false:=⟨_,rfl⟩
    have HRS:Hid (rS l 0=((0==0|| !q9)&& !decide (v9%M=0))):=by
     show rS l 0=_;unfold rS;rw[HV9.out,YG l (0,0) HIL.out];simp
    have hi9:(0:Nat)=0:=rfl;go_wp2
    go_quiet (fail)
    have hBx:Below w.heap.size w ((wr.alloc (.cells #[.int .u64 (za k9 0),.int .u64 (za k9 1),.int .u64 (za k9 2),.int .u64 (za k9 3),.int .u64 (za v9 0),.int .u64 (za v9 1),.int .u64 (za v9 2),.int .u64 (za v9 3)] 54)).drewN nq):=zL (bal HB.out _) nq;have HBX:=zb hBx;clear hBx;subst hq9;obtain⟨⟨z0,z1,z2,z3⟩,_⟩:=HZ.out.below HBX.out;have hez:=Z5 v9;by_cases hv0:v9%M=0
    ·rw[zfn hv0] at hez;go_wp2;go_ret;refine⟨?_,HBX.out⟩;rw[HR2.out,Yd hlt (by rw[HRS.out];simp[hv0])];rfl
    ·rw[zh2 hv0] at hez;go_wp2;refine⟨⟨0+1,by omega,by simp,HBX.out, ?_⟩, ?_⟩
     ·intro j hj;by_cases e:j=0
      ·subst e;rw[HRS.out];simp[hv0]
      ·exact HA.out j (by omega)
     ·simp[RowKit.intOf];omega
   ·have hi0:0<i:=by omega
    have hil9:i<=1000000:=by omega
    obtain⟨a9,HA9⟩:∃a9:Nat,Hid (a9=(l[i - 1]'(by have:=HIL.out;omega)).1):=⟨(l[i - 1]'(by have:=HIL.out;omega)).1,zb rfl⟩;obtain⟨q9,hq9⟩:∃q9,q9=decide ((0:Int)<=ZZ a9 k9):=⟨_,rfl⟩
    have HRS:Hid (rS l i=((i==0|| !q9)&& !decide (v9%M=0))):=by
     show rS l i=_;unfold rS;rw[hq9,HV9.out,HK9.out,HA9.out,YG l (0,0) HIL.out,YG l (0,0) (show i - 1<l.length by have:=HIL.out;omega)]
    go_wp2;obtain⟨wr9,hwr9⟩:∃wr9,wr9=wr.alloc (.cells #[.int .u64 (za k9 0),.int .u64 (za k9 1),.int .u64 (za k9 2),.int .u64 (za k9 3),.int .u64 (za v9 0),.int .u64 (za v9 1),.int .u64 (za v9 2),.int .u64 (za v9 3)] 54):=⟨_,rfl⟩;obtain⟨pb9,hpb9⟩:∃pb9,pb9=wr.heap.size:=⟨_,rfl⟩;have hB9:Below wr.heap.size wr wr9:=by rw[hwr9];exact bal (Below.refl _ _) _
    have hpc:=HCL.out (i - 1) (l[i - 1]'(by have:=HIL.out;omega)) (List.getElem?_eq_getElem (by have:=HIL.out;omega));have hgl9:g<wr9.heap.size:=Nat.lt_of_lt_of_le HGL.out (Nat.le_trans HB.out.size hB9.size);have pc:∀j,j<8->wr9.cell? ⟨g,o+(i - 1)*8+j,none⟩=_:=fun j hj=>((HB.out.trans (hB9.mono HB.out.size)).cell (by exact HGL.out)).trans (hpc j hj)
    rw[<-HA9.out] at pc;have p0:wr9.cell? ⟨g,o+(i - 1)*8,none⟩=some (.int .u64 (za a9 0)):=pc 0 (by omega);have p1:wr9.cell? ⟨g,o+(i - 1)*8+1,none⟩=some (.int .u64 (za a9 1)):=pc 1 (by omega);have p2:wr9.cell? ⟨g,o+(i - 1)*8+2,none⟩=some (.int .u64 (za a9 2)):=pc 2 (by omega);have p3:wr9.cell? ⟨g,o+(i - 1)*8+3,none⟩=some (.int .u64 (za a9 3)):=pc 3 (by omega);have hpl9:pb9<wr9.heap.size:=by rw[hpb9,hwr9];simp
    have hbl:=fun j u hu=>Z8 wr #[.int .u64 (za k9 0),.int .u64 (za k9 1),.int .u64 (za k9 2),.int .u64 (za k9 3),.int .u64 (za v9 0),.int .u64 (za v9 1),.int .u64 (za v9 2),.int .u64 (za v9 3)] 54 j u hu
    have b0:wr9.cell? ⟨pb9,0,none⟩=some (.int .u64 (za k9 0)):=by rw[hpb9,hwr9];exact hbl 0 _ rfl
    have b1:wr9.cell? ⟨pb9,0+1,none⟩=some (.int .u64 (za k9 1)):=by rw[hpb9,hwr9];exact hbl 1 _ rfl
    have b2:wr9.cell? ⟨pb9,0+2,none⟩=some (.int .u64 (za k9 2)):=by rw[hpb9,hwr9];exact hbl 2 _ rfl
    have b3:wr9.cell? ⟨pb9,0+3,none⟩=some (.int .u64 (za k9 3)):=by rw[hpb9,hwr9];exact hbl 3 _ rfl
    rw[<-hwr9,<-hpb9]
    refine zq (PhB wr9) (fun _ _ _=>True) [(0,(.slice (some ⟨g,o,none⟩) L cp)),(3,(.int .i64 (i:Int))),(4,(.pointer (some ⟨pb9,0,none⟩)))] [(some 15,.v (.int .i64 (i:Int))),(some 16,.v (.bool true)),(some 17,.v (.bool true)),(some 18,.v (.slice (some ⟨g,o,none⟩) L cp)),(some 19,.v (.int .i64 (i:Int))),(some 20,.v (.int .i64 ((i - 1:Nat):Int))),(some 21,.v (.pointer (some ⟨g,o+(i - 1)*8,none⟩))),(some 22,.v (.pointer (some ⟨g,o+(i - 1)*8,none⟩))),(some 23,.v (wv a9)),(some 24,.v (.pointer (some ⟨pb9,0,none⟩))),(some 25,.v (wv k9)),(some 26,.v (.int .i64 (ZZ a9 k9))),(some 27,.v (.bool q9)),(some 28,.v (.bool q9))] [] [1,5,6,8,10,11,12] (by kernel_rfl) (by rfl) (by rfl) (by kernel_rfl) ((Below.refl _ _).drew) (zlh)
      True.intro
      (zf _ _ _ rfl rfl
      (fun k s9 x hk hlo hhi hph hdf hv hl K hK=>by
       have hx:Below wr9.heap.size wr9 x:=hph;exact zpc (hv 15 _ rfl) hi0 (hK _ x (Below.refl _ _) nn1 rfl))
      (zf _ _ _ rfl rfl
      (fun k s9 x hk hlo hhi hph hdf hv hl K hK=>by
       have hx:Below wr9.heap.size wr9 x:=hph;exact zh6 (hv 19 _ rfl) hi0 hil9 (hK _ x (Below.refl _ _) nn1 rfl))
      (zf _ _ _ rfl rfl
      (fun k s9 x hk hlo hhi hph hdf hv hl K hK=>by
       have hx:Below wr9.heap.size wr9 x:=hph;exact zpb (hv 18 _ rfl) (hv 20 _ rfl) (by omega) (hK _ x (Below.refl _ _) nn1 rfl))
      (zf _ _ _ rfl rfl
      (fun k s9 x hk hlo hhi hph hdf hv hl K hK=>by
       have hx:Below wr9.heap.size wr9 x:=hph;exact zB (n:=a9) (hv 22 _ rfl) ((hx.cell hgl9).trans p0) ((hx.cell hgl9).trans p1) ((hx.cell hgl9).trans p2) ((hx.cell hgl9).trans p3) (hK _ x (Below.refl _ _) nn1 rfl))
      (zf _ _ _ rfl rfl
      (fun k s9 x hk hlo hhi hph hdf hv hl K hK=>by
       have hx:Below wr9.heap.size wr9 x:=hph;exact zB (n:=k9) (hv 24 _ rfl) ((hx.cell hpl9).trans b0) ((hx.cell hpl9).trans b1) ((hx.cell hpl9).trans b2) ((hx.cell hpl9).trans b3) (hK _ x (Below.refl _ _) nn1 rfl))
      (zf _ _ _ rfl rfl
      (fun k s9 x hk hlo hhi hph hdf hv hl K hK=>by
       have hx:Below wr9.heap.size wr9 x:=hph;refine zW hv (Yg a9 k9 x) (by kernel_rfl) (fun v y h=> ?_) (fun l y h=>absurd h.1 (by simp)) (fun y h=>absurd h.1 (by simp));obtain⟨e,hb⟩:=h;injection e with e
       subst e;exact hK _ y hb nn1 rfl)
      (zf _ _ _ rfl rfl
      (fun k s9 x hk hlo hhi hph hdf hv hl K hK=>by
       have hx:Below wr9.heap.size wr9 x:=hph;exact zo7 (hv 26 _ rfl) hq9 (hK _ x (Below.refl _ _) nn1 rfl))
      True.intro)))))))
      (fun _ _ _ h=>(zo rfl h).elim) (fun _ _ _ h=>(zo rfl h).elim) ?_
    intro gg x hph _;have e4:x.cell? ⟨pb9,4,none⟩=some (.int .u64 (za v9 0)):=((show Below wr9.heap.size wr9 x from hph).cell hpl9).trans (by rw[hpb9,hwr9];exact hbl 4 _ rfl);have e5:x.cell? ⟨pb9,5,none⟩=some (.int .u64 (za v9 1)):=((show Below wr9.heap.size wr9 x from hph).cell hpl9).trans (by rw[hpb9,hwr9];exact hbl 5 _ rfl);have e6:x.cell? ⟨pb9,6,none⟩=some (.int .u64 (za v9 2)):=((show Below wr9.heap.size wr9 x from hph).cell hpl9).trans (by rw[hpb9,hwr9];exact hbl 6 _ rfl);have e7:x.cell? ⟨pb9,7,none⟩=some (.int .u64 (za v9 3)):=((show Below wr9.heap.size wr9 x from hph).cell hpl9).trans (by rw[hpb9,hwr9];exact hbl 7 _ rfl);have hBx:Below w.heap.size w x:=(HB.out.trans (hB9.mono HB.out.size)).trans ((show Below wr9.heap.size wr9 x from hph).mono (Nat.le_trans HB.out.size hB9.size));clear hq9 hph p0 p1 p2 p3 b0 b1 b2 b3 pc hpc hbl hgl9 hpl9 hwr9 hpb9 hB9;simp only[yy,yw,yx,Zg,zF,List.foldl_cons,List.foldl_nil,Act.put];simp only[sx9];have HBX:=zb hBx;clear hBx;cases hqe:q9 with
    |true=>
     subst hqe;go_wp2;go_ret;refine⟨?_,HBX.out⟩;rw[HR2.out,Yd hlt (by rw[HRS.out];simp[hi9])];rfl
    |false=>
     subst hqe;obtain⟨⟨z0,z1,z2,z3⟩,_⟩:=HZ.out.below HBX.out;have hez:=Z5 v9;by_cases hv0:v9%M=0
     ·rw[zfn hv0] at hez;go_wp2;go_ret;refine⟨?_,HBX.out⟩;rw[HR2.out,Yd hlt (by rw[HRS.out];simp[hv0])];rfl
     ·rw[zh2 hv0] at hez;go_wp2;refine⟨⟨i+1,by omega,by simp,HBX.out, ?_⟩, ?_⟩
      ·intro j hj;by_cases e:j=i
       ·subst e;rw[HRS.out];simp[hv0]
       ·exact HA.out j (by omega)
      ·simp[RowKit.intOf];omega
  ·have hd2:decide ((i:Int)<(L:Int))=false:=decide_eq_false (by omega);have HA2:Hid (∀j,j<L->rS l j=true):=fun j hj=>HA.out j (by omega)
   clear HA;go_wp2;go_ret;refine⟨?_,HB.out⟩;rw[HR2.out,zfA HA2.out];rfl
end
section
open Go.Maps
structure AcE where
 at':Nat
 bal:Nat
 code:ByteArray
 slots:List (Nat×Nat)
def ac0:AcE:=⟨0,0,⟨#[]⟩,[]⟩
def AcIn (x:World) (v:Value) (l:List AcE):Prop:=∃ad c,v=.slice ad l.length c/\(l=[]\/∃g o,ad=some ⟨g,o,none⟩/\g<x.heap.size/\∀(i:Nat) a,l[i]? =some a->∃sl,(∀j,j<10->x.cell? ⟨g,o+i*10+j,none⟩=some ((acC a.at' a.bal a.code sl)[j]!))/\SlIn x sl a.slots)
theorem AcIn.below {x y:World} {v:Value} {l:List AcE} (h:AcIn x v l) (hb:Below x.heap.size x y):AcIn y v l:=by
 obtain⟨ad,c,h1,h2⟩:=h;refine⟨ad,c,h1,h2.imp id ?_⟩;rintro⟨g,o,h3,h4,h5⟩;refine⟨g,o,h3,Nat.lt_of_lt_of_le h4 hb.size,fun i p hp=> ?_⟩;obtain⟨sl,h6,h7⟩:=h5 i p hp;exact⟨sl,fun j hj=>(hb.cell h4).trans (h6 j hj),h7.below hb⟩
def rA (l:List AcE) (i:Nat):Bool:=(i==0|| !decide (0<=ZZ (l.getD (i - 1) ac0).at' (l.getD i ac0).at'))&&(decide ((l.getD i ac0).code.size<=1000)&&za0 (l.getD i ac0).slots)
def zaw (l:List AcE):Bool:=decide (l.length<=8)&&(List.range l.length).all (rA l)
theorem zis {v:Value} (l:List AcE) (w:World) (h:AcIn w v l) (hz:Zr w):Calls prog 55 #[v] w fun e w'=>e=.returned (.bool (zaw l))/\Below w.heap.size w w':=by
 obtain⟨ad,cp,rfl,h2⟩:=h;obtain⟨L,HL⟩:∃L,Hid (L=l.length):=⟨_,rfl⟩;obtain⟨R,HR⟩:∃R,Hid (R=zaw l):=⟨_,rfl⟩;rw[<-HR.out,<-HL.out];by_cases hgt:8<L
 ·have hd:decide ((8:Int)<(L:Int))=true:=decide_eq_true (by omega);have e:R=false:=by rw[HR.out];unfold zaw;rw[decide_eq_false (by rw[<-HL.out];omega)];rfl
  rw[e];clear h2;go_enter func55,ntmps55;go_wp2;go_ret;exact⟨rfl,Below.refl _ _⟩
 have hd:decide ((8:Int)<(L:Int))=false:=decide_eq_false (by omega)
 have HR2:Hid (R=(List.range L).all (rA l)):=by
  show R=_;rw[HR.out,HL.out];unfold zaw;rw[decide_eq_true (by rw[<-HL.out];omega)];rfl
 have HS:=zb h2;have HZ:=zb hz;clear h2 hz HR;go_enter func55,ntmps55;go_wp2
 go_loopw [10] (fun t10 wr=>∃i:Nat,i<=L/\t10=.int .i64 (i:Int)/\Hid (Below w.heap.size w wr)/\Hid (∀j,j<i->rA l j=true)) (fun t10 _=>L - (RowKit.intOf t10).toNat)
 case atStart=>exact⟨0,Nat.zero_le _,rfl,Below.refl _ _,fun j hj=>absurd hj (by omega)⟩
 case round=>
  obtain⟨i,hi,rfl,HB,HA⟩:=hrel;by_cases hlt:i<L
  ·have hd2:decide ((i:Int)<(L:Int))=true:=decide_eq_true (by omega);obtain⟨g,o,rfl,hgl,hcell⟩:=HS.out.resolve_left (fun e=>by rw[HL.out,e] at hlt;exact absurd hlt (by simp));have hil:i<l.length:=by rw[<-HL.out];exact hlt
   obtain⟨a,HAE⟩:∃a,Hid (a=l[i]):=⟨l[i],zb rfl⟩;obtain⟨sl,hc,hsl⟩:=hcell i l[i] (List.getElem?_eq_getElem hil);rw[<-HAE.out] at hc hsl;obtain⟨k9,bl9,cd9,ss⟩:=a;dsimp only at hc hsl;obtain⟨r8,HR8⟩:∃r8,Hid (r8=za0 ss):=⟨_,rfl⟩
   have HSL:Hid (∀x,Below w.heap.size w x->Calls prog 80 #[sl] x fun e w'=>e=.returned (.bool r8)/\Below x.heap.size x w'):=fun x hx=>by
    rw[HR8.out];exact zg5 ss x (hsl.below hx) (HZ.out.below hx)
   obtain⟨ad2,cq2,rfl,_⟩:=hsl;obtain⟨n2,HN2⟩:∃n2,Hid (n2=ss.length):=⟨_,rfl⟩;rw[<-HN2.out] at hc HSL;have cc:∀j,j<10->wr.cell? ⟨g,o+i*10+j,none⟩=some ((acC k9 bl9 cd9 (.slice ad2 n2 cq2))[j]!):=fun j hj=>(HB.out.cell (by exact hgl)).trans (hc j hj)
   have c0:wr.cell? ⟨g,o+i*10,none⟩=some (.int .u64 (za k9 0)):=cc 0 (by omega);have c1:wr.cell? ⟨g,o+i*10+1,none⟩=some (.int .u64 (za k9 1)):=cc 1 (by omega);have c2:wr.cell? ⟨g,o+i*10+2,none⟩=some (.int .u64 (za k9 2)):=cc 2 (by omega);have c3:wr.cell? ⟨g,o+i*10+3,none⟩=some (.int .u64 (za k9 3)):=cc 3 (by omega);have c4:wr.cell? ⟨g,o+i*10+4,none⟩=some (.int .u64 (za bl9 0)):=cc 4 (by omega);have c5:wr.cell? ⟨g,o+i*10+5,none⟩=some (.int .u64 (za bl9 1)):=cc 5 (by omega);have c6:wr.cell? ⟨g,o+i*10+6,none⟩=some (.int .u64 (za bl9 2)):=cc 6 (by omega);have c7:wr.cell? ⟨g,o+i*10+7,none⟩=some (.int .u64 (za bl9 3)):=cc 7 (by omega);have c8:wr.cell? ⟨g,o+i*10+8,none⟩=some (.string cd9):=cc 8 (by omega);have c9:wr.cell? ⟨g,o+i*10+9,none⟩=some (.slice ad2 n2 cq2):=cc 9 (by omega);have HGL:=zb hgl;have HCL:=zb hcell;have HIL:=zb hil;clear cc hc hcell hgl;by_cases hi9:i=0
   ·subst hi9;simp only[Nat.zero_mul,Nat.add_zero] at c0 c1 c2 c3 c4 c5 c6 c7 c8 c9;obtain⟨q9,hq9⟩:∃q9,q9=false:=⟨_,rfl⟩
    have HRS:Hid (rA l 0=((0==0|| !q9)&&(decide (cd9.size<=1000)&&r8))):=by
     show rA l 0=_;unfold rA;rw[YG l ac0 HIL.out,<-HAE.out,HR8.out];simp
    have hi9:(0:Nat)=0:=rfl;go_wp2
    go_quiet (fail)
    have hBx:Below w.heap.size w ((wr.alloc (.cells #[.int .u64 (za k9 0),.int .u64 (za k9 1),.int .u64 (za k9 2),.int .u64 (za k9 3),.int .u64 (za bl9 0),.int .u64 (za bl9 1),.int .u64 (za bl9 2),.int .u64 (za bl9 3),.string cd9,.slice ad2 n2 cq2] 34)).drewN nq):=zL (bal HB.out _) nq;have HBX:=zb hBx;clear hBx;subst hq9;by_cases hcd:1000<cd9.size
    ·have hd3:decide ((1000:Int)<(cd9.size:Int))=true:=decide_eq_true (by omega);go_wp2;go_ret;refine⟨?_,HBX.out⟩;rw[HR2.out,Yd hlt (by rw[HRS.out,decide_eq_false (show¬cd9.size<=1000 by omega)];simp)];rfl
    ·have hd3:decide ((1000:Int)<(cd9.size:Int))=false:=decide_eq_false (by omega);have HAR:=zb (HSL.out _ HBX.out);clear HSL;cases hre:r8 with
     |false=>
      subst hre;go_wp2_with (first|(go_at_call 80;refine HAR.out.mono ?_;rintro e w9 ⟨rfl,hb9⟩)|fail)
      go_ret;refine⟨?_,HBX.out.trans (hb9.mono HBX.out.size)⟩;rw[HR2.out,Yd hlt (by rw[HRS.out];simp)];rfl
     |true=>
      subst hre;go_wp2_with (first|(go_at_call 80;refine HAR.out.mono ?_;rintro e w9 ⟨rfl,hb9⟩)|fail)
      refine⟨⟨0+1,by omega,by simp,HBX.out.trans (hb9.mono HBX.out.size), ?_⟩, ?_⟩
      ·intro j hj;by_cases e:j=0
       ·subst e;rw[HRS.out,decide_eq_true (show cd9.size<=1000 by omega)];simp
       ·exact HA.out j (by omega)
      ·simp[RowKit.intOf];omega
   ·have hi0:0<i:=by omega
    have hil9:i<=1000000:=by omega
    obtain⟨a9,HA9⟩:∃a9:Nat,Hid (a9=(l[i - 1]'(by have:=HIL.out;omega)).at'):=⟨(l[i - 1]'(by have:=HIL.out;omega)).at',zb rfl⟩;obtain⟨q9,hq9⟩:∃q9,q9=decide ((0:Int)<=ZZ a9 k9):=⟨_,rfl⟩
    have HRS:Hid (rA l i=((i==0|| !q9)&&(decide (cd9.size<=1000)&&r8))):=by
     show rA l i=_;unfold rA;rw[YG l ac0 HIL.out,YG l ac0 (show i - 1<l.length by have:=HIL.out;omega),<-HAE.out,<-HA9.out,HR8.out,hq9]
    go_wp2;obtain⟨wr9,hwr9⟩:∃wr9,wr9=wr.alloc (.cells #[.int .u64 (za k9 0),.int .u64 (za k9 1),.int .u64 (za k9 2),.int .u64 (za k9 3),.int .u64 (za bl9 0),.int .u64 (za bl9 1),.int .u64 (za bl9 2),.int .u64 (za bl9 3),.string cd9,.slice ad2 n2 cq2] 34):=⟨_,rfl⟩;obtain⟨pb9,hpb9⟩:∃pb9,pb9=wr.heap.size:=⟨_,rfl⟩;have hB9:Below wr.heap.size wr wr9:=by rw[hwr9];exact bal (Below.refl _ _) _
    obtain⟨slp,hpc,_⟩:=HCL.out (i - 1) (l[i - 1]'(by have:=HIL.out;omega)) (List.getElem?_eq_getElem (by have:=HIL.out;omega));have hgl9:g<wr9.heap.size:=Nat.lt_of_lt_of_le HGL.out (Nat.le_trans HB.out.size hB9.size);have pc:∀j,j<10->wr9.cell? ⟨g,o+(i - 1)*10+j,none⟩=_:=fun j hj=>((HB.out.trans (hB9.mono HB.out.size)).cell (by exact HGL.out)).trans (hpc j hj)
    rw[<-HA9.out] at pc;have p0:wr9.cell? ⟨g,o+(i - 1)*10,none⟩=some (.int .u64 (za a9 0)):=pc 0 (by omega);have p1:wr9.cell? ⟨g,o+(i - 1)*10+1,none⟩=some (.int .u64 (za a9 1)):=pc 1 (by omega);have p2:wr9.cell? ⟨g,o+(i - 1)*10+2,none⟩=some (.int .u64 (za a9 2)):=pc 2 (by omega);have p3:wr9.cell? ⟨g,o+(i - 1)*10+3,none⟩=some (.int .u64 (za a9 3)):=pc 3 (by omega);have hpl9:pb9<wr9.heap.size:=by rw[hpb9,hwr9];simp
    have hbl:=fun j u hu=>Z8 wr #[.int .u64 (za k9 0),.int .u64 (za k9 1),.int .u64 (za k9 2),.int .u64 (za k9 3),.int .u64 (za bl9 0),.int .u64 (za bl9 1),.int .u64 (za bl9 2),.int .u64 (za bl9 3),.string cd9,.slice ad2 n2 cq2] 34 j u hu
    have b0:wr9.cell? ⟨pb9,0,none⟩=some (.int .u64 (za k9 0)):=by rw[hpb9,hwr9];exact hbl 0 _ rfl
    have b1:wr9.cell? ⟨pb9,0+1,none⟩=some (.int .u64 (za k9 1)):=by rw[hpb9,hwr9];exact hbl 1 _ rfl
    have b2:wr9.cell? ⟨pb9,0+2,none⟩=some (.int .u64 (za k9 2)):=by rw[hpb9,hwr9];exact hbl 2 _ rfl
    have b3:wr9.cell? ⟨pb9,0+3,none⟩=some (.int .u64 (za k9 3)):=by rw[hpb9,hwr9];exact hbl 3 _ rfl
    rw[<-hwr9,<-hpb9]
    refine zq (PhB wr9) (fun _ _ _=>True) [(0,(.slice (some ⟨g,o,none⟩) L cp)),(3,(.int .i64 (i:Int))),(4,(.pointer (some ⟨pb9,0,none⟩)))] [(some 15,.v (.int .i64 (i:Int))),(some 16,.v (.bool true)),(some 17,.v (.bool true)),(some 18,.v (.slice (some ⟨g,o,none⟩) L cp)),(some 19,.v (.int .i64 (i:Int))),(some 20,.v (.int .i64 ((i - 1:Nat):Int))),(some 21,.v (.pointer (some ⟨g,o+(i - 1)*10,none⟩))),(some 22,.v (.pointer (some ⟨g,o+(i - 1)*10,none⟩))),(some 23,.v (wv a9)),(some 24,.v (.pointer (some ⟨pb9,0,none⟩))),(some 25,.v (wv k9)),(some 26,.v (.int .i64 (ZZ a9 k9))),(some 27,.v (.bool q9)),(some 28,.v (.bool q9))] [] [1,5,6,8,10,11,12] (by kernel_rfl) (by rfl) (by rfl) (by kernel_rfl) ((Below.refl _ _).drew) (zlh)
      True.intro
      (zf _ _ _ rfl rfl
      (fun k s9 x hk hlo hhi hph hdf hv hl K hK=>by
       have hx:Below wr9.heap.size wr9 x:=hph;exact zpc (hv 15 _ rfl) hi0 (hK _ x (Below.refl _ _) nn1 rfl))
      (zf _ _ _ rfl rfl
      (fun k s9 x hk hlo hhi hph hdf hv hl K hK=>by
       have hx:Below wr9.heap.size wr9 x:=hph;exact zh6 (hv 19 _ rfl) hi0 hil9 (hK _ x (Below.refl _ _) nn1 rfl))
      (zf _ _ _ rfl rfl
      (fun k s9 x hk hlo hhi hph hdf hv hl K hK=>by
       have hx:Below wr9.heap.size wr9 x:=hph;exact zjd (hv 18 _ rfl) (hv 20 _ rfl) (by omega) (hK _ x (Below.refl _ _) nn1 rfl))
      (zf _ _ _ rfl rfl
      (fun k s9 x hk hlo hhi hph hdf hv hl K hK=>by
       have hx:Below wr9.heap.size wr9 x:=hph;exact zB (n:=a9) (hv 22 _ rfl) ((hx.cell hgl9).trans p0) ((hx.cell hgl9).trans p1) ((hx.cell hgl9).trans p2) ((hx.cell hgl9).trans p3) (hK _ x (Below.refl _ _) nn1 rfl))
      (zf _ _ _ rfl rfl
      (fun k s9 x hk hlo hhi hph hdf hv hl K hK=>by
       have hx:Below wr9.heap.size wr9 x:=hph;exact zB (n:=k9) (hv 24 _ rfl) ((hx.cell hpl9).trans b0) ((hx.cell hpl9).trans b1) ((hx.cell hpl9).trans b2) ((hx.cell hpl9).trans b3) (hK _ x (Below.refl _ _) nn1 rfl))
      (zf _ _ _ rfl rfl
      (fun k s9 x hk hlo hhi hph hdf hv hl K hK=>by
       have hx:Below wr9.heap.size wr9 x:=hph;refine zW hv (Yg a9 k9 x) (by kernel_rfl) (fun v y h=> ?_) (fun l y h=>absurd h.1 (by simp)) (fun y h=>absurd h.1 (by simp));obtain⟨e,hb⟩:=h;injection e with e
       subst e;exact hK _ y hb nn1 rfl)
      (zf _ _ _ rfl rfl
      (fun k s9 x hk hlo hhi hph hdf hv hl K hK=>by
       have hx:Below wr9.heap.size wr9 x:=hph;exact zo7 (hv 26 _ rfl) hq9 (hK _ x (Below.refl _ _) nn1 rfl))
      True.intro)))))))
      (fun _ _ _ h=>(zo rfl h).elim) (fun _ _ _ h=>(zo rfl h).elim) ?_
    intro gg x hph _;have e8:x.cell? ⟨pb9,8,none⟩=some (.string cd9):=((show Below wr9.heap.size wr9 x from hph).cell hpl9).trans (by rw[hpb9,hwr9];exact hbl 8 _ rfl);have e9:x.cell? ⟨pb9,9,none⟩=some (.slice ad2 n2 cq2):=((show Below wr9.heap.size wr9 x from hph).cell hpl9).trans (by rw[hpb9,hwr9];exact hbl 9 _ rfl);have hBx:Below w.heap.size w x:=(HB.out.trans (hB9.mono HB.out.size)).trans ((show Below wr9.heap.size wr9 x from hph).mono (Nat.le_trans HB.out.size hB9.size));clear hq9 hph p0 p1 p2 p3 b0 b1 b2 b3 pc hpc hbl hgl9 hpl9 hwr9 hpb9 hB9;simp only[yy,yw,yx,Zg,zF,List.foldl_cons,List.foldl_nil,Act.put];simp only[sx9];have HBX:=zb hBx;clear hBx;cases hqe:q9 with
    |true=>
     subst hqe;go_wp2;go_ret;refine⟨?_,HBX.out⟩;rw[HR2.out,Yd hlt (by rw[HRS.out];simp[hi9])];rfl
    |false=>
     subst hqe;by_cases hcd:1000<cd9.size
     ·have hd3:decide ((1000:Int)<(cd9.size:Int))=true:=decide_eq_true (by omega);go_wp2;go_ret;refine⟨?_,HBX.out⟩;rw[HR2.out,Yd hlt (by rw[HRS.out,decide_eq_false (show¬cd9.size<=1000 by omega)];simp)];rfl
     ·have hd3:decide ((1000:Int)<(cd9.size:Int))=false:=decide_eq_false (by omega);have HAR:=zb (HSL.out _ HBX.out);clear HSL;cases hre:r8 with
      |false=>
       subst hre;go_wp2_with (first|(go_at_call 80;refine HAR.out.mono ?_;rintro e w9 ⟨rfl,hb9⟩)|fail)
       go_ret;refine⟨?_,HBX.out.trans (hb9.mono HBX.out.size)⟩;rw[HR2.out,Yd hlt (by rw[HRS.out];simp)];rfl
      |true=>
       subst hre;go_wp2_with (first|(go_at_call 80;refine HAR.out.mono ?_;rintro e w9 ⟨rfl,hb9⟩)|fail)
       refine⟨⟨i+1,by omega,by simp,HBX.out.trans (hb9.mono HBX.out.size), ?_⟩, ?_⟩
       ·intro j hj;by_cases e:j=i
        ·subst e;rw[HRS.out,decide_eq_true (show cd9.size<=1000 by omega)];simp
        ·exact HA.out j (by omega)
       ·simp[RowKit.intOf];omega
  ·have hd2:decide ((i:Int)<(L:Int))=false:=decide_eq_false (by omega);have HA2:Hid (∀j,j<L->rA l j=true):=fun j hj=>HA.out j (by omega)
   clear HA;go_wp2;go_ret;refine⟨?_,HB.out⟩;rw[HR2.out,zfA HA2.out];rfl
end
section
open Go.Maps
def paidF (F:Fz) (c:Nat):Fz:={onF F with gas:=F.gas - c}
end
theorem zoR:prog.cellsOf 5=1:=by kernel_rfl
theorem u8_info:(prog.info? 5).map (·.size)=some 1:=by kernel_rfl
theorem ty_u8s:prog.underlying 26=some (.slice 5):=by kernel_rfl
theorem ty_pu8:prog.underlying 253=some (.pointer 5):=by kernel_rfl
theorem zjq (s:ByteArray) (h0:s.size≠0) (hs:s.size<=100000) (w:World):Calls prog 146 #[.string s] w fun e w'=>e=.returned (.string s)/\Below w.heap.size w w':=by
 have hmk:=zeY s.size (by omega);have hZs:(madeCells #[Value.int .u8 0] s.size).size=s.size:=by simp[size_madeCells]
 generalize madeCells #[Value.int .u8 0] s.size=Z at*;have hcp:=Lib.run_copy_row_string (P:=prog) (w.alloc (.cells Z 5)) 26 9 3 5 w.heap.size 0 s.size s.size s Z 5 ty_u8s u8_info (heap_alloc_new w _) (Nat.le_refl _) (by omega)
 have hrow:(Z.toList.take 0++Lib.byteCells s.data.toList++Z.toList.drop (0+s.size)).toArray=(Lib.byteCells s.data.toList).toArray:=by
  rw[List.take_zero,List.nil_append,List.drop_of_length_le (by rw[Array.length_toList];omega),List.append_nil]
 rw[hrow] at hcp;have hbl:(Lib.byteCells s.data.toList).toArray.size=s.size:=by rw[List.size_toArray,Lib.byteCells_length,<-Lib.size_eq]
 have hg:=setRow_heap (w.alloc (.cells Z 5)) w.heap.size Z (Lib.byteCells s.data.toList).toArray 5 (0,0) (heap_alloc_new w _)
 have hus:=Lib.run_unsafeString_row (P:=prog) ((w.alloc (.cells Z 5)).setRow w.heap.size (Lib.byteCells s.data.toList).toArray) 253 3 9 5 ty_pu8 zoR w.heap.size (Lib.byteCells s.data.toList).toArray.size (by unfold World.shape?;rw[hg]) s.data.toList (fun e=>h0 (by rw[Lib.size_eq,e];rfl)) (by rw[<-Lib.size_eq];omega) (by rw[<-Lib.size_eq];omega)
  (fun j x hx=>Lib.cells_of_row hg (Lib.byteCells s.data.toList).toArray.size j _ (by rw[List.take_of_length_le (by simp)];simp[Lib.byteCells,hx]))
 rw[<-Lib.size_eq] at hus;have hB:Below w.heap.size w ((w.alloc (.cells Z 5)).setRow w.heap.size (Lib.byteCells s.data.toList).toArray):=(bal (Below.refl _ w) _).trans ⟨rfl,rfl,rfl,by simp,fun k hk=>setRow_other _ _ _ _ (by omega)⟩;have HB:=zb (Lib.below_freeze hB (p:=⟨w.heap.size,0,none⟩) (Nat.le_refl _) s.size);have d0:((s.size:Int)==0)=false:=by rw[beq_eq_false_iff_ne];omega
 clear hB hg hrow;generalize(Lib.byteCells s.data.toList).toArray=Y at*;go_enter func146,ntmps146;go_wp2;go_ret;exact⟨rfl,HB.out⟩
theorem zms (s:ByteArray) (hs:s.size<=100000) (w:World):Calls prog 82 #[.string s] w fun e w'=>e=.returned (.string s)/\Below w.heap.size w w':=by
 have HC:Hid (Calls prog 146 #[.string s] w fun e w'=>e=.returned (.string s)/\Below w.heap.size w w'):=by
  by_cases h0:s.size=0
  ·obtain rfl:s=⟨#[]⟩:=ByteArray.ext (Array.eq_empty_of_size_eq_zero h0);show Calls _ _ _ _ _;go_enter func146,ntmps146;go_wp2;go_ret;exact⟨rfl,Below.refl _ _⟩
  ·exact zjq s h0 hs w
 go_enter func82,ntmps82;go_wp2_with fail
 refine HC.out.mono ?_;rintro e w1 ⟨rfl,hb⟩;have HB:=zb hb;clear hb HC;go_wp2;go_ret;exact⟨rfl,HB.out⟩
section
open Go.Maps
def noA:Nat->Acc:=fun _=>⟨0,⟨#[]⟩,fun _=>0⟩
theorem zhc (m:Nat):(noA m).no:=⟨rfl,rfl,fun _=>rfl⟩
theorem zmG (w:World):Accs w.heap.size 0 noA (fun _=>.map none) (w.alloc (.map #[] 0)):=
 ⟨⟨_,AM.made w,fun m=>⟨fun _=>rfl,fun h=>absurd (zhc m) h⟩⟩,fun m h=>absurd (zhc m) h,fun m m' b h=>absurd (zhc m) h,fun m m' e=>⟨rfl,rfl⟩⟩
def zaP (l:List (Nat×Nat)):Nat->Nat:=l.foldl (fun s p=>yi s p.1 p.2) (fun _=>0)
def yJ (a:AcE):Acc:=⟨a.bal,a.code,zaP a.slots⟩
def ZJ (l:List AcE):Nat->Acc:=l.foldl (fun A a=>zO A a.at' (yJ a)) noA
theorem zj8 {l:List (Nat×Nat)} {j:Nat} (h:j<l.length):zaP (l.take (j+1))=yi (zaP (l.take j)) l[j].1 l[j].2:=by
 rw[List.take_succ_eq_append_getElem h];unfold zaP;rw[List.foldl_append];rfl
theorem zik {l:List AcE} {j:Nat} (h:j<l.length):ZJ (l.take (j+1))=zO (ZJ (l.take j)) l[j].at' (yJ l[j]):=by
 rw[List.take_succ_eq_append_getElem h];unfold ZJ;rw[List.foldl_append];rfl
def PhK (R:World->Prop) (w:World):Nat->World->Prop
 |0,x=>Below w.heap.size w x
 |_+1,x=>R x
theorem zed {R:World->Prop} {w x:World} {k:Nat} (h:PhK R w k x) (hk:k<=0):Below w.heap.size w x:=by
 obtain rfl:k=0:=by omega
 exact h
theorem phk_bel {R:World->Prop} {w:World} (hst:∀x x',R x->Below x.heap.size x x'->R x') (k:Nat) (x x':World) (h:PhK R w k x) (hb:Below x.heap.size x x'):PhK R w k x':=by
 match k,h with
 |0,h=>exact(show Below w.heap.size w x from h).trans (hb.mono (show Below w.heap.size w x from h).size)
 |_+1,h=>exact hst x x' h hb
def zdV (ab n:Nat) (A:Nat->Acc) (w y:World):Prop:=(∃sb,Accs ab n A sb y/\∀k,Zm ab A sb k->ab<=k)/\Below w.heap.size w y
theorem znb {ab n sm9:Nat} {A:Nat->Acc} {w wr9 x:World} (hab:ab=w.heap.size) {sb:Nat->Value} (hac:Accs ab n A sb wr9) (hft:∀k,Zm ab A sb k->ab<=k/\k<sm9) (hbw:Below w.heap.size w wr9) (a:AcE) (hsm:AM wr9 sm9 n (Zs (zaP a.slots))) (hsa:ab<sm9) (hn:n<=100) (hz:Zr w) (hx:Below wr9.heap.size wr9 x):
  Calls prog 81 #[.map (some ab),wv a.at',Z1 a.bal a.code (.map (some sm9))] x fun e w'=>e=.returned (.tuple #[])/\zdV ab (n+1) (zO A a.at' (yJ a)) w w':=by
 have hBx:Below w.heap.size w x:=hbw.trans (hx.mono hbw.size);have hK:=Kb.of_below (S:=[]) hx;refine(zhe (yJ a) (.map (some sm9)) x ((hac.kb hK (by simp)).x a.at') (Or.inr ⟨_,rfl,by omega,hsm.kb hK (by simp)⟩) (fun m b _ h1 h2 h3=> ?_) (by omega) (hz.below hBx)).mono ?_
 ·injection h3 with h3
  injection h3 with h3
  have:=(hft b (Or.inr ⟨m,h1,h2⟩)).2;omega
 ·rintro e y ⟨h1,h2,h3⟩;refine⟨h1,⟨_,h2,fun k hf=> ?_⟩, ?_⟩
  ·rcases hf with e|⟨m,q1,q2⟩
   ·omega
   ·unfold zO at q1 q2;split at q2
    ·injection q2 with q2
     injection q2 with q2
     omega
    ·rename_i hne;rw[if_neg hne] at q1;exact(hft k (Or.inr ⟨m,q1,q2⟩)).1
  ·exact((Kb.of_below (S:=[]) hBx).trans h3 (fun i hi=>Or.inr (by have:=List.mem_singleton.1 hi;omega))).to_below
theorem zph {v:Value} (l:List AcE) (w:World) (h:AcIn w v l) (hz:Zr w) (hl:l.length<=8) (hr:∀a∈l,a.code.size<=1000/\a.slots.length<=20/\∀p∈a.slots,p.2%M≠0):Calls prog 56 #[v] w fun e w'=>e=.returned (.map (some w.heap.size))/\∃n,n<=40/\zdV w.heap.size n (ZJ l) w w':=by
 obtain⟨ad,cp,rfl,h2⟩:=h;obtain⟨L,HL⟩:∃L,Hid (L=l.length):=⟨_,rfl⟩;rw[<-HL.out];have hl8:L<=8:=by rw[HL.out];exact hl
 have hmm:=@run_makeMap prog;have HS:=zb h2;have HZ:=zb hz;have HR:=zb hr;clear h2 hz hr hl;go_enter func56,ntmps56;go_wp2
 go_loopw [12] (fun t12 wr=>∃i:Nat,i<=L/\t12=.int .i64 (i:Int)/\Hid (zdV w.heap.size (20+i) (ZJ (l.take i)) w wr)/\Hid (w.heap.size<wr.heap.size)) (fun t12 _=>L - (RowKit.intOf t12).toNat)
 case atStart=>exact⟨0,Nat.zero_le _,rfl,⟨⟨_,(zmG w).mono (by omega),fun k hk=>by
  rcases hk with e|⟨m,h1,_⟩
  ·omega
  ·exact absurd (zhc m) h1⟩,bal (Below.refl _ w) _⟩,by show _<_;simp⟩
 case round=>
  obtain⟨i,hi,rfl,HK,HSZ⟩:=hrel;obtain⟨wo,rfl⟩:∃wo,wo=wr:=⟨_,rfl⟩;by_cases hlt:i<L
  ·have hd2:decide ((i:Int)<(L:Int))=true:=decide_eq_true (by omega);obtain⟨g,o,rfl,hgl,hcell⟩:=HS.out.resolve_left (fun e=>by rw[HL.out,e] at hlt;exact absurd hlt (by simp));have hil:i<l.length:=by rw[<-HL.out];exact hlt
   obtain⟨a,HA⟩:∃a,Hid (a=l[i]):=⟨l[i],zb rfl⟩;obtain⟨sl,hc,hsl⟩:=hcell i l[i] (List.getElem?_eq_getElem hil);rw[<-HA.out] at hc hsl;obtain⟨ad2,cq2,rfl,hs2⟩:=hsl;have HRA:=zb (HR.out l[i] (List.getElem_mem hil));rw[<-HA.out] at HRA;have HAS:=zb (zik hil);rw[<-HA.out] at HAS;obtain⟨a9,bl9,cd9,ss⟩:=a;obtain⟨n2,HN2⟩:∃n2,Hid (n2=ss.length):=⟨_,rfl⟩;dsimp only at hc hs2 HRA HAS;rw[<-HN2.out] at hc;have hn20:n2<=20:=by rw[HN2.out];exact HRA.out.2.1
   have cc:∀j,j<10->wo.cell? ⟨g,o+i*10+j,none⟩=some ((acC a9 bl9 cd9 (.slice ad2 n2 cq2))[j]!):=fun j hj=>(HK.out.2.cell (by exact hgl)).trans (hc j hj)
   have c0:wo.cell? ⟨g,o+i*10,none⟩=some (.int .u64 (za a9 0)):=cc 0 (by omega);have c1:wo.cell? ⟨g,o+i*10+1,none⟩=some (.int .u64 (za a9 1)):=cc 1 (by omega);have c2:wo.cell? ⟨g,o+i*10+2,none⟩=some (.int .u64 (za a9 2)):=cc 2 (by omega);have c3:wo.cell? ⟨g,o+i*10+3,none⟩=some (.int .u64 (za a9 3)):=cc 3 (by omega);have c4:wo.cell? ⟨g,o+i*10+4,none⟩=some (.int .u64 (za bl9 0)):=cc 4 (by omega);have c5:wo.cell? ⟨g,o+i*10+5,none⟩=some (.int .u64 (za bl9 1)):=cc 5 (by omega);have c6:wo.cell? ⟨g,o+i*10+6,none⟩=some (.int .u64 (za bl9 2)):=cc 6 (by omega);have c7:wo.cell? ⟨g,o+i*10+7,none⟩=some (.int .u64 (za bl9 3)):=cc 7 (by omega);have c8:wo.cell? ⟨g,o+i*10+8,none⟩=some (.string cd9):=cc 8 (by omega);have c9:wo.cell? ⟨g,o+i*10+9,none⟩=some (.slice ad2 n2 cq2):=cc 9 (by omega);have HGL:=zb hgl;have HSS:=zb hs2;have HIL:=zb hil;clear cc hc hcell hgl hs2;go_wp2;have hB4:Below wo.heap.size wo ((wo.alloc (.cells #[.int .u64 (za a9 0),.int .u64 (za a9 1),.int .u64 (za a9 2),.int .u64 (za a9 3),.int .u64 (za bl9 0),.int .u64 (za bl9 1),.int .u64 (za bl9 2),.int .u64 (za bl9 3),.string cd9,.slice ad2 n2 cq2] 34)).alloc (.map #[] 0)):=bal (bal (Below.refl _ _) _) _;obtain⟨w4,hw4⟩:∃w4,w4=(wo.alloc (.cells #[.int .u64 (za a9 0),.int .u64 (za a9 1),.int .u64 (za a9 2),.int .u64 (za a9 3),.int .u64 (za bl9 0),.int .u64 (za bl9 1),.int .u64 (za bl9 2),.int .u64 (za bl9 3),.string cd9,.slice ad2 n2 cq2] 34)).alloc (.map #[] 0):=⟨_,rfl⟩
   have hAM4:AM w4 (wo.heap.size+1) 0 (Zs (zaP (ss.take 0))):=by
    have h1:=AM.made (wo.alloc (.cells #[.int .u64 (za a9 0),.int .u64 (za a9 1),.int .u64 (za a9 2),.int .u64 (za a9 3),.int .u64 (za bl9 0),.int .u64 (za bl9 1),.int .u64 (za bl9 2),.int .u64 (za bl9 3),.string cd9,.slice ad2 n2 cq2] 34));rw[show(wo.alloc (.cells #[.int .u64 (za a9 0),.int .u64 (za a9 1),.int .u64 (za a9 2),.int .u64 (za a9 3),.int .u64 (za bl9 0),.int .u64 (za bl9 1),.int .u64 (za bl9 2),.int .u64 (za bl9 3),.string cd9,.slice ad2 n2 cq2] 34)).heap.size=wo.heap.size+1 by simp] at h1;rw[hw4];exact h1.congr (fun m=>rfl)
   have hs4:w4.heap.size=wo.heap.size+1+1:=by rw[hw4];simp
   have hb4:∀j,j<10->w4.cell? ⟨wo.heap.size,j,none⟩=some ((#[.int .u64 (za a9 0),.int .u64 (za a9 1),.int .u64 (za a9 2),.int .u64 (za a9 3),.int .u64 (za bl9 0),.int .u64 (za bl9 1),.int .u64 (za bl9 2),.int .u64 (za bl9 3),.string cd9,.slice ad2 n2 cq2]:Array Value)[j]!):=fun j hj=>by
    have hB5:Below (wo.alloc (.cells #[.int .u64 (za a9 0),.int .u64 (za a9 1),.int .u64 (za a9 2),.int .u64 (za a9 3),.int .u64 (za bl9 0),.int .u64 (za bl9 1),.int .u64 (za bl9 2),.int .u64 (za bl9 3),.string cd9,.slice ad2 n2 cq2] 34)).heap.size (wo.alloc (.cells #[.int .u64 (za a9 0),.int .u64 (za a9 1),.int .u64 (za a9 2),.int .u64 (za a9 3),.int .u64 (za bl9 0),.int .u64 (za bl9 1),.int .u64 (za bl9 2),.int .u64 (za bl9 3),.string cd9,.slice ad2 n2 cq2] 34)) w4:=by rw[hw4];exact bal (Below.refl _ _) _
    refine(hB5.cell (by simp)).trans ?_;have h1:=Z8 wo #[.int .u64 (za a9 0),.int .u64 (za a9 1),.int .u64 (za a9 2),.int .u64 (za a9 3),.int .u64 (za bl9 0),.int .u64 (za bl9 1),.int .u64 (za bl9 2),.int .u64 (za bl9 3),.string cd9,.slice ad2 n2 cq2] 34 j;rw[show(⟨wo.heap.size,0,none⟩:Addr).add j=⟨wo.heap.size,j,none⟩ by simp[Addr.add,eq_comm]] at h1;refine h1 _ ?_;rcases(show j=0\/j=1\/j=2\/j=3\/j=4\/j=5\/j=6\/j=7\/j=8\/j=9 by omega) with rfl|rfl|rfl|rfl|rfl|rfl|rfl|rfl|rfl|rfl<;>rfl
   rw[<-hw4] at hB4;have HB4:=zb hB4;have HAM4:=zb hAM4;have HS4:=zb hs4;have HC4:=zb hb4;have HBK:=zb (HK.out.2.trans (hB4.mono HK.out.2.size));clear hB4 hAM4 hs4 hb4;rw[<-hw4];clear hw4 c0 c1 c2 c3 c4 c5 c6 c7 c8 c9
   go_loopw [20] (fun t20 wr=>∃j:Nat,j<=n2/\t20=.int .i64 (j:Int)/\Hid (AM wr (wo.heap.size+1) j (Zs (zaP (ss.take j))))/\Hid (Kb [wo.heap.size+1] w4 wr)) (fun t20 _=>n2 - (RowKit.intOf t20).toNat)
   case atStart=>exact⟨0,Nat.zero_le _,rfl,HAM4.out,Kb.of_below (Below.refl _ _)⟩
   case round=>
    obtain⟨j,hj,rfl,HM,HKB⟩:=hrel;by_cases hjt:j<n2
    ·have hd3:decide ((j:Int)<(n2:Int))=true:=decide_eq_true (by omega);obtain⟨g2,o2,rfl,hgl2,hcell2⟩:=HSS.out.resolve_left (fun e=>by rw[HN2.out,e] at hjt;exact absurd hjt (by simp));have hjl:j<ss.length:=by rw[<-HN2.out];exact hjt
     obtain⟨k9,HK9⟩:∃k9:Nat,Hid (k9=ss[j].1):=⟨ss[j].1,zb rfl⟩;obtain⟨v9,HV9⟩:∃v9:Nat,Hid (v9=ss[j].2):=⟨ss[j].2,zb rfl⟩;have hdc:=hcell2 j ss[j] (List.getElem?_eq_getElem hjl);rw[<-HK9.out,<-HV9.out] at hdc;have hg2:g2<w4.heap.size:=Nat.lt_of_lt_of_le hgl2 HBK.out.size;have hne2:g2∉[wo.heap.size+1]:=fun hm=>by have:=List.mem_singleton.1 hm;have:=HSZ.out;omega
     have dd:∀q,q<8->wr.cell? ⟨g2,o2+j*8+q,none⟩=some ((ZH k9++ZH v9)[q]!):=fun q hq=>(World.cell?_of_block (w:=w4) (HKB.out.block g2 hg2 hne2)).trans ((HBK.out.cell (by exact hgl2)).trans (hdc q hq))
     have d0:wr.cell? ⟨g2,o2+j*8,none⟩=some (.int .u64 (za k9 0)):=dd 0 (by omega);have d1:wr.cell? ⟨g2,o2+j*8+1,none⟩=some (.int .u64 (za k9 1)):=dd 1 (by omega);have d2:wr.cell? ⟨g2,o2+j*8+2,none⟩=some (.int .u64 (za k9 2)):=dd 2 (by omega);have d3:wr.cell? ⟨g2,o2+j*8+3,none⟩=some (.int .u64 (za k9 3)):=dd 3 (by omega);have d4:wr.cell? ⟨g2,o2+j*8+4,none⟩=some (.int .u64 (za v9 0)):=dd 4 (by omega);have d5:wr.cell? ⟨g2,o2+j*8+5,none⟩=some (.int .u64 (za v9 1)):=dd 5 (by omega);have d6:wr.cell? ⟨g2,o2+j*8+6,none⟩=some (.int .u64 (za v9 2)):=dd 6 (by omega);have d7:wr.cell? ⟨g2,o2+j*8+7,none⟩=some (.int .u64 (za v9 3)):=dd 7 (by omega);have HVZ:Hid (v9%M≠0):=by show v9%M≠0;rw[HV9.out];exact HRA.out.2.2 ss[j] (List.getElem_mem hjl)
     have HSN:=zb (zj8 hjl);rw[<-HK9.out,<-HV9.out] at HSN;have HMA:Hid (AM (wr.alloc (.cells #[.int .u64 (za k9 0),.int .u64 (za k9 1),.int .u64 (za k9 2),.int .u64 (za k9 3),.int .u64 (za v9 0),.int .u64 (za v9 1),.int .u64 (za v9 2),.int .u64 (za v9 3)] 54)) (wo.heap.size+1) j (Zs (zaP (ss.take j)))):=HM.out.kb (Kb.of_below (S:=[]) (bal (Below.refl _ _) _)) (by simp);have HML:Hid (j<maxLen):=by show j<maxLen;unfold maxLen;omega
     have HKA:Hid (Kb [wo.heap.size+1] w4 (wr.alloc (.cells #[.int .u64 (za k9 0),.int .u64 (za k9 1),.int .u64 (za k9 2),.int .u64 (za k9 3),.int .u64 (za v9 0),.int .u64 (za v9 1),.int .u64 (za v9 2),.int .u64 (za v9 3)] 54))):=HKB.out.trans (Kb.of_below (S:=[]) (bal (Below.refl _ _) _)) (by simp);clear dd hdc hcell2 hgl2 hg2 hne2;go_wp2_with (first|(at_mapUpdate;refine ZV _ rfl _ _ _ 93 rfl _ zaz (wo.heap.size+1) j (Zs (zaP (ss.take j))) rfl HMA.out HML.out k9 (wv v9) rfl rfl ?_;intro w1 hA hT)|go_in)
     have HA1:Hid (AM w1 (wo.heap.size+1) (j+1) (Zs (zaP (ss.take (j+1))))):=by
      refine hA.congr fun m=> ?_
      rw[HSN.out];unfold Zs yi;by_cases e:m%M=k9%M
      ·rw[if_pos e,if_pos e,if_neg HVZ.out]
      ·rw[if_neg e,if_neg e]
     have HT1:Hid (Kb [wo.heap.size+1] w4 w1):=HKA.out.trans (yF hT) (fun i hi=>Or.inl hi);clear hA hT d0 d1 d2 d3 d4 d5 d6 d7;go_wp2;exact⟨⟨j+1,by omega,by simp,HA1.out,HT1.out⟩,by simp[RowKit.intOf];omega⟩
    ·have hd3:decide ((j:Int)<(n2:Int))=false:=decide_eq_false (by omega);obtain rfl:j=n2:=by omega
     obtain⟨⟨sb,hac,hft⟩,hbw⟩:=HK.out;have hafl:∀k,Zm w.heap.size (ZJ (l.take i)) sb k->k<wo.heap.size:=fun k hk=>hac.lt hk
     have HPL9:Hid (wo.heap.size<wr.heap.size):=by show wo.heap.size<wr.heap.size;have:=HKB.out.size;have:=HS4.out;omega
     have b:∀q,q<10->wr.cell? ⟨wo.heap.size,q,none⟩=_:=fun q hq=>(World.cell?_of_block (w:=w4) (HKB.out.block wo.heap.size (by have:=HS4.out;omega) (by simp))).trans (HC4.out q hq)
     have b0:wr.cell? ⟨wo.heap.size,0,none⟩=some (.int .u64 (za a9 0)):=b 0 (by omega);have b1:wr.cell? ⟨wo.heap.size,1,none⟩=some (.int .u64 (za a9 1)):=b 1 (by omega);have b2:wr.cell? ⟨wo.heap.size,2,none⟩=some (.int .u64 (za a9 2)):=b 2 (by omega);have b3:wr.cell? ⟨wo.heap.size,3,none⟩=some (.int .u64 (za a9 3)):=b 3 (by omega);have b4:wr.cell? ⟨wo.heap.size,4,none⟩=some (.int .u64 (za bl9 0)):=b 4 (by omega);have b5:wr.cell? ⟨wo.heap.size,5,none⟩=some (.int .u64 (za bl9 1)):=b 5 (by omega);have b6:wr.cell? ⟨wo.heap.size,6,none⟩=some (.int .u64 (za bl9 2)):=b 6 (by omega);have b7:wr.cell? ⟨wo.heap.size,7,none⟩=some (.int .u64 (za bl9 3)):=b 7 (by omega);have b8:wr.cell? ⟨wo.heap.size,8,none⟩=some (.string cd9):=b 8 (by omega);have hcs9:cd9.size<=100000:=by have:=HRA.out.1;omega
     have hac2:Accs w.heap.size (20+i) (ZJ (l.take i)) sb wr:=(hac.kb (Kb.of_below (S:=[]) HB4.out) (by simp)).kb HKB.out (fun k hk hf=>by have:=hafl k hf;have:=List.mem_singleton.1 hk;omega);have hbw2:Below w.heap.size w wr:=((Kb.of_below (S:=[]) HBK.out).trans HKB.out (fun i hi=>Or.inr (by have:=List.mem_singleton.1 hi;have:=HSZ.out;omega))).to_below
     have hsmm:AM wr (wo.heap.size+1) (20+i) (Zs (zaP ss)):=by
      have h1:=HM.out.mono (show j<=20+i by omega);rwa[HN2.out,List.take_length] at h1
     have hput9:∀x,Below wr.heap.size wr x->_:=fun x hx=>znb (ab:=w.heap.size) (n:=20+i) (sm9:=wo.heap.size+1) (w:=w) rfl hac2 (fun k hk=>⟨hft k hk,by have:=hafl k hk;omega⟩) hbw2 ⟨a9,bl9,cd9,ss⟩ hsmm (by have:=HSZ.out;omega) (by omega) HZ.out hx
     have hst9:∀x x',zdV w.heap.size (20+i+1) (zO (ZJ (l.take i)) a9 (yJ ⟨a9,bl9,cd9,ss⟩)) w x->Below x.heap.size x x'->zdV w.heap.size (20+i+1) (zO (ZJ (l.take i)) a9 (yJ ⟨a9,bl9,cd9,ss⟩)) w x':=by
      rintro x x' ⟨⟨sb,q1,q2⟩,q3⟩ hb;exact⟨⟨sb,q1.kb (Kb.of_below (S:=[]) hb) (by simp),q2⟩,q3.trans (hb.mono q3.size)⟩
     clear b;go_wp2
     refine zq (PhK (fun y=>zdV w.heap.size (20+i+1) (zO (ZJ (l.take i)) a9 (yJ ⟨a9,bl9,cd9,ss⟩)) w y) wr) (fun _ _ _=>True) [(3,(.map (some w.heap.size))),(5,(.pointer (some ⟨wo.heap.size,0,none⟩))),(6,(.map (some (wo.heap.size+1))))] [(some 30,.v (.map (some w.heap.size))),(some 31,.v (.pointer (some ⟨wo.heap.size,0,none⟩))),(some 32,.v (wv a9)),(some 33,.v (.pointer (some ⟨wo.heap.size,4,none⟩))),(some 34,.v (wv bl9)),(some 35,.v (.pointer (some ⟨wo.heap.size,8,none⟩))),(some 36,.v (.string cd9)),(some 37,.v (.string cd9)),(some 38,.v (.map (some (wo.heap.size+1)))),(some 39,.v (.agg #[.int .u64 (za bl9 0),.int .u64 (za bl9 1),.int .u64 (za bl9 2),.int .u64 (za bl9 3),.string cd9,.map (some (wo.heap.size+1))])),(some 40,.v (.tuple #[]))] [10] [2,4,6,7] (by kernel_rfl) (by rfl) (by rfl) (by kernel_rfl) ((Below.refl _ _).drew) (phk_bel hst9)
       (zf _ _ _ rfl rfl
       (fun s9 x hph hdf hv hl K hK=>by
        have hx:Below wr.heap.size wr x:=hph;refine zW hv (hput9 x hx) (by kernel_rfl) (fun v y h=> ?_) (fun l y h=>absurd h.1 (by simp)) (fun y h=>absurd h.1 (by simp));obtain⟨e,hR⟩:=h;injection e with e
        subst e;exact hK _ y hR trivial nn1 rfl)
       True.intro)
       (zf _ _ _ rfl rfl
       (fun k s9 x hk hlo hhi hph hdf hv hl K hK=>by
        have hx:Below wr.heap.size wr x:=zed hph (hhi 0 10 rfl (by kernel_rfl));exact zB (n:=a9) (hv 31 _ rfl) ((hx.cell HPL9.out).trans b0) ((hx.cell HPL9.out).trans b1) ((hx.cell HPL9.out).trans b2) ((hx.cell HPL9.out).trans b3) (hK _ x (Below.refl _ _) nn1 rfl))
       (zf _ _ _ rfl rfl
       (fun k s9 x hk hlo hhi hph hdf hv hl K hK=>by
        have hx:Below wr.heap.size wr x:=zed hph (hhi 0 10 rfl (by kernel_rfl));exact zB (n:=bl9) (hv 33 _ rfl) ((hx.cell HPL9.out).trans b4) ((hx.cell HPL9.out).trans b5) ((hx.cell HPL9.out).trans b6) ((hx.cell HPL9.out).trans b7) (hK _ x (Below.refl _ _) nn1 rfl))
       (zf _ _ _ rfl rfl
       (fun k s9 x hk hlo hhi hph hdf hv hl K hK=>by
        have hx:Below wr.heap.size wr x:=zed hph (hhi 0 10 rfl (by kernel_rfl));exact zv (v:=.string cd9) (fun w=>by kernel_rfl) (hv 35 _ rfl) ((hx.cell HPL9.out).trans b8) (hK _ x (Below.refl _ _) nn1 rfl))
       (zf _ _ _ rfl rfl
       (fun k s9 x hk hlo hhi hph hdf hv hl K hK=>by
        have hx:Below wr.heap.size wr x:=zed hph (hhi 0 10 rfl (by kernel_rfl));refine zW hv (zms cd9 hcs9 x) (by kernel_rfl) (fun v y h=> ?_) (fun l y h=>absurd h.1 (by simp)) (fun y h=>absurd h.1 (by simp));obtain⟨e,hb⟩:=h;injection e with e
        subst e;exact hK _ y hb nn1 rfl)
       True.intro))))
       (fun _ _ _ h=>(zo rfl h).elim) (fun _ _ _ h=>(zo rfl h).elim) ?_
     intro gg x hph _;have HR:Hid (zdV w.heap.size (20+i+1) (zO (ZJ (l.take i)) a9 (yJ ⟨a9,bl9,cd9,ss⟩)) w x):=hph
     have HSX:Hid (w.heap.size<x.heap.size):=by
      obtain⟨⟨sb,q1,q2⟩,q3⟩:=HR.out;exact q1.lt (Or.inl rfl)
     clear hph hput9 hst9 b0 b1 b2 b3 b4 b5 b6 b7 b8 hafl hft hac hac2 hbw hbw2 hsmm;simp only[yy,yw,yx,Zg,zF,List.foldl_cons,List.foldl_nil,Act.put];simp only[sx9];go_wp2;refine⟨⟨i+1,by omega,by simp, ?_,HSX.out⟩,by simp[RowKit.intOf];omega⟩;rw[HAS.out,show 20+(i+1)=20+i+1 by omega];exact HR.out
  ·have hd2:decide ((i:Int)<(L:Int))=false:=decide_eq_false (by omega)
   have HK2:Hid (zdV w.heap.size (20+i) (ZJ l) w wo):=by
    have h1:=HK.out;rwa[show i=l.length by rw[<-HL.out];omega,List.take_length,show l.length=i by rw[<-HL.out];omega] at h1
   clear HK;go_wp2;go_ret;exact⟨rfl,20+i,by omega,HK2.out⟩
end
section
open Go.Maps
theorem zjv {l:List AcE} (h:zaw l=true):l.length<=8/\∀a∈l,a.code.size<=1000/\a.slots.length<=20/\∀p∈a.slots,p.2%M≠0:=by
 unfold zaw at h;obtain⟨h1,h2⟩:=(Bool.and_eq_true _ _).mp h;refine⟨of_decide_eq_true h1,fun a ha=> ?_⟩;obtain⟨i,hi,rfl⟩:=List.getElem_of_mem ha;have h3:=List.all_eq_true.1 h2 i (List.mem_range.2 hi);unfold rA at h3;rw[YG l ac0 hi] at h3;obtain⟨_,h4⟩:=(Bool.and_eq_true _ _).mp h3;obtain⟨h5,h6⟩:=(Bool.and_eq_true _ _).mp h4;unfold za0 at h6;obtain⟨h7,h8⟩:=(Bool.and_eq_true _ _).mp h6;refine⟨of_decide_eq_true h5,of_decide_eq_true h7,fun p hp e=> ?_⟩;obtain⟨j,hj,rfl⟩:=List.getElem_of_mem hp;have h9:=List.all_eq_true.1 h8 j (List.mem_range.2 hj);unfold rS at h9;rw[YG l[i].slots (0,0) hj] at h9;obtain⟨_,h10⟩:=(Bool.and_eq_true _ _).mp h9;rw[decide_eq_true e] at h10;cases h10
def zem (A:Nat->Acc) (w:World) (gb:Nat) (w':World):Prop:=∃ab n sb,n<=40/\HostAt gb ab n A sb w'/\Below w.heap.size w w'/\w.heap.size<=gb/\∀k,Zm ab A sb k->w.heap.size<=k
theorem new_any {v:Value} (l:List AcE) (w:World) (h:AcIn w v l) (hz:Zr w) (hr:zaw l=true):Calls prog 29 #[v] w fun e w'=>∃gb,e=.returned (.tuple #[.pointer (some ⟨gb,0,none⟩),.int .i64 0])/\zem (ZJ l) w gb w':=by
 have HR:=zb (zis l w h hz);rw[hr] at HR;obtain⟨hl8,hrr⟩:=zjv hr;have HA:=zb h;have HZ:=zb hz;have HL:=zb hl8;have HRR:=zb hrr;obtain⟨ad,cp,rfl,_⟩:=h;obtain⟨L,HLL⟩:∃L,Hid (L=l.length):=⟨_,rfl⟩;rw[<-HLL.out] at HA HR⊢;clear hz hl8 hrr hr;go_enter func29,ntmps29;go_wp2_with fail
 refine HR.out.mono ?_;rintro e w1 ⟨rfl,hb1⟩;have HK:=zb (zph l w1 (HA.out.below hb1) (HZ.out.below hb1) HL.out HRR.out);have HB1:=zb hb1;clear hb1 HR;go_wp2_with fail
 refine HK.out.mono ?_;rintro e w2 ⟨rfl,n,hn,⟨sb,hac,hft⟩,hb2⟩;have hBw:Below w.heap.size w w2:=HB1.out.trans (hb2.mono HB1.out.size)
 have HH:Hid (HostAt w2.heap.size w1.heap.size n (ZJ l) sb (w2.alloc (.cells #[.int .i32 0,.int .u32 0,.map (some w1.heap.size)] 91))):=by
  refine⟨World.rowIs_alloc w2 _ _ _ (fun i hi=> ?_),hac.kb (Kb.of_below (S:=[]) (bal (Below.refl _ w2) _)) (by simp),(HZ.out.below hBw).below (bal (Below.refl _ w2) _)⟩;have hi:i<3:=hi;rcases ltq3 hi with rfl|rfl|rfl<;>rfl
 have HF:Hid (w.heap.size<=w2.heap.size/\∀k,Zm w1.heap.size (ZJ l) sb k->w.heap.size<=k):=⟨hBw.size,fun k hk=>Nat.le_trans HB1.out.size (hft k hk)⟩;clear hft;have HN:=zb hn;have HBW:=zb (bal hBw (.cells #[.int .i32 0,.int .u32 0,.map (some w1.heap.size)] 91));clear hn hac hb2 hBw HK HB1;go_wp2;refine bodyPost_ret (v:=.tuple #[.pointer (some ⟨w2.heap.size,0,none⟩),.int .i64 0]) (by simp[results,results29,go_sem]) rfl ⟨_,rfl,_,n,sb,HN.out,HH.out,HBW.out,HF.out⟩
theorem zia {v:Value} (l:List AcE) (w:World) (h:AcIn w v l) (hz:Zr w) (hr:zaw l=true):Calls prog 11 #[v] w fun e w'=>∃gb,e=.returned (.pointer (some ⟨gb,0,none⟩))/\zem (ZJ l) w gb w':=by
 have HR:=zb (new_any l w h hz hr);obtain⟨ad,cp,rfl,_⟩:=h;obtain⟨L,HLL⟩:∃L,Hid (L=l.length):=⟨_,rfl⟩;rw[<-HLL.out] at HR⊢;clear hz hr;go_enter func11,ntmps11;go_wp2_with fail
 refine HR.out.mono ?_;rintro e w1 ⟨gb,rfl,hh⟩;have HX:=zb hh;clear hh HR;go_wp2;go_ret;exact⟨gb,rfl,HX.out⟩
def zai (s:ByteArray):ByteArray:=if 1000<s.size then s.extract 0 1000 else s
theorem zn8 (s:ByteArray):(zai s).size<=1000:=by
 unfold zai;split
 ·rw[ByteArray.size_extract];omega
 ·omega
theorem zhU (s:ByteArray) (w:World):Calls prog 26 #[.string s] w fun e w'=>e=.returned (.string (zai s))/\w'=w:=by
 unfold zai;by_cases h:1000<s.size
 ·have hd:decide ((1000:Int)<(s.size:Int))=true:=decide_eq_true (by omega);rw[if_pos h];go_enter func26,ntmps26;go_wp2;go_ret;exact⟨rfl,rfl⟩
 ·have hd:decide ((1000:Int)<(s.size:Int))=false:=decide_eq_false (by omega);rw[if_neg h];go_enter func26,ntmps26;go_wp2;go_ret;exact⟨rfl,rfl⟩
end
section
open Go.Maps
theorem yU (n:Nat) (hn:n<9223372036854775808) (w:World):Calls prog 12 #[.int .i64 (n:Int)] w fun e w'=>e=.returned (wv n)/\Below w.heap.size w w':=by
 refine(zfi n hn w).mono ?_;rintro e w' ⟨r,hr,he,hb⟩;rw[hr.out] at he;exact⟨he,hb⟩
theorem clip_b (s:ByteArray) (w:World):Calls prog 26 #[.string s] w fun e w'=>e=.returned (.string (zai s))/\Below w.heap.size w w':=by
 refine(zhU s w).mono ?_;rintro e w' ⟨he,rfl⟩;exact⟨he,Below.refl _ _⟩
section
variable {s:Act} {x:World} {pos:String} {af:Array Edge} {gd:Option (Nat×Bool)} {K:Act->World->Prop} {Q:Exit->Act->World->Prop}
theorem st_add2 {t d i:Nat} {ty:TypeId} (h:s.tmps.getD t undef=.int .i64 (i:Int)) (hl:i<=1000000) (hK:K (s.put (some d) (.int .i64 ((2+i:Nat):Int))) x):
  Oper.wp prog ⟨some d,.binOp .add 3 (.const (.int .i64 2)) (.tmp t) 3,ty,pos,af,gd⟩ s x K Q:=by
 have f1:s.eval (.tmp t)=.int .i64 (i:Int):=h;have e:((2+i:Nat):Int)=2+(i:Int):=by omega
 rw[e] at hK;go_simp
 go_bits
 exact hK
theorem zo2 {t d i:Nat} {ty:TypeId} (h:s.tmps.getD t undef=.int .i64 (i:Int)) (hl:i<=1000000) (hK:K (s.put (some d) (.int .i64 ((10*i:Nat):Int))) x):
  Oper.wp prog ⟨some d,.binOp .mul 3 (.const (.int .i64 10)) (.tmp t) 3,ty,pos,af,gd⟩ s x K Q:=by
 have f1:s.eval (.tmp t)=.int .i64 (i:Int):=h;have e:((10*i:Nat):Int)=10*(i:Int):=by omega
 rw[e] at hK;go_simp
 go_bits
 exact hK
theorem zmk {t u d j len cap gg o:Nat} {ty:TypeId} (he:s.tmps.getD t undef=.slice (some ⟨gg,o,none⟩) len cap) (hu:s.tmps.getD u undef=.int .i64 (j:Int)) (hj:j<len) (hK:K (s.put (some d) (.pointer (some ⟨gg,o+j,none⟩))) x):
  Oper.wp prog ⟨some d,.indexAddr 25 (.tmp t) (.tmp u),ty,pos,af,gd⟩ s x K Q:=by
 have he2:s.eval (.tmp t)=.slice (some ⟨gg,o,none⟩) len cap:=he;have hu2:s.eval (.tmp u)=.int .i64 (j:Int):=hu;go_simp;exact hK
end
def s03:Nat->Nat:=fun m=>if m%M=0 then 3 else 0
theorem ziG:SortedKeys (Zs s03) [0]:=by
 refine⟨List.pairwise_singleton _ _,fun m=> ?_⟩;unfold Zs s03;constructor
 ·intro h;obtain rfl:=List.mem_singleton.1 h;exact⟨by decide,by decide⟩
 ·rintro⟨h1,h2⟩;rw[Nat.mod_eq_of_lt h1] at h2;by_cases e:m=0
  ·rw[e];exact List.mem_singleton.2 rfl
  ·rw[if_neg e,Nat.zero_mod,if_pos rfl] at h2;cases h2
theorem one_own (x:World) {base:Nat} (hb:base<=x.heap.size):(x.alloc (.cells #[.int .u64 (za 0 0),.int .u64 (za 0 1),.int .u64 (za 0 2),.int .u64 (za 0 3),.int .u64 (za 3 0),.int .u64 (za 3 1),.int .u64 (za 3 2),.int .u64 (za 3 3)] 54)).ownsRow base 54 8 (.slice (some ⟨x.heap.size,0,none⟩) 1 1) ([0]:List Nat).length (slC s03 [0]):=by
 refine⟨rfl,Or.inr ⟨x.heap.size,1,#[.int .u64 (za 0 0),.int .u64 (za 0 1),.int .u64 (za 0 2),.int .u64 (za 0 3),.int .u64 (za 3 0),.int .u64 (za 3 1),.int .u64 (za 3 2),.int .u64 (za 3 3)],rfl,hb,heap_alloc_new x _,Nat.le_refl _,by unfold maxLen;omega,rfl,rfl⟩⟩
def StrIn (x:World) (v:Value) (cs:List ByteArray):Prop:=∃ad c,v=.slice ad cs.length c/\(cs=[]\/∃g o,ad=some ⟨g,o,none⟩/\g<x.heap.size/\∀i,i<cs.length->x.cell? ⟨g,o+i,none⟩=some (.string (cs.getD i ByteArray.empty)))
def wAt (cs:List ByteArray) (i:Nat):AcE:=⟨2+i,10*i,zai (cs.getD i ByteArray.empty),[(0,3)]⟩
def wls (own:ByteArray) (cs:List ByteArray) (n:Nat):List AcE:=⟨1,100,own,[]⟩::(List.range n).map (wAt cs)
def Z7 (own:ByteArray) (cs:List ByteArray):List AcE:=wls own cs (min cs.length 6)
theorem zjb (own:ByteArray) (cs:List ByteArray) (n:Nat):wls own cs (n+1)=wls own cs n++[wAt cs n]:=by
 unfold wls;rw[List.range_succ,List.map_append];rfl
theorem zaq (own:ByteArray) (cs:List ByteArray) (n:Nat):(wls own cs n).length=n+1:=by simp[wls]
def acW:List AcE->List Value->List Value
 |a::r,sl::t=>acC a.at' a.bal a.code sl++acW r t
 |_,_=>[]
theorem zir:∀(l:List AcE) (sls:List Value),sls.length=l.length->∀a sl,acW (l++[a]) (sls++[sl])=acW l sls++acC a.at' a.bal a.code sl
 |[],[],_,a,sl=>by simp[acW]
 |[],_::_,h,_,_=>by cases h
 |_::_,[],h,_,_=>by cases h
 |b::r,s::t,h,a,sl=>by
  show acC b.at' b.bal b.code s++acW (r++[a]) (t++[sl])=acC b.at' b.bal b.code s++acW r t++_;rw[zir r t (by simpa using h) a sl,List.append_assoc]
theorem zkQ:∀(l:List AcE) (sls:List Value),sls.length=l.length->∀(i:Nat) a sl,l[i]? =some a->sls[i]? =some sl->∀j,j<10->(acW l sls)[i*10+j]? =some ((acC a.at' a.bal a.code sl)[j]!)
 |[],_,_,i,a,sl,h,_,_,_=>by simp at h
 |_::_,[],h,_,_,_,_,_,_,_=>by cases h
 |b::r,s::t,h,0,a,sl,h1,h2,j,hj=>by
  obtain rfl:=Option.some.inj h1;obtain rfl:=Option.some.inj h2;show(acC b.at' b.bal b.code s++acW r t)[0*10+j]? =_;rw[Nat.zero_mul,Nat.zero_add,List.getElem?_append_left (by exact hj),getElem!_pos _ j (by exact hj),List.getElem?_eq_getElem (by exact hj)]
 |b::r,s::t,h,i+1,a,sl,h1,h2,j,hj=>by
  show(acC b.at' b.bal b.code s++acW r t)[(i+1)*10+j]? =_;rw[List.getElem?_append_right (by show 10<=_;omega),show(i+1)*10+j - (acC b.at' b.bal b.code s).length=i*10+j by show _ - 10=_;omega];exact zkQ r t (by simpa using h) i a sl h1 h2 j hj
def zhO (l:List (Nat×Nat)):List Value:=l.flatMap fun p=>ZH p.1++ZH p.2
theorem ziv:∀(l:List (Nat×Nat)) (i:Nat) p,l[i]? =some p->∀j,j<8->(zhO l)[i*8+j]? =some ((ZH p.1++ZH p.2)[j]!)
 |[],i,p,h,_,_=>by simp at h
 |b::r,0,p,h1,j,hj=>by
  obtain rfl:=Option.some.inj h1;show(ZH b.1++ZH b.2++zhO r)[0*8+j]? =_;rw[Nat.zero_mul,Nat.zero_add,List.getElem?_append_left (by exact hj),getElem!_pos _ j (by exact hj),List.getElem?_eq_getElem (by exact hj)]
 |b::r,i+1,p,h1,j,hj=>by
  show(ZH b.1++ZH b.2++zhO r)[(i+1)*8+j]? =_;rw[List.getElem?_append_right (by show 8<=_;omega),show(i+1)*8+j - (ZH b.1++ZH b.2).length=i*8+j by show _ - 8=_;omega];exact ziv r i p h1 j hj
theorem slIn_of {x:World} {base:Nat} {v:Value} {l:List (Nat×Nat)} (h2:x.ownsRow base 54 8 v l.length (zhO l)):SlIn x v l:=by
 rcases h2.2 with⟨e,e2⟩|⟨g,cap,cur,e,hb,hh,_⟩
 ·exact⟨none,0,by rw[e,e2],Or.inl (List.length_eq_zero_iff.1 e2)⟩
 ·refine⟨some ⟨g,0,none⟩,cap,e,Or.inr ⟨g,0,rfl,(Array.getElem?_eq_some_iff.1 hh).1,fun i a ha j hj=> ?_⟩⟩;have hi:i<l.length:=(List.getElem?_eq_some_iff.1 ha).1;subst e;rw[Nat.zero_add,World.ownsRow.cellAt h2 (i*8+j) (by omega)];exact ziv l i a ha j hj
structure AcOwn (base:Nat) (v:Value) (l:List AcE) (x:World):Prop where
 ex:∃sls:List Value,sls.length=l.length/\x.ownsRow base 34 10 v l.length (acW l sls)/\∀(i:Nat) a sl,l[i]? =some a->sls[i]? =some sl->x.ownsRow base 54 8 sl a.slots.length (zhO a.slots)
theorem AcOwn.is {base:Nat} {v:Value} {l:List AcE} {x:World} (h:AcOwn base v l x):AcIn x v l:=by
 obtain⟨sls,h1,h2,h3⟩:=h.ex;rcases h2.2 with⟨e,e2⟩|⟨g,cap,cur,e,hb,hh,_⟩
 ·exact⟨none,0,by rw[e,e2],Or.inl (List.length_eq_zero_iff.1 e2)⟩
 ·refine⟨some ⟨g,0,none⟩,cap,e,Or.inr ⟨g,0,rfl,(Array.getElem?_eq_some_iff.1 hh).1,fun i a ha=> ?_⟩⟩;have hi:i<l.length:=(List.getElem?_eq_some_iff.1 ha).1;have hs:sls[i]? =some sls[i]:=List.getElem?_eq_getElem (by omega);refine⟨sls[i],fun j hj=> ?_,slIn_of (h3 i a _ ha hs)⟩;subst e;rw[Nat.zero_add,World.ownsRow.cellAt h2 (i*10+j) (by omega)];exact zkQ l sls h1 i a _ ha hs j hj
theorem AcOwn.below {base:Nat} {v:Value} {l:List AcE} {x y:World} (h:AcOwn base v l x) (hb:Below x.heap.size x y):AcOwn base v l y:=by
 obtain⟨sls,h1,h2,h3⟩:=h.ex;exact⟨sls,h1,zm h2 hb,fun i a sl ha hs=>zm (h3 i a sl ha hs) hb⟩
theorem s03_sl {base p:Nat} {v:Value} {x:World} (h:SlV base s03 p v x):x.ownsRow base 54 8 v ([(0,3)]:List (Nat×Nat)).length (zhO [(0,3)]):=by
 obtain⟨_,us,_,h2,h3⟩:=h;obtain rfl:us=[0]:=h2.unique ziG (fun _ _=>rfl);exact h3
theorem own_ac {x:World} {base n:Nat} {v:Value} {xs:List Value} (h:x.ownsRow base 34 10 v n xs):∃ad cp,v=.slice ad n cp:=by
 rcases h.2 with⟨e,e2⟩|⟨g,cap,cur,e,_⟩
 ·exact⟨none,0,by rw[e,e2]⟩
 ·exact⟨_,_,e⟩
theorem zfq {v:Value} (own:ByteArray) (cs:List ByteArray) (w:World) (h:StrIn w v cs):Calls prog 22 #[.string own,v] w fun e w'=>∃u,e=.returned u/\AcOwn w.heap.size u (Z7 own cs) w'/\Below w.heap.size w w':=by
 obtain⟨ad1,c1,rfl,h2⟩:=h;obtain⟨L,HL⟩:∃L,Hid (L=cs.length):=⟨_,rfl⟩;rw[<-HL.out];have HS:=zb h2;have HS1:Hid (∀w,Calls prog 12 #[.int .i64 1] w fun e w'=>e=.returned (wv 1)/\Below w.heap.size w w'):=fun w=>yU 1 (by omega) w
 have HS2:Hid (∀w,Calls prog 12 #[.int .i64 100] w fun e w'=>e=.returned (wv 100)/\Below w.heap.size w w'):=fun w=>yU 100 (by omega) w
 clear h2;go_enter func22,ntmps22;go_wp2_with fail
 refine(HS1.out _).mono ?_;rintro e w1 ⟨rfl,hb1⟩;go_wp2_with fail
 refine(HS2.out _).mono ?_;rintro e w2 ⟨rfl,hb2⟩;have hB2:Below w.heap.size w w2:=hb1.trans (hb2.mono hb1.size)
 have HAO0:Hid (AcOwn w.heap.size (.slice (some ⟨w2.heap.size,0,none⟩) 1 1) (wls own cs 0) (w2.alloc (.cells #[.int .u64 (za 1 0),.int .u64 (za 1 1),.int .u64 (za 1 2),.int .u64 (za 1 3),.int .u64 (za 100 0),.int .u64 (za 100 1),.int .u64 (za 100 2),.int .u64 (za 100 3),.string own,.slice none 0 0] 34))):=by
  refine⟨[.slice none 0 0],rfl,⟨rfl,Or.inr ⟨w2.heap.size,1,#[.int .u64 (za 1 0),.int .u64 (za 1 1),.int .u64 (za 1 2),.int .u64 (za 1 3),.int .u64 (za 100 0),.int .u64 (za 100 1),.int .u64 (za 100 2),.int .u64 (za 100 3),.string own,.slice none 0 0],rfl,hB2.size,heap_alloc_new w2 _,Nat.le_refl _,by unfold maxLen;omega,rfl,rfl⟩⟩,fun i a sl ha hs=> ?_⟩
  have hi:i=0:=by
   have:=(List.getElem?_eq_some_iff.1 hs).1;simp at this;exact this
  subst hi;obtain rfl:=Option.some.inj ha;obtain rfl:=Option.some.inj hs;exact World.ownsRow_nil _ _ _ _
 have HB0:Hid (Below w.heap.size w (w2.alloc (.cells #[.int .u64 (za 1 0),.int .u64 (za 1 1),.int .u64 (za 1 2),.int .u64 (za 1 3),.int .u64 (za 100 0),.int .u64 (za 100 1),.int .u64 (za 100 2),.int .u64 (za 100 3),.string own,.slice none 0 0] 34))):=bal hB2 _;clear hb1 hb2 hB2 HS1 HS2;go_wp2
 go_loopw [5,6] (fun t5 t6 wr=>∃(i:Nat) (ad:Option Addr) (cp:Nat),i<=L/\i<=6/\t6=.int .i64 (i:Int)/\t5=.slice ad (i+1) cp/\Hid (AcOwn w.heap.size (.slice ad (i+1) cp) (wls own cs i) wr/\Below w.heap.size w wr)) (fun _ t6 _=>6 - (RowKit.intOf t6).toNat)
 case atStart=>exact⟨0,_,_,Nat.zero_le _,Nat.zero_le _,rfl,rfl,HAO0.out,HB0.out⟩
 case round=>
  obtain⟨i,ad,cp,hiL,hi6,rfl,rfl,HR⟩:=hrel;clear HAO0 HB0;by_cases hlt:i<L/\i<6
  ·obtain⟨hlt9,hl6⟩:=hlt;have hd1:decide ((i:Int)<(L:Int))=true:=decide_eq_true (by omega);have hd2:decide ((i:Int)<6)=true:=decide_eq_true (by omega);have hil:i<cs.length:=by rw[<-HL.out];exact hlt9
   obtain⟨g,o,rfl,hgl,hcell⟩:=HS.out.resolve_left (fun e=>by rw[e] at hil;exact absurd hil (by simp));obtain⟨hao,hb39⟩:=HR.out;obtain⟨sls,hsl,hown,hsls⟩:=hao.ex;obtain⟨cd9,HCD⟩:∃cd9,Hid (cd9=cs.getD i ByteArray.empty):=⟨_,rfl⟩;obtain⟨xs9,HXS⟩:∃xs9,Hid (xs9=acW (wls own cs i) sls):=⟨_,rfl⟩;have hcd9:wr.cell? ⟨g,o+i,none⟩=some (.string cd9):=by rw[HCD.out];exact(hb39.cell (by exact hgl)).trans (hcell i hil)
   have hgl9:g<wr.heap.size:=Nat.lt_of_lt_of_le hgl hb39.size;have hown9:wr.ownsRow w.heap.size 34 10 (.slice ad (i+1) cp) (i+1) xs9:=by rw[HXS.out];rw[zaq] at hown;exact hown
   have hi9:i<=1000000:=by omega
   clear hcell hgl hown hao;go_wp2
   refine zq (PhA wr (Value.slice ad (i+1) cp).ownBlock) (fun p x x'=>p=1->x.grownBy x' (Value.slice ad (i+1) cp).ownBlock) [(1,(.slice (some ⟨g,o,none⟩) L c1)),(5,(.slice ad (i+1) cp)),(6,(.int .i64 (i:Int)))] [(some 22,.v (.slice ad (i+1) cp)),(some 23,.v (.int .i64 (i:Int))),(some 24,.v (.int .i64 ((2+i:Nat):Int))),(some 25,.v (wv (2+i))),(some 26,.v (.int .i64 (i:Int))),(some 27,.v (.int .i64 ((10*i:Nat):Int))),(some 28,.v (wv (10*i))),(some 29,.v (.slice (some ⟨g,o,none⟩) L c1)),(some 30,.v (.int .i64 (i:Int))),(some 31,.v (.pointer (some ⟨g,o+i,none⟩))),(some 32,.v (.string cd9)),(some 33,.v (.string (zai cd9))),(some 34,.v (wv 0)),(some 35,.v (wv 3)),(some 36,.v (.agg #[.int .u64 (za 0 0),.int .u64 (za 0 1),.int .u64 (za 0 2),.int .u64 (za 0 3),.int .u64 (za 3 0),.int .u64 (za 3 1),.int .u64 (za 3 2),.int .u64 (za 3 3)])),(some 37,.l (SlV w.heap.size s03)),(some 38,.l (AcV (2+i) (10*i) (zai cd9) (SlV w.heap.size s03))),(some 39,.l (OneA (2+i) (10*i) (zai cd9) (SlV w.heap.size s03))),(some 40,.l (NewA w.heap.size (i+1+1) xs9 (2+i) (10*i) (zai cd9) (SlV w.heap.size s03))),(some 5,.l (NewA w.heap.size (i+1+1) xs9 (2+i) (10*i) (zai cd9) (SlV w.heap.size s03)))] [13,18] [2,3,5,6,9,10,11,12,15,16,17,19] (by kernel_rfl) (by rfl) (by rfl) (by kernel_rfl) ((Below.refl _ _).drew) (zkF)
     (zf _ _ _ rfl rfl
     (fun s9 x hph hdf hv hl K hK=>by
      have hx:Below wr.heap.size wr x:=hph;refine zW hv (yU 3 (by omega) x) (by kernel_rfl) (fun v y h=> ?_) (fun l y h=>absurd h.1 (by simp)) (fun y h=>absurd h.1 (by simp));obtain⟨e,hb⟩:=h;injection e with e
      subst e;exact hK _ y (hx.trans (hb.mono hx.size)) (fun h=>absurd h (by omega)) nn1 rfl)
     (zf _ _ _ rfl rfl
     (fun s9 x hph hdf hv hl K hK=>by
      have hx:Below wr.heap.size wr x:=hph;obtain⟨ad5,n5,c5,q,e1,e2,e3⟩:=hl 39 _ rfl;obtain⟨hq,hcells⟩:=e3 (by omega);obtain⟨i0,hi0,hz0,hz1,hz2⟩:=info_parts zkY;refine zaR w.heap.size 34 i0 _ 10 104 (by kernel_rfl) hi0 hz0 hz1 hz2 rfl (by decide) (.slice ad (i+1) cp) (i+1) xs9 (hv 22 _ rfl) (zm hown9 hx) ⟨q,0,none⟩ 1 1 (acC (2+i) (10*i) (zai cd9) (.slice ad5 n5 c5)) e1 rfl hcells (zk8 (2+i) (10*i) (zai cd9) ad5 n5 c5) (by unfold maxLen;omega) (by omega) (by have:=hb39.size;have:=hx.size;omega) ?_;intro v' y ho hgr hfr;exact hK v' y ⟨x,hx,hgr⟩ (fun _=>hgr) nn1 ⟨by omega,.slice ad5 n5 c5,e2.step (zm hown9 hx) hgr,ho⟩)
     True.intro))
     (zf _ _ _ rfl rfl
     (fun k s9 x hk hlo hhi hph hdf hv hl K hK=>by
      exact st_add2 (hv 23 _ rfl) hi9 (hK _ x (Below.refl _ _) nn1 rfl))
     (zf _ _ _ rfl rfl
     (fun k s9 x hk hlo hhi hph hdf hv hl K hK=>by
      refine zW hv (yU (2+i) (by omega) x) (by kernel_rfl) (fun v y h=> ?_) (fun l y h=>absurd h.1 (by simp)) (fun y h=>absurd h.1 (by simp));obtain⟨e,hb⟩:=h;injection e with e
      subst e;exact hK _ y hb nn1 rfl)
     (zf _ _ _ rfl rfl
     (fun k s9 x hk hlo hhi hph hdf hv hl K hK=>by
      exact zo2 (hv 26 _ rfl) hi9 (hK _ x (Below.refl _ _) nn1 rfl))
     (zf _ _ _ rfl rfl
     (fun k s9 x hk hlo hhi hph hdf hv hl K hK=>by
      refine zW hv (yU (10*i) (by omega) x) (by kernel_rfl) (fun v y h=> ?_) (fun l y h=>absurd h.1 (by simp)) (fun y h=>absurd h.1 (by simp));obtain⟨e,hb⟩:=h;injection e with e
      subst e;exact hK _ y hb nn1 rfl)
     (zf _ _ _ rfl rfl
     (fun k s9 x hk hlo hhi hph hdf hv hl K hK=>by
      exact zmk (hv 29 _ rfl) (hv 30 _ rfl) hlt9 (hK _ x (Below.refl _ _) nn1 rfl))
     (zf _ _ _ rfl rfl
     (fun k s9 x hk hlo hhi hph hdf hv hl K hK=>by
      have hx:Below wr.heap.size wr x:=zlE hph (hhi 0 13 rfl (by kernel_rfl));exact zv (v:=.string cd9) (fun w=>by kernel_rfl) (hv 31 _ rfl) ((hx.cell hgl9).trans hcd9) (hK _ x (Below.refl _ _) nn1 rfl))
     (zf _ _ _ rfl rfl
     (fun k s9 x hk hlo hhi hph hdf hv hl K hK=>by
      refine zW hv (clip_b cd9 x) (by kernel_rfl) (fun v y h=> ?_) (fun l y h=>absurd h.1 (by simp)) (fun y h=>absurd h.1 (by simp));obtain⟨e,hb⟩:=h;injection e with e
      subst e;exact hK _ y hb nn1 rfl)
     (zf _ _ _ rfl rfl
     (fun k s9 x hk hlo hhi hph hdf hv hl K hK=>by
      refine zW hv (yU 0 (by omega) x) (by kernel_rfl) (fun v y h=> ?_) (fun l y h=>absurd h.1 (by simp)) (fun y h=>absurd h.1 (by simp));obtain⟨e,hb⟩:=h;injection e with e
      subst e;exact hK _ y hb nn1 rfl)
     (zf _ _ _ rfl rfl
     (fun k s9 x hk hlo hhi hph hdf hv hl K hK=>by
      have hx:Below wr.heap.size wr x:=zdb hph (by have:=hhi 1 18 rfl (by kernel_rfl);omega);have hp:k≠0:=by have:=hlo 0 13 rfl (by kernel_rfl);omega
      exact zga (n:=0) (m:=3) (hv 36 _ rfl) (hK _ _ (bal (Below.refl _ x) _) nn1 ⟨hp,[0],by simp,ziG,one_own x (Nat.le_trans hb39.size hx.size)⟩))
     (zf _ _ _ rfl rfl
     (fun k s9 x hk hlo hhi hph hdf hv hl K hK=>by
      obtain⟨hp,us,h1,h2,h3⟩:=hl 37 _ rfl;obtain⟨ad5,cp5,e5⟩:=Zk h3;exact zcm (hv 25 _ rfl) (hv 28 _ rfl) (hv 33 _ rfl) e5 (hK _ x (Below.refl _ _) nn1 ⟨_,_,_,rfl,hp,us,h1,h2,e5▸h3⟩))
     (zf _ _ _ rfl rfl
     (fun k s9 x hk hlo hhi hph hdf hv hl K hK=>by
      obtain⟨ad5,n5,c5,e1,e2⟩:=hl 38 _ rfl;refine zfp e1 (hK _ _ (bal (Below.refl _ x) _) nn1 ⟨ad5,n5,c5,x.heap.size,rfl,e2.below (bal (Below.refl _ x) _),fun _=>⟨by simp,Z8 x #[.int .u64 (za (2+i) 0),.int .u64 (za (2+i) 1),.int .u64 (za (2+i) 2),.int .u64 (za (2+i) 3),.int .u64 (za (10*i) 0),.int .u64 (za (10*i) 1),.int .u64 (za (10*i) 2),.int .u64 (za (10*i) 3),.string (zai cd9),.slice ad5 n5 c5] 34⟩⟩))
     (zf _ _ _ rfl rfl
     (fun k s9 x hk hlo hhi hph hdf hv hl K hK=>by
      exact zdx 40 5 _ rfl (hK _ x (Below.refl _ _) nn1 (hl 40 _ rfl)))
     True.intro))))))))))))
     (fun i9 d T' he p v x x' hne hp hph hrel hT=>by
      rcases(show i9=0\/i9=1\/i9=2\/i9=3\/i9=4\/i9=5\/i9=6\/i9=7\/i9=8\/i9=9\/i9=10\/i9=11\/i9=12\/i9=13\/i9=14\/i9=15\/i9=16\/i9=17\/i9=18\/i9=19 by have:=(show i9<20 from(List.getElem?_eq_some_iff.1 he).1);omega) with rfl|rfl|rfl|rfl|rfl|rfl|rfl|rfl|rfl|rfl|rfl|rfl|rfl|rfl|rfl|rfl|rfl|rfl|rfl|rfl
      all_goals first
       |(cases he;done)
       |(obtain rfl:=Sum.inr.inj (Prod.mk.inj (Option.some.inj he)).2;exact zcL (show p<2 from hp) hown9 hph hrel hT)
       |(obtain rfl:=Sum.inr.inj (Prod.mk.inj (Option.some.inj he)).2;exact zib (show p<2 from hp) hown9 hph hrel hT)
       |(obtain rfl:=Sum.inr.inj (Prod.mk.inj (Option.some.inj he)).2;exact ziT (show p<2 from hp) hown9 hph hrel hT)
       |(obtain rfl:=Sum.inr.inj (Prod.mk.inj (Option.some.inj he)).2;exact absurd (show p<2 from hp) (by have:=hT.1;omega))) (fun i9 d T' he p v x x' hph hb hT=>by
      rcases(show i9=0\/i9=1\/i9=2\/i9=3\/i9=4\/i9=5\/i9=6\/i9=7\/i9=8\/i9=9\/i9=10\/i9=11\/i9=12\/i9=13\/i9=14\/i9=15\/i9=16\/i9=17\/i9=18\/i9=19 by have:=(show i9<20 from(List.getElem?_eq_some_iff.1 he).1);omega) with rfl|rfl|rfl|rfl|rfl|rfl|rfl|rfl|rfl|rfl|rfl|rfl|rfl|rfl|rfl|rfl|rfl|rfl|rfl|rfl
      all_goals first
       |(cases he;done)
       |(obtain rfl:=Sum.inr.inj (Prod.mk.inj (Option.some.inj he)).2;first|exact SlV.below hT hb|exact AcV.below hT hb|exact OneA.below hT hb|exact NewA.below hT hb)) ?_
   intro gg z hz hgv;obtain⟨-,sl,hslv,hown2⟩:NewA w.heap.size (i+1+1) xs9 (2+i) (10*i) (zai cd9) (SlV w.heap.size s03) 2 (gg 19) z:=hgv 19 _ _ rfl;obtain⟨y,hy1,hy2⟩:∃y,Below wr.heap.size wr y/\y.grownBy z (Value.slice ad (i+1) cp).ownBlock:=hz;obtain⟨ad2,cp2,e9⟩:=own_ac hown2
   have HSL:Hid (AcOwn w.heap.size (.slice ad2 (i+1+1) cp2) (wls own cs (i+1)) z/\Below w.heap.size w z):=by
    have hby:Below w.heap.size w y:=hb39.trans (hy1.mono hb39.size);have hll:sls.length=i+1:=by rw[hsl,zaq]
    refine⟨⟨sls++[sl], ?_, ?_,fun j a sl' h1 h2=> ?_⟩,hby.grown hy2 hby.size (fun k hk=>(hown9.lt k hk).1)⟩
    ·rw[zaq,List.length_append,hll];rfl
    ·rw[e9] at hown2;rw[zaq,zjb,zir _ _ hsl,<-HXS.out];unfold wAt;rw[<-HCD.out];exact hown2
    ·rw[zjb] at h1;by_cases hj:j<i+1
     ·rw[List.getElem?_append_left (by rw[zaq];exact hj)] at h1;rw[List.getElem?_append_left (by rw[hll];exact hj)] at h2;exact zfa (zm (hsls j a sl' h1 h2) hy1) (zm hown9 hy1) hy2
     ·rw[List.getElem?_append_right (by rw[zaq];omega),zaq] at h1;rw[List.getElem?_append_right (by rw[hll];omega),hll] at h2
      have hz0:j - (i+1)=0:=by
       have:=(List.getElem?_eq_some_iff.1 h1).1;simp at this;omega
      rw[hz0] at h1 h2;obtain rfl:wAt cs i=a:=by simpa using h1
      obtain rfl:sl=sl':=by simpa using h2
      exact s03_sl hslv
   clear hown2 hy1 hy2 hgv hgl9 hown9 hb39 hcd9 hslv hsls hsl;simp only[yy,yw,yx,Zg,zF,List.foldl_cons,List.foldl_nil,Act.put];simp only[sx9];rw[e9];go_wp2
   go_roundw
   case rel=>exact⟨i+1,ad2,cp2,by omega,by omega,by go_num,rfl,HSL⟩
   case measure=>simp[RowKit.intOf];omega
  ·have HE:Hid (∃u,Ending.returned (.slice ad (i+1) cp)=.returned u/\AcOwn w.heap.size u (Z7 own cs) wr/\Below w.heap.size w wr):=by
    refine⟨_,rfl, ?_,HR.out.2⟩;unfold Z7;rw[show min cs.length 6=i by rw[<-HL.out];omega];exact HR.out.1
   clear HR;by_cases hlt9:i<L
   ·have hd1:decide ((i:Int)<(L:Int))=true:=decide_eq_true (by omega);have hd2:decide ((i:Int)<6)=false:=decide_eq_false (by omega);go_wp2;go_ret;exact HE.out
   ·have hd1:decide ((i:Int)<(L:Int))=false:=decide_eq_false (by omega);go_wp2;go_ret;exact HE.out
end
section
open Go.Maps
structure IsList (A:Nat->Acc) (l:List AcE):Prop where
 ex:∃ts,zap A ts/\l.length=ts.length/\∀(i:Nat) k a,ts[i]? =some k->l[i]? =some a->a.at'=k/\a.bal=(A k).bal%M/\a.code=(A k).code/\∃us,SortedKeys (Zs (A k).slots) us/\a.slots=us.map fun m=>(m,(A k).slots m%M)
structure EqA (A B:Nat->Acc):Prop where
 bal:∀a,(B a).bal%M=(A a).bal%M
 code:∀a,(B a).code=(A a).code
 slot:∀a k,(B a).slots k%M=(A a).slots k%M
theorem EqA.no {A B:Nat->Acc} (h:EqA A B) (m:Nat):(B m).no↔(A m).no:=by
 unfold Acc.no;rw[h.bal,h.code];constructor
 ·rintro⟨h1,h2,h3⟩;exact⟨h1,h2,fun k=>(h.slot m k).symm.trans (h3 k)⟩
 ·rintro⟨h1,h2,h3⟩;exact⟨h1,h2,fun k=>(h.slot m k).trans (h3 k)⟩
theorem IsList.unique {A B:Nat->Acc} {l l':List AcE} (h:IsList A l) (h':IsList B l') (he:EqA A B):l=l':=by
 obtain⟨ts,h1,h2,h3⟩:=h.ex;obtain⟨ts',k1,k2,k3⟩:=h'.ex
 obtain rfl:ts=ts':=zb3 h1.1 k1.1 fun m=>by
  rw[h1.2,k1.2,he.no m]
 refine List.ext_getElem (by omega) fun i hi hi'=> ?_
 have ht:ts[i]? =some ts[i]:=List.getElem?_eq_getElem (by omega);obtain⟨e1,e2,e3,us,e4,e5⟩:=h3 i ts[i] l[i] ht (List.getElem?_eq_getElem hi);obtain⟨f1,f2,f3,us',f4,f5⟩:=k3 i ts[i] l'[i] ht (List.getElem?_eq_getElem hi')
 have hu:us=us':=e4.unique f4 fun m _=>by
  unfold Zs;rw[he.slot];by_cases e:(A ts[i]).slots m%M=0
  ·rw[if_pos e,if_pos e]
  ·rw[if_neg e,if_neg e];rfl
 have hs:l[i].slots=l'[i].slots:=by
  rw[e5,f5,hu];refine List.map_congr_left fun m _=> ?_
  rw[he.slot]
 have hb:l[i].bal=l'[i].bal:=by rw[e2,f2,he.bal]
 have hc:l[i].code=l'[i].code:=by rw[e3,f3,he.code]
 have ha:l[i].at'=l'[i].at':=by rw[e1,f1]
 generalize l[i]=a at*;generalize l'[i]=a' at*;cases a;cases a'
 simp_all
theorem zbA (n i:Nat) (h:i<4):za (n%M) i=za n i:=by
 have e:=yl (m:=n%M) (n:=n) (Nat.mod_mod n M);unfold wv at e;injection e with e
 have e:=congrArg Array.toList e;simp only[List.cons.injEq] at e;rcases(show i=0\/i=1\/i=2\/i=3 by omega) with rfl|rfl|rfl|rfl<;>simp_all
theorem encW_m (n:Nat):ZH (n%M)=ZH n:=by
 unfold ZH;rw[zbA n 0 (by omega),zbA n 1 (by omega),zbA n 2 (by omega),zbA n 3 (by omega)]
theorem zlt (s:Nat->Nat):∀us:List Nat,zhO (us.map fun m=>(m,s m%M))=slC s us
 |[]=>rfl
 |m::r=>by
  show ZH m++ZH (s m%M)++zhO (r.map fun m=>(m,s m%M))=ZH m++ZH (s m)++slC s r;rw[encW_m,zlt s r]
theorem Told.list {base:Nat} {A:Nat->Acc} {ts:List Nat} {v:Value} {sls:List Value} {w:World} (h:Told base A ts v sls w) (hk:zap A ts):∃l,IsList A l/\AcOwn base v l w:=by
 have hch:∀i,∃us:List Nat,∀(hi:i<ts.length),SortedKeys (Zs (A ts[i]).slots) us/\w.ownsRow base 54 8 (sls[i]'(by rw[h.len];exact hi)) us.length (slC (A ts[i]).slots us):=fun i=>by
  by_cases hi:i<ts.length
  ·obtain⟨us,_,h2,h3⟩:=h.sl i ts[i] (sls[i]'(by rw[h.len];exact hi)) (List.getElem?_eq_getElem hi) (List.getElem?_eq_getElem (by rw[h.len];exact hi));exact⟨us,fun _=>⟨h2,h3⟩⟩
  ·exact⟨[],fun h=>absurd h hi⟩
 obtain⟨f,hf⟩:=Classical.axiomOfChoice hch
 let mk:Nat->AcE:=fun i=>⟨ts.getD i 0,(A (ts.getD i 0)).bal%M,(A (ts.getD i 0)).code,(f i).map fun m=>(m,(A (ts.getD i 0)).slots m%M)⟩
 have hl:((List.range ts.length).map mk).length=ts.length:=by simp
 have hg:∀(i:Nat) a,((List.range ts.length).map mk)[i]? =some a->i<ts.length/\a=mk i:=fun i a ha=>by
  have hi:i<ts.length:=by rw[<-hl];exact(List.getElem?_eq_some_iff.1 ha).1
  refine⟨hi, ?_⟩;rw[List.getElem?_map,List.getElem?_range hi] at ha;exact(Option.some.inj ha).symm
 refine⟨(List.range ts.length).map mk,⟨ts,hk,hl,fun i k a hkk ha=> ?_⟩,⟨sls,by rw[hl];exact h.len, ?_,fun i a sl ha hs=> ?_⟩⟩
 ·obtain⟨hi,rfl⟩:=hg i a ha;have e:ts.getD i 0=k:=by rw[List.getD_eq_getElem?_getD,hkk];rfl
  have e2:ts[i]=k:=by rw[List.getElem?_eq_getElem hi] at hkk;exact Option.some.inj hkk
  have h9:=(hf i hi).1;rw[e2] at h9;refine⟨e, ?_, ?_,f i,h9, ?_⟩<;>(show _=_;dsimp only[mk];rw[e])
 ·rw[hl]
  have e:acW ((List.range ts.length).map mk) sls=acL A ts sls:=by
   have key:∀(us:List Nat) (bs:List AcE) (ss:List Value),bs.length=us.length->(∀(i:Nat) k a,us[i]? =some k->bs[i]? =some a->a.at'=k/\a.bal=(A k).bal%M/\a.code=(A k).code)->acW bs ss=acL A us ss:=by
    intro us
    induction us with
    |nil=>intro bs ss h1 _;obtain rfl:=List.length_eq_zero_iff.1 h1;cases ss<;>rfl
    |cons k r ih=>
     intro bs ss h1 h2;cases bs with
     |nil=>cases h1
     |cons a bs=>
      cases ss with
      |nil=>rfl
      |cons s ss=>
       obtain⟨q1,q2,q3⟩:=h2 0 k a rfl rfl;show acC a.at' a.bal a.code s++acW bs ss=acC k (A k).bal (A k).code s++acL A r ss;rw[ih bs ss (by simpa using h1) (fun i k a h3 h4=>h2 (i+1) k a h3 h4),q1,q2,q3];unfold acC;rw[zbA _ 0 (by omega),zbA _ 1 (by omega),zbA _ 2 (by omega),zbA _ 3 (by omega)]
   refine key ts _ sls hl fun i k a hkk ha=> ?_
   obtain⟨hi,rfl⟩:=hg i a ha;have e:ts.getD i 0=k:=by rw[List.getD_eq_getElem?_getD,hkk];rfl
   refine⟨e, ?_, ?_⟩<;>(show _=_;dsimp only[mk];rw[e])
  rw[e];exact h.own
 ·obtain⟨hi,rfl⟩:=hg i a ha;have h9:=(hf i hi).2;have e:ts.getD i 0=ts[i]:=by rw[List.getD_eq_getElem?_getD,List.getElem?_eq_getElem hi];rfl
  have e2:sls[i]'(by rw[h.len];exact hi)=sl:=by
   have:=hs;rw[List.getElem?_eq_getElem (by rw[h.len];exact hi)] at this;exact Option.some.inj this
  rw[e2] at h9;show w.ownsRow base 54 8 sl ((f i).map fun m=>(m,(A (ts.getD i 0)).slots m%M)).length (zhO ((f i).map fun m=>(m,(A (ts.getD i 0)).slots m%M)));rw[zlt,List.length_map,e];exact h9
end
section
open Go.Maps
def dd:List Nat->List Nat
 |[]=>[]
 |k::r=>if k∈dd r then dd r else k::dd r
theorem zcb:∀{l:List Nat} {k:Nat},k∈dd l↔k∈l
 |[],_=>Iff.rfl
 |a::r,k=>by
  show k∈(if a∈dd r then dd r else a::dd r)↔_;by_cases h:a∈dd r
  ·rw[if_pos h,zcb,List.mem_cons];refine⟨Or.inr,fun e=> ?_⟩;rcases e with rfl|e
   ·exact zcb.1 h
   ·exact e
  ·rw[if_neg h,List.mem_cons,List.mem_cons,zcb]
theorem zcq:∀l:List Nat,(dd l).Nodup
 |[]=>List.nodup_nil
 |a::r=>by
  show(if a∈dd r then dd r else a::dd r).Nodup;by_cases h:a∈dd r
  ·rw[if_pos h];exact zcq r
  ·rw[if_neg h];exact List.nodup_cons.2 ⟨h,zcq r⟩
theorem zhG (A:Nat->Acc):∀s t:List Nat,Z0 A (s++t)=Z0 A s+Z0 A t
 |[],t=>by simp[Z0]
 |k::r,t=>by
  show(A k).bal+Z0 A (r++t)=(A k).bal+Z0 A r+Z0 A t;rw[zhG A r t];omega
theorem zjt {A:Nat->Acc}:∀{l:List Nat},(∀k∈l,(A k).bal%M=0)->Z0 A l%M=0
 |[],_=>Nat.zero_mod _
 |k::r,h=>by
  show((A k).bal+Z0 A r)%M=0;rw[Nat.add_mod,h k List.mem_cons_self,zjt fun q hq=>h q (List.mem_cons_of_mem _ hq),Nat.zero_mod]
theorem zfs {A:Nat->Acc}:∀(U V:List Nat),U.Nodup->V.Nodup->(∀u∈U,u∉V->(A u).bal%M=0)->(∀v∈V,v∉U->(A v).bal%M=0)->Z0 A U%M=Z0 A V%M
 |[],V,_,_,_,h=>by rw[zjt fun v hv=>h v hv (by simp)];exact Nat.zero_mod _
 |k::r,V,hU,hV,h1,h2=>by
  obtain⟨hk,hr⟩:=List.nodup_cons.1 hU;show((A k).bal+Z0 A r)%M=_;by_cases hkV:k∈V
  ·obtain⟨s,t,rfl⟩:=List.append_of_mem hkV
   have hV':(s++t).Nodup:=by
    rw[List.nodup_append] at hV⊢;obtain⟨a1,a2,a3⟩:=hV;exact⟨a1,(List.nodup_cons.1 a2).2,fun x hx y hy=>a3 x hx y (List.mem_cons_of_mem _ hy)⟩
   have hks:k∉s++t:=by
    rw[List.nodup_append] at hV;obtain⟨a1,a2,a3⟩:=hV;intro hm;rcases List.mem_append.1 hm with e|e
    ·exact a3 k e k List.mem_cons_self rfl
    ·exact(List.nodup_cons.1 a2).1 e
   have ih:=zfs (A:=A) r (s++t) hr hV' (fun u hu hn=>h1 u (List.mem_cons_of_mem _ hu) (fun hm=>by
    rcases List.mem_append.1 hm with e|e
    ·exact hn (List.mem_append_left _ e)
    ·rcases List.mem_cons.1 e with rfl|e
     ·exact hk hu
     ·exact hn (List.mem_append_right _ e))) (fun v hv hn=>h2 v (by
    rcases List.mem_append.1 hv with e|e
    ·exact List.mem_append_left _ e
    ·exact List.mem_append_right _ (List.mem_cons_of_mem _ e)) (fun hm=>by
    rcases List.mem_cons.1 hm with rfl|e
    ·exact hks hv
    ·exact hn e))
   have e:Z0 A (s++k::t)=(A k).bal+Z0 A (s++t):=by
    rw[zhG,zhG];show Z0 A s+((A k).bal+Z0 A t)=_;omega
   rw[e,Nat.add_mod,ih,<-Nat.add_mod]
  ·have ih:=zfs (A:=A) r V hr hV (fun u hu hn=>h1 u (List.mem_cons_of_mem _ hu) hn) (fun v hv hn=>h2 v hv (fun hm=>by
    rcases List.mem_cons.1 hm with rfl|e
    ·exact hkV hv
    ·exact hn e))
   rw[Nat.add_mod,h1 k List.mem_cons_self hkV,ih,Nat.zero_add,Nat.mod_mod]
def zdv:List AcE->Nat
 |[]=>0
 |a::r=>a.bal+zdv r
theorem zgR {A:Nat->Acc}:∀(l:List AcE) (ts:List Nat),l.length=ts.length->(∀(i:Nat) k a,ts[i]? =some k->l[i]? =some a->a.bal=(A k).bal%M)->zdv l%M=Z0 A ts%M
 |[],[],_,_=>rfl
 |[],_::_,h,_=>by cases h
 |_::_,[],h,_=>by cases h
 |a::r,k::t,h,hb=>by
  have ih:=zgR r t (by simpa using h) (fun i k a h1 h2=>hb (i+1) k a (by simpa using h1) (by simpa using h2));show(a.bal+zdv r)%M=((A k).bal+Z0 A t)%M;rw[hb 0 k a rfl rfl,Nat.add_mod,Nat.mod_mod,ih,<-Nat.add_mod]
theorem zmp {T T':TS} {l l':List AcE} (h:MoT T T') (hl:IsList T.acc l) (hl':IsList T'.acc l'):zdv l'%M=zdv l%M:=by
 obtain⟨ts,h1,h2,h3⟩:=hl.ex;obtain⟨ts',k1,k2,k3⟩:=hl'.ex;obtain⟨W,hW⟩:=h.mo;have hM:0<M:=by have:=M_big;omega
 have nd:∀{A:Nat->Acc} {q:List Nat},zap A q->q.Nodup:=fun hq=>hq.1.imp fun h=>Nat.ne_of_lt h
 have hlt:∀u∈dd (ts++ts'++W.map (·%M)),u<M:=fun u hu=>by
  rcases List.mem_append.1 (zcb.1 hu) with e|e
  ·rcases List.mem_append.1 e with e|e
   ·exact((h1.2 u).1 e).1
   ·exact((k1.2 u).1 e).1
  ·obtain⟨q,_,rfl⟩:=List.mem_map.1 e;exact Nat.mod_lt _ hM
 have hap:Apart (dd (ts++ts'++W.map (·%M))):=by
  have hd:=zcq (ts++ts'++W.map (·%M));refine List.Pairwise.imp_of_mem (fun{a b} ha hb hab e=> ?_) hd;rw[Nat.mod_eq_of_lt (hlt a ha),Nat.mod_eq_of_lt (hlt b hb)] at e;exact hab e
 have hs:=hW _ hap (fun k hk=>⟨k%M,zcb.2 (List.mem_append_right _ (List.mem_map.2 ⟨k,hk,rfl⟩)),Nat.mod_mod _ _⟩)
 have key:∀{A:Nat->Acc} {q:List Nat},zap A q->(∀k∈q,k∈dd (ts++ts'++W.map (·%M)))->Z0 A (dd (ts++ts'++W.map (·%M)))%M=Z0 A q%M:=fun{A q} hq hsub=>
  zfs _ q (zcq _) (nd hq) (fun u hu hn=>by
   by_cases e:(A u).no
   ·exact e.1
   ·exact absurd ((hq.2 u).2 ⟨hlt u hu,e⟩) hn) (fun v hv hn=>absurd (hsub v hv) hn)
 rw[zgR l ts h2 (fun i k a e1 e2=>(h3 i k a e1 e2).2.1),zgR l' ts' k2 (fun i k a e1 e2=>(k3 i k a e1 e2).2.1)];rw[<-key h1 (fun k hk=>zcb.2 (List.mem_append_left _ (List.mem_append_left _ hk))),<-key k1 (fun k hk=>zcb.2 (List.mem_append_left _ (List.mem_append_right _ hk)))];exact hs
end
end cin
end Go.Proofs.YtohoajjdoihekaaGreatDoor
