import Derived.Test.YtohoajjdoihekaaGreatDoorHa
import Derived.Lib.OthersKept
import Derived.Deep.DeepCutAuto
import Derived.Laws.BytesArg
import Derived.Laws.ShiftsVarLaws
import Derived.Laws.CopyRow
import Derived.Laws.CopyOwn
import Derived.Deep.RegionLaw
import Derived.ArgAppend
set_option linter.unusedVariables false
set_option linter.unusedSimpArgs false
namespace Go.Proofs.YtohoajjdoihekaaGreatDoor
namespace cin
open Go.RowKit Go.Proofs.Tryz Tryz
set_option maxRecDepth 100000
set_option maxHeartbeats 8000000
theorem Zn {p:Prop} (h:p):Hid p:=h
theorem ZI (n:Nat) (hn:n<9223372036854775808) (w:World):Calls prog 262 #[.int .i64 (n:Int)] w fun e w'=>e=.returned (wv n)/\Below w.heap.size w w':=by
 obtain⟨g0,g1,g2,g3⟩:=ZM n (by omega);have G0:Hid (za n 0=(n:Int)):=g0;have G1:Hid (za n 1=0):=g1;have G2:Hid (za n 2=0):=g2;have G3:Hid (za n 3=0):=g3;clear g0 g1 g2 g3;go_enter func262,ntmps262;go_wp2;refine bodyPost_ret (v:=wv n) (by unfold wv;rw[G0.out,G1.out,G2.out,G3.out];simp[results,results262,go_sem]) rfl ⟨rfl, ?_⟩;exact bal (Below.refl _ _) _
abbrev wc (n:Nat):Obj:=.cells #[.int .u64 (za n 0),.int .u64 (za n 1),.int .u64 (za n 2),.int .u64 (za n 3)] 24
abbrev zX (x:World) (b n:Nat):Prop:=x.rowIs b 24 4 (zu (za n))
theorem yz (w:World) (n:Nat):zX (w.alloc (wc n)) w.heap.size n:=zj _ rfl rfl rfl rfl rfl
structure W1 (w:World) (a:Nat) (x:World):Prop where
 ra:zX x w.heap.size a
 be:Below w.heap.size w x
theorem W1.start (w:World) (a:Nat):W1 w a (w.alloc (wc a)):=⟨yz w a,bal (Below.refl _ _) _⟩
theorem W1.alloc {w:World} {a:Nat} {x:World} (h:W1 w a x) (o:Obj):W1 w a (x.alloc o):=⟨h.ra.alloc _,bal h.be _⟩
theorem W1.call {w:World} {a:Nat} {x y:World} (h:W1 w a x) (hb:Below x.heap.size x y):W1 w a y:=⟨zg h.ra hb,ZE h.be hb⟩
structure W2 (w:World) (a b:Nat) (x:World):Prop where
 ra:zX x w.heap.size a
 rb:zX x (w.heap.size+1) b
 be:Below w.heap.size w x
theorem W2.start (w:World) (a b:Nat):W2 w a b ((w.alloc (wc a)).alloc (wc b)):=⟨(yz w a).alloc _,zj _ (by simp) rfl rfl rfl rfl,bal (bal (Below.refl _ _) _) _⟩
theorem W2.alloc {w:World} {a b:Nat} {x:World} (h:W2 w a b x) (o:Obj):W2 w a b (x.alloc o):=⟨h.ra.alloc _,h.rb.alloc _,bal h.be _⟩
theorem W2.call {w:World} {a b:Nat} {x y:World} (h:W2 w a b x) (hb:Below x.heap.size x y):W2 w a b y:=⟨zg h.ra hb,zg h.rb hb,ZE h.be hb⟩
structure W3 (w:World) (a b c:Nat) (x:World):Prop where
 ra:zX x w.heap.size a
 rb:zX x (w.heap.size+1) b
 rc:zX x (w.heap.size+1+1) c
 be:Below w.heap.size w x
theorem W3.start (w:World) (a b c:Nat):W3 w a b c (((w.alloc (wc a)).alloc (wc b)).alloc (wc c)):=⟨((yz w a).alloc _).alloc _,(zj (za b) (by simp) rfl rfl rfl rfl).alloc _,zj _ (by simp) rfl rfl rfl rfl,bal (bal (bal (Below.refl _ _) _) _) _⟩
theorem zkZ (a b:Nat):decide (0<ZZ a b)=decide (b%M<a%M):=by
 unfold ZZ;by_cases h1:a%M<b%M
 ·rw[if_pos h1];simp;omega
 ·rw[if_neg h1];by_cases h2:b%M<a%M
  ·rw[if_pos h2];simp[h2]
  ·rw[if_neg h2];simp[h2]
theorem zhV {n:Nat} (h:n<9223372036854775808):n%M=n:=Nat.mod_eq_of_lt (by unfold M;omega)
theorem znB {a:Nat} (h:a%M<9223372036854775808):za a 0=((a%M:Nat):Int):=by
 have h:=(ZM (a%M) (by omega)).1;rw[<-h];unfold za M;rw[pw0];omega
theorem zar (a n:Nat) (hn:n<9223372036854775808) (ha:a%M<=n) (w:World):Calls prog 284 #[wv a,.int .i64 (n:Int)] w fun e w'=>∃m:Nat,Hid (m=a%M)/\e=.returned (.tuple #[.int .i64 (m:Int),.bool true])/\Below w.heap.size w w':=by
 have d:decide (0<ZZ a n)=false:=by rw[zkZ,zhV hn];exact decide_eq_false (by omega)
 have hl:za a 0=((a%M:Nat):Int):=znB (by omega);obtain⟨m,hm⟩:∃m:Nat,m=a%M:=⟨_,rfl⟩;rw[<-hm] at hl ha;have HL:=Zn hl;have HMM:=Zn hm;clear hm hl;have hr:(w.alloc (.cells #[.int .u64 (za a 0),.int .u64 (za a 1),.int .u64 (za a 2),.int .u64 (za a 3)] 24)).rowIs w.heap.size 24 4 (zu (za a)):=zj _ rfl rfl rfl rfl rfl;have HS:=Zn (ZI n hn);have HC:=Zn (Yg a n);go_enter func284,ntmps284;go_wp2_with fail
 go_region_with (first
  |(go_at_call 262;refine(HS.out _).mono ?_;rintro e w1 ⟨rfl,hb1⟩;have hr1:=zg hr.drew hb1;obtain⟨y0,y1,y2,y3⟩:=ze hr1)
  |(go_at_call 33;refine(HC.out _).mono ?_;rintro e w2 ⟨rfl,hb2⟩))
 all_goals (
  have hr2:=zg hr1 hb2;obtain⟨z0,z1,z2,z3⟩:=ze hr2;have HB:Hid (Below w.heap.size w w2):=ZE (ZE (bal (Below.refl _ w) _).drew hb1) hb2;rw[HL.out] at z0;clear hr2 hr1 y0 y1 y2 y3 hb1 hb2 hr HC HS;go_wp2;go_ret2;exact⟨m,HMM,rfl,HB.out⟩)
theorem zaJ (a n:Nat) (hn:n<9223372036854775808) (ha:n<a%M) (w:World):Calls prog 284 #[wv a,.int .i64 (n:Int)] w fun e w'=>e=.returned (.tuple #[.int .i64 0,.bool false])/\Below w.heap.size w w':=by
 have d:decide (0<ZZ a n)=true:=by rw[zkZ,zhV hn];exact decide_eq_true (by omega)
 have hr:(w.alloc (.cells #[.int .u64 (za a 0),.int .u64 (za a 1),.int .u64 (za a 2),.int .u64 (za a 3)] 24)).rowIs w.heap.size 24 4 (zu (za a)):=zj _ rfl rfl rfl rfl rfl;have HS:=Zn (ZI n hn);have HC:=Zn (Yg a n);clear ha;go_enter func284,ntmps284;go_wp2_with fail
 go_region_with (first
  |(go_at_call 262;refine(HS.out _).mono ?_;rintro e w1 ⟨rfl,hb1⟩;have hr1:=zg hr.drew hb1;obtain⟨y0,y1,y2,y3⟩:=ze hr1)
  |(go_at_call 33;refine(HC.out _).mono ?_;rintro e w2 ⟨rfl,hb2⟩))
 all_goals (
  have HB:Hid (Below w.heap.size w w2):=ZE (ZE (bal (Below.refl _ w) _).drew hb1) hb2;clear hr1 y0 y1 y2 y3 hb1 hb2 hr HC HS;go_wp2;go_ret2;exact⟨rfl,HB.out⟩)
theorem YT (n:Nat) (hn:n<=200000) (w:World):Calls prog 287 #[.int .i64 (n:Int)] w fun e w'=>e=.returned (.int .i64 (((n+31)/32:Nat):Int))/\w'=w:=by
 go_enter func287,ntmps287;go_wp2;go_ret;refine⟨congrArg (fun z=>Ending.returned (Value.int .i64 z)) ?_,rfl⟩;omega
abbrev Yq (p n b:Nat):Prop:=p%M<=b/\n%M<=b/\p%M+n%M<=b
theorem zhN (p n b:Nat) (hb:b<1000000) (h:Yq p n b) (w:World):Calls prog 286 #[wv p,wv n,.int .i64 (b:Int)] w fun e w'=>∃q m:Nat,Hid (q=p%M)/\Hid (m=n%M)/\e=.returned (.tuple #[.int .i64 (q:Int),.int .i64 (m:Int),.bool true])/\Below w.heap.size w w':=by
 obtain⟨h1,h2,h3⟩:=h;have HP:=Zn (zar p b (by omega) h1);have HN:=Zn (zar n b (by omega) h2);have hs:=W2.start w p n;go_enter func286,ntmps286;go_wp2_with fail
 refine(HP.out _).mono ?_;rintro e w1 ⟨q,HQ,rfl,hb1⟩;replace hs:=hs.call hb1;obtain⟨x0,x1,x2,x3⟩:=ze hs.rb;go_wp2_with fail
 refine(HN.out _).mono ?_;rintro e w2 ⟨m,HM,rfl,hb2⟩;have hle:q+m<=b:=by rw[HQ.out,HM.out];exact h3
 have d:decide ((b:Int)<(q:Int)+(m:Int))=false:=decide_eq_false (by omega);have HB:=Zn (ZE hs.be hb2);clear hs x0 x1 x2 x3;clear hb1 hb2 h1 h2 h3 HP HN;go_wp2
 go_ret3
 exact⟨q,m,HQ,HM,rfl,HB.out⟩
theorem zew (p n b:Nat) (hb:b<1000000) (h:¬Yq p n b) (w:World):Calls prog 286 #[wv p,wv n,.int .i64 (b:Int)] w fun e w'=>e=.returned (.tuple #[.int .i64 0,.int .i64 0,.bool false])/\Below w.heap.size w w':=by
 by_cases h1:p%M<=b
 ·have HP:=Zn (zar p b (by omega) h1);by_cases h2:n%M<=b
  ·have HN:=Zn (zar n b (by omega) h2);have hs:=W2.start w p n;go_enter func286,ntmps286;go_wp2_with fail
   refine(HP.out _).mono ?_;rintro e w1 ⟨q,HQ,rfl,hb1⟩;replace hs:=hs.call hb1;obtain⟨x0,x1,x2,x3⟩:=ze hs.rb;go_wp2_with fail
   refine(HN.out _).mono ?_;rintro e w2 ⟨m,HM,rfl,hb2⟩;have hle:b<q+m:=by rw[HQ.out,HM.out];unfold Yq at h;omega
   have hq:q<=b:=by rw[HQ.out];exact h1
   have hm:m<=b:=by rw[HM.out];exact h2
   have d:decide ((b:Int)<(q:Int)+(m:Int))=true:=decide_eq_true (by omega);have HB:=Zn (ZE hs.be hb2);clear hs x0 x1 x2 x3;clear hb1 hb2 h1 h2 h HP HN;go_wp2
   go_ret3
   exact⟨rfl,HB.out⟩
  ·have HN:=Zn (zaJ n b (by omega) (by omega));have hs:=W2.start w p n;go_enter func286,ntmps286;go_wp2_with fail
   refine(HP.out _).mono ?_;rintro e w1 ⟨q,HQ,rfl,hb1⟩;replace hs:=hs.call hb1;obtain⟨x0,x1,x2,x3⟩:=ze hs.rb;go_wp2_with fail
   refine(HN.out _).mono ?_;rintro e w2 ⟨rfl,hb2⟩;have HB:=Zn (ZE hs.be hb2);clear hs x0 x1 x2 x3;clear hb1 hb2 h1 h2 h HP HN;go_wp2
   go_ret3
   exact⟨rfl,HB.out⟩
 ·have HP:=Zn (zaJ p b (by omega) (by omega))
  have HN:Hid (∀w,Calls prog 284 #[wv n,.int .i64 (b:Int)] w fun e w'=>∃(m:Nat) (t:Bool),e=.returned (.tuple #[.int .i64 (m:Int),.bool t])/\Below w.heap.size w w'):=fun w=>by
   by_cases h2:n%M<=b
   ·exact(zar n b (by omega) h2 w).mono fun e w' ⟨m,_,h3,h4⟩=>⟨m,true,h3,h4⟩
   ·exact(zaJ n b (by omega) (by omega) w).mono fun e w' ⟨h3,h4⟩=>⟨0,false,h3,h4⟩
  have hs:=W2.start w p n;go_enter func286,ntmps286;go_wp2_with fail
  refine(HP.out _).mono ?_;rintro e w1 ⟨rfl,hb1⟩;replace hs:=hs.call hb1;obtain⟨x0,x1,x2,x3⟩:=ze hs.rb;go_wp2_with fail
  refine(HN.out _).mono ?_;rintro e w2 ⟨m,t,rfl,hb2⟩;have HB:=Zn (ZE hs.be hb2);clear hs x0 x1 x2 x3;clear hb1 hb2 h1 h HP HN;go_wp2
  go_ret3
  exact⟨rfl,HB.out⟩
def byt (s:ByteArray) (i:Nat):Nat:=(s.get! i).toNat
theorem ze8 (s:ByteArray) (i:Nat):byt s i<256:=(s.get! i).toNat_lt
theorem zgV (s:ByteArray) (i:Nat) (h:i<s.size):(s[i]'h).toNat=byt s i:=by
 unfold byt
 have e:s.get! i=s[i]'h:=by
  simp[ByteArray.get!,getElem!_pos,h];rfl
 rw[e]
def good (s:ByteArray) (i lo hi j:Nat):Prop:=if j=1 then lo<=byt s (i+j)/\byt s (i+j)<=hi else 128<=byt s (i+j)/\byt s (i+j)<=191
def Rd (s:ByteArray) (i n lo hi:Nat) (r:Nat):Prop:=(r=n/\i+n<=s.size/\∀j,1<=j->j<n->good s i lo hi j)\/(r=0/\¬(i+n<=s.size/\∀j,1<=j->j<n->good s i lo hi j))
def nx (s:ByteArray) (i:Nat):Nat:=if Utf8.decode s i=(65533,1) then 0 else(Utf8.decode s i).2
def dec (z i b0 b1 b2 b3:Nat):Nat×Nat:=
 if b0<128 then(b0,1)
 else if b0/32=6/\(i+1<z/\b1/64=2) then(if 128<=b0%32*64+b1%64 then(b0%32*64+b1%64,2) else(65533,1))
 else if (b0/16=14/\(i+1<z/\b1/64=2))/\(i+2<z/\b2/64=2) then
  (if 2048<=b0%16*4096+b1%64*64+b2%64/\(b0%16*4096+b1%64*64+b2%64<55296\/(57344<=b0%16*4096+b1%64*64+b2%64/\b0%16*4096+b1%64*64+b2%64<=1114111)) then(b0%16*4096+b1%64*64+b2%64,3) else(65533,1))
 else if ((b0/8=30/\(i+1<z/\b1/64=2))/\(i+2<z/\b2/64=2))/\(i+3<z/\b3/64=2) then
  (if 65536<=b0%8*262144+b1%64*4096+b2%64*64+b3%64/\(b0%8*262144+b1%64*4096+b2%64*64+b3%64<55296\/(57344<=b0%8*262144+b1%64*4096+b2%64*64+b3%64/\b0%8*262144+b1%64*4096+b2%64*64+b3%64<=1114111)) then(b0%8*262144+b1%64*4096+b2%64*64+b3%64,4) else(65533,1))
 else(65533,1)
def wid (z i b0 b1 b2 b3:Nat):Nat:=if dec z i b0 b1 b2 b3=(65533,1) then 0 else(dec z i b0 b1 b2 b3).2
def bl (s:ByteArray):List UInt8:=s.data.toList
theorem zaT (s:ByteArray):(bl s).length=s.size:=rfl
theorem bl_sub (s:ByteArray) (a b:Nat):bl (s.extract a b)=((bl s).drop a).take (b - a):=by
 unfold bl;rw[ByteArray.data_extract,Array.toList_extract]
def pf (t pre:ByteArray):Bool:=decide (pre.size<=t.size)&&((t.extract 0 pre.size).toList==pre.toList)
def cntF (s:ByteArray):Nat->Nat->Nat->Nat×Bool
 |0,_,k=>(k,true)
 |f+1,p,k=>if p<s.size then(if nx s p=0 then(k,false) else cntF s f (p+nx s p) (k+1)) else(k,true)
def cnt (s:ByteArray):Nat×Bool:=cntF s s.size 0 0
def unfit (s:ByteArray) (p:Nat):Bool:=decide (nx s p=0\/(nx s p=1/\(byt s p<97\/122<byt s p)))
def nmF (s:ByteArray):Nat->Nat->Nat->Bool
 |0,_,k=>decide (0<k/\k<11)
 |f+1,p,k=>if p<s.size then(if unfit s p then false else nmF s f (p+nx s p) (k+1)) else decide (0<k/\k<11)
def nm (s:ByteArray):Bool:=nmF s s.size 0 0
def cym (a b d k:Nat):Nat:=(a%2^(64*k)*b+d)/2^(64*k)
def dgt (r:Nat):Nat:=if 48<=r/\r<=57 then r - 48 else if 97<=r/\r<=102 then r - 87 else 16
def cutP (t pre:ByteArray):ByteArray:=if pf t pre then t.extract pre.size t.size else t
def sf (t suf:ByteArray):Bool:=decide (suf.size<=t.size)&&((t.extract (t.size - suf.size) t.size).toList==suf.toList)
def cutS (t suf:ByteArray):ByteArray:=if sf t suf then t.extract 0 (t.size - suf.size) else t
def numF (s:ByteArray) (base:Nat):Nat->Nat->Nat->Bool->Option (Nat×Bool)
 |0,_,n,g=>some (n,g)
 |f+1,p,n,g=>if p<s.size then(if dgt (byt s p)<base then numF s base f (p+1) ((n*base+dgt (byt s p))%M) (g||decide (M<=n*base+dgt (byt s p))) else none) else some (n,g)
def num (s:ByteArray) (base:Nat):Option (Nat×Bool):=numF s base s.size 0 0 false
def rnum (t:ByteArray) (base:Nat):Nat×Int:=match num t base with
 |none=>(0,2)
 |some (n,g)=>if t.size=0 then(0,2) else if g then(0,4) else(n,0)
def x0:ByteArray:=⟨#[48,120]⟩
def rbase (s:ByteArray):Nat:=if pf s x0 then 16 else 10
def rnumber (s:ByteArray):Nat×Int:=rnum (cutP s x0) (rbase s)
section
open Go.RowKit Go.Lib
structure IT (w:World) (t:ByteArray) (z b k p n:Nat) (x:World):Prop where
 it:x.heap[k]? =some (.stringIter t p)
 rz:x.rowIs z 24 4 (zu fun _=>0)
 rn:x.rowIs b 24 4 (zu (za n))
 hz:w.heap.size<=z
 hzb:z<b
 hbk:b<k
 be:Below w.heap.size w x
end
theorem p5 {i:Nat} (h:i<5):i=0\/i=1\/i=2\/i=3\/i=4:=by omega
theorem p6 {i:Nat} (h:i<6):i=0\/i=1\/i=2\/i=3\/i=4\/i=5:=by omega
structure S1 (w:World) (a:Nat) (x:World):Prop where
 ra:x.rowIs w.heap.size 24 4 (zu (za a))
 rz:x.rowIs (w.heap.size+1) 24 4 (zu fun _=>0)
 be:Below w.heap.size w x
structure Q2 (w:World) (a b:Nat) (x:World):Prop where
 ra:x.rowIs w.heap.size 24 4 (zu (za a))
 rb:x.rowIs (w.heap.size+1) 24 4 (zu (za b))
 rz:∃f,x.rowIs (w.heap.size+1+1) 24 4 f
 be:Below w.heap.size w x
def fint (a m:Nat):Nat:=if a%M<m then a%M else m

def shb (b:Nat) (n:Int) (zF:Bool) (i:Nat):Bool:=if 0<=(i:Int) - n/\(i:Int) - n<256 then b.testBit ((i:Int) - n).toNat else zF
structure PR (w:World) (a b p q r:Nat) (x:World):Prop where
 rp:x.rowIs p 4 256 (zk2 a.testBit)
 rq:x.rowIs q 4 256 (zk2 b.testBit)
 hp:p<r
 hq:q<r
 hr:w.heap.size<=r
 be:Below w.heap.size w x
theorem p4 {i:Nat} (h:i<4):i=0\/i=1\/i=2\/i=3:=by omega
def nt (s:ByteArray):ByteArray:=if decide (2<s.size)&&((s.extract 0 2).toList==x0.toList) then s.extract 2 s.size else s
def nb (s:ByteArray):Nat:=if decide (2<s.size)&&((s.extract 0 2).toList==x0.toList) then 16 else 10
def dgi (c b:Nat):Int:=if dgt c<b then(dgt c:Int) else -1
def hib (P k:Nat):Bool:=decide (M<=P%2^k)
structure RN (w:World) (z b n:Nat) (x:World):Prop where
 rz:x.rowIs z 24 4 (zu fun _=>0)
 rn:x.rowIs b 24 4 (zu (za n))
 hz:w.heap.size<=z
 hzb:z<b
 be:Below w.heap.size w x
def numO (t:ByteArray) (b:Nat) (e:Ending):Prop:=match num t b with
 |none=>∃r,e=.returned (.tuple #[wv r,.bool false,.bool false])
 |some (n,g)=>e=.returned (.tuple #[wv n,.bool (decide (t.size≠0)),.bool g])
def nres (t:ByteArray) (b:Nat):Option (Nat×Bool):=match num t b with
 |none=>none
 |some (n,g)=>if t.size=0 then none else some (n,g)
def lk:List (List UInt8×Nat)->List UInt8->Option Nat
 |[],_=>none
 |(a,v)::r,l=>if l=a then some v else lk r l
def pr (o:Option Nat):Value:=.tuple #[.int .u8 ((o.getD 0:Nat):Int),.bool o.isSome]
def lkP (s:ByteArray) (P:Option Nat->Prop):List (List UInt8×Nat)->Prop
 |[]=>P none
 |(a,v)::r=>((s.toList==a)=true->P (some v))/\((s.toList==a)=false->lkP s P r)
def tabCmp:List (List UInt8×Nat):=[([76,84],16),([71,84],17),([83,76,84],18),([83,71,84],19),([69,81],20),([73,83,90,69,82,79],21),([65,78,68],22),([79,82],23),([88,79,82],24),([78,79,84],25),([66,89,84,69],26),([83,72,76],27),([83,72,82],28),([83,65,82],29)]
def tabRec:List (List UInt8×Nat):=[([65,68,68],1),([77,85,76],2),([83,85,66],3),([68,73,86],4),([83,68,73,86],5),([77,79,68],6),([83,77,79,68],7),([65,68,68,77,79,68],8),([77,85,76,77,79,68],9),([69,88,80],10),([83,73,71,78,69,88,84,69,78,68],11)]
def tabSur:List (List UInt8×Nat):=[([83,84,79,80],0),([65,68,68,82,69,83,83],48),([66,65,76,65,78,67,69],49),([67,65,76,76,69,82],51),([67,65,76,76,86,65,76,85,69],52),([67,65,76,76,68,65,84,65,76,79,65,68],53),([67,65,76,76,68,65,84,65,83,73,90,69],54),([67,65,76,76,68,65,84,65,67,79,80,89],55),([67,79,68,69,83,73,90,69],56),([67,79,68,69,67,79,80,89],57),([82,69,84,85,82,78,68,65,84,65,83,73,90,69],61),([82,69,84,85,82,78,68,65,84,65,67,79,80,89],62),([67,65,76,76],241),([82,69,84,85,82,78],243),([68,69,76,69,71,65,84,69,67,65,76,76],244),([83,84,65,84,73,67,67,65,76,76],250),([82,69,86,69,82,84],253)]
def tabKee:List (List UInt8×Nat):=[([80,79,80],80),([77,76,79,65,68],81),([77,83,84,79,82,69],82),([77,83,84,79,82,69,56],83),([83,76,79,65,68],84),([83,83,84,79,82,69],85),([74,85,77,80],86),([74,85,77,80,73],87),([80,67],88),([77,83,73,90,69],89),([71,65,83],90),([74,85,77,80,68,69,83,84],91),([84,76,79,65,68],92),([84,83,84,79,82,69],93),([77,67,79,80,89],94)]
def dcs (k:Nat):ByteArray:=if k<10 then⟨#[UInt8.ofNat (48+k)]⟩ else⟨#[49,UInt8.ofNat (38+k)]⟩
def dup (i:Nat):ByteArray:=⟨#[68,85,80]⟩++dcs (i+1)
def swp (i:Nat):ByteArray:=⟨#[83,87,65,80]⟩++dcs (i+1)
def lgs (i:Nat):ByteArray:=⟨#[76,79,71]⟩++dcs i
def rowA (l:List UInt8):Nat->Nat->Option Nat
 |0,_=>none
 |f+1,i=>if l=bl (dup i) then some (128+i) else if l=bl (swp i) then some (144+i) else rowA l f (i+1)
def rowB (l:List UInt8):Nat->Nat->Option Nat
 |0,_=>none
 |f+1,i=>if l=bl (lgs i) then some (160+i) else rowB l f (i+1)
def inRow (s:ByteArray):Option Nat:=(rowA (bl s) 16 0).orElse fun _=>rowB (bl s) 5 0

def u8s (f:Nat->Nat):Nat->Value:=fun i=>.int .u8 (f i:Int)
def byn (n m:Nat):Nat:=n/2^(8*m)%256
theorem byn_lb (n i k:Nat) (hk:k<8):lb n i/2^(8*k)%256=byn n (8*i+k):=by
 unfold lb byn;have e:(256:Nat)=2^8:=rfl;rw[zi9,e,show 8*(8*i+k)=64*i+8*k by omega];apply Nat.eq_of_testBit_eq;intro j;simp only[Nat.testBit_mod_two_pow,Nat.testBit_div_two_pow];by_cases hj:j<8
 ·rw[decide_eq_true hj,Bool.true_and,Bool.true_and,decide_eq_true (by omega),Bool.true_and];congr 1;omega
 ·rw[decide_eq_false hj,Bool.false_and,Bool.false_and]
theorem zeY (n:Nat) (hn:n<=281474976710656) (w:World):(Instr.makeSlice 26 (.int .i64 (n:Int)) (.int .i64 (n:Int))).run prog w=.ok (.slice (some ⟨w.heap.size,0,none⟩) n n) (w.alloc (.cells (madeCells #[.int .u8 0] n) 5)):=
 run_make_row' 26 5 (.int .u8 0) 1 (by kernel_rfl) (by kernel_rfl) rfl .i64 .i64 n (by omega) (by omega) w
def by32 (n:Nat):ByteArray:=strOfNums ((List.range 32).map fun j=>((byn n (31 - j):Nat):Int))
def lst (s:ByteArray):ByteArray:=⟨((bl s).dropWhile (·==0)).toArray⟩
def strSize:Value->Nat
 |.string t=>t.size
 |_=>0
def u8v (b:UInt8):Value:=.int .u8 (b.toNat:Int)
def Bys (w:World) (base:Nat) (v:Value) (l:List UInt8):Prop:=w.ownsRow base 5 1 v l.length (l.map u8v)
theorem zb {p:Prop} (h:p):Hid p:=h
theorem Z8 (w:World) (cs:Array Value) (t:TypeId):∀j u,cs.toList[j]? =some u->(w.alloc (.cells cs t)).cell? ((⟨w.heap.size,0,none⟩:Addr).add j)=some u:=fun j u h=>by
 have e:(⟨w.heap.size,0,none⟩:Addr).add j=⟨w.heap.size,j,none⟩:=by simp[Addr.add,eq_comm]
 rw[e,cell_of_row _ w.heap.size j cs t (0,0) (heap_alloc_new w _)];simpa using h
theorem zlc:(prog.info? 5).map (fun i=>(i.zero,i.size,i.bytes))=some (some (.int .u8 0),1,1):=by kernel_rfl
theorem yq {w:World} {base e size:Nat} {v:Value} {n:Nat} {xs:List Value} (h:w.ownsRow base e size v n xs) (hn:n≠0):∃g cap:Nat,v=.slice (some ⟨g,0,none⟩) n cap/\base<=g/\g<w.heap.size/\n<=cap:=by
 rcases h.2 with⟨_,h0⟩|⟨g,cap,cur,hv,hb,hg,hnc,_⟩
 ·exact absurd h0 hn
 ·exact⟨g,cap,hv,hb,lt_of_block hg,hnc⟩
def bys (n m:Nat):List UInt8:=(List.range (32 - m)).map fun j=>UInt8.ofNat (byn n (31 - j))
def pl (n m:Nat):List UInt8:=(bys n m).dropWhile (·==0)
theorem byn_lt (n i:Nat):byn n i<256:=Nat.mod_lt _ (by omega)
theorem zdG (n i:Nat):(UInt8.ofNat (byn n i)).toNat=byn n i:=UInt8.toNat_ofNat_of_lt' (byn_lt n i)
theorem zpj (n m:Nat):(pl n m).length<=32:=by
 unfold pl bys;have h1:=(List.dropWhile_suffix (fun x:UInt8=>x==0) (l:=(List.range (32 - m)).map fun j=>UInt8.ofNat (byn n (31 - j)))).length_le;rw[List.length_map,List.length_range] at h1;omega
def pcs (n m:Nat):List UInt8:=UInt8.ofNat (95+(pl n m).length)::pl n m
def pcode (n:Nat):List UInt8:=pcs n 0
theorem Yz:prog.underlying 26=some (.slice 5):=by kernel_rfl
theorem zkA:(prog.info? 5).map (·.size)=some 1:=by kernel_rfl
theorem zbU (l:List UInt8):∀v∈l.map u8v,v.oneCell'=true:=by
 intro v hv;obtain⟨b,_,rfl⟩:=List.mem_map.1 hv;rfl
theorem u8v_map (s:ByteArray):List.map (fun b:UInt8=>Value.int IntKind.u8 (b.toNat:Int)) s.data.toList=(bl s).map u8v:=rfl
theorem zjM {P:Program} (w:World) (ty g o dLen dCap k:Nat) (s:ByteArray) (cur:Array Value) (t:TypeId) {dT sT elem:TypeId} (hu:P.underlying dT=some (.slice elem)) (hs:(P.info? elem).map (·.size)=some 1)
  (hg:w.heap[g]? =some (.cells cur t (0,0))) (hk:k=Nat.min s.size dLen) (hfit:o+k<=cur.size):
  (Builtin.copy_ #[dT,sT] ty #[.slice (some ⟨g,o,none⟩) dLen dCap,.string s]).run P w=
   .ok (goInt k) (w.setRow g (cur.toList.take o++((bl s).map u8v).take k++cur.toList.drop (o+k)).toArray):=by
 subst hk
 have hlen:(((bl s).map u8v).take (Nat.min s.size dLen)).length=Nat.min s.size dLen:=by
  rw[List.length_take,List.length_map,zaT];exact Nat.min_eq_left (Nat.min_le_left _ _)
 have hst:=run_storeCells_at P g o t (((bl s).map u8v).take (Nat.min s.size dLen)) 0 cur w hg (by rw[hlen];simpa using hfit) (fun v hv=>zbU _ v (List.mem_of_mem_take hv));rw[hlen] at hst;simp only[Nat.add_zero] at hst;cases hq:P.info? elem with
 |none=>rw[hq] at hs;cases hs
 |some i=>
  simp[Builtin.copy_,run_underlying hu,Builtin.lenOf,Builtin.firstCells,sizeOf,typeInfo,hq];rw[u8v_map,hst];simp[Result.andThen]
theorem zja (w:World) (g o dLen dCap k:Nat) (s:ByteArray) (cur:Array Value) (t:TypeId) (hg:w.heap[g]? =some (.cells cur t (0,0))) (hk:k=Nat.min s.size dLen) (hfit:o+k<=cur.size) (ty sT:TypeId):
  (Builtin.copy_ #[26,sT] ty #[.slice (some ⟨g,o,none⟩) dLen dCap,.string s]).run prog w=
   .ok (goInt k) (w.setRow g (cur.toList.take o++((bl s).map u8v).take k++cur.toList.drop (o+k)).toArray):=zjM w ty g o dLen dCap k s cur t Yz zkA hg hk hfit
def zS (s:ByteArray) (p n:Nat):List UInt8:=((bl s).drop p).take n++List.replicate (n - (s.size - p)) 0
theorem zac (s:ByteArray) (p n:Nat):(zS s p n).length=n:=by
 unfold zS;rw[List.length_append,List.length_take,List.length_drop,List.length_replicate,zaT];omega
theorem zj1 (s:ByteArray) (p n:Nat) (h:s.size<=p):zS s p n=List.replicate n 0:=by
 unfold zS;rw[List.drop_of_length_le (by rw[zaT];exact h),List.take_nil,List.nil_append,show n - (s.size - p)=n by omega]
theorem zdi (n:Nat):(madeCells #[.int .u8 0] n).toList=(List.replicate n (0:UInt8)).map u8v:=by
 rw[List.map_replicate,List.eq_replicate_iff];unfold madeCells;refine⟨by simp,fun b hb=> ?_⟩;simp at hb;obtain⟨x,_,rfl⟩:=hb;rw[Nat.mod_one];rfl
theorem zgS (s:ByteArray) (m n k:Nat) (hm:m<=s.size) (hk:k=Nat.min (s.size - m) n):
  ((bl (s.extract m s.size)).map u8v).take k++((List.replicate n (0:UInt8)).map u8v).drop k=(zS s m n).map u8v:=by
 unfold zS;rw[bl_sub,List.take_of_length_le (l:=List.drop m (bl s)) (by rw[List.length_drop,zaT];omega),List.map_append,<-List.map_take,<-List.map_drop,List.drop_replicate,hk];congr 2
 ·by_cases h:s.size - m<=n
  ·rw[show Nat.min (s.size - m) n=s.size - m from Nat.min_eq_left h,List.take_of_length_le (by rw[List.length_drop,zaT];omega),List.take_of_length_le (by rw[List.length_drop,zaT];omega)]
  ·rw[show Nat.min (s.size - m) n=n from Nat.min_eq_right (by omega)]
 ·congr 1;by_cases h:s.size - m<=n
  ·rw[show Nat.min (s.size - m) n=s.size - m from Nat.min_eq_left h]
  ·rw[show Nat.min (s.size - m) n=n from Nat.min_eq_right (by omega)];omega
theorem zk9 {w:World} {base g n:Nat} {l:List UInt8} (hl:l.length=n) (hb:base<=g) (hg:w.heap[g]? =some (.cells (l.map u8v).toArray 5 (0,0))) (hn:n<=100000):Bys w base (.slice (some ⟨g,0,none⟩) n n) l:=by
 subst hl;refine⟨by simp,Or.inr ⟨g,l.length,(l.map u8v).toArray,rfl,hb,hg,Nat.le_refl _, ?_,by simp,by rw[Nat.mul_one];exact List.take_of_length_le (by simp)⟩⟩;unfold maxLen;omega
theorem zdE (s:ByteArray) (p n:Nat) (hs:s.size<=100000) (hn:n<=100000) (w:World):Calls prog 261 #[.string s,wv p,.int .i64 (n:Int)] w fun e w'=>∃v,e=.returned v/\Bys w' w.heap.size v (zS s (p%M) n)/\Below w.heap.size w w':=by
 have hmk:=zeY n (by omega);have hs1:=Zn ((W1.start w p).alloc (.cells (madeCells #[.int .u8 0] n) 5))
 have hg0:Hid (((w.alloc (wc p)).alloc (.cells (madeCells #[.int .u8 0] n) 5)).heap[w.heap.size+1]? =some (.cells (madeCells #[.int .u8 0] n) 5 (0,0))):=by
  have h:=heap_alloc_new (w.alloc (wc p)) (.cells (madeCells #[.int .u8 0] n) 5);rw[show(w.alloc (wc p)).heap.size=w.heap.size+1 by simp] at h;exact h
 by_cases hp:p%M<=s.size
 ·have HU:=Zn (zar p s.size (by omega) hp);go_enter func261,ntmps261;go_wp2_with fail
  go_at_call 284
  refine(HU.out _).mono ?_;rintro e w1 ⟨m,HMM,rfl,hb1⟩;have hle:m<=s.size:=by rw[HMM.out];exact hp
  obtain⟨k,HK⟩:∃k,Hid (k=Nat.min (s.size - m) n):=⟨_,rfl⟩;have hkn:k<=n:=by rw[HK.out];exact Nat.min_le_right _ _
  have hsz:(s.extract m s.size).size=s.size - m:=by rw[ByteArray.size_extract];omega
  have hg1:w1.heap[w.heap.size+1]? =some (.cells (madeCells #[.int .u8 0] n) 5 (0,0)):=(hb1.block _ (by simp)).trans hg0.out;have hmz:(madeCells #[.int .u8 0] n).size=n:=by rw[<-Array.length_toList,zdi];simp
  have hcp:=zja w1 (w.heap.size+1) 0 n n k (s.extract m s.size) (madeCells #[.int .u8 0] n) 5 hg1 (by rw[hsz];exact HK.out) (by omega);have HB:=Zn (hs1.out.call hb1).be;have HG:=Zn hg1;clear hg1 hb1 hsz hg0 hs1 HU hp hmk;go_wp2;go_ret;refine⟨_,rfl,zk9 (zac _ _ _) (by omega) ?_ hn,below_setRow HB.out (by omega) _⟩;rw[setRow_heap _ _ _ _ _ _ HG.out,zdi,zgS s m n k hle HK.out,HMM.out]
 ·have HU:=Zn (zaJ p s.size (by omega) (by omega));go_enter func261,ntmps261;go_wp2_with fail
  go_at_call 284
  refine(HU.out _).mono ?_;rintro e w1 ⟨rfl,hb1⟩;have hg1:w1.heap[w.heap.size+1]? =some (.cells (madeCells #[.int .u8 0] n) 5 (0,0)):=(hb1.block _ (by simp)).trans hg0.out;have HB:=Zn (hs1.out.call hb1).be;have HG:=Zn hg1;clear hg1 hb1 hg0 hs1 HU hmk;go_wp2;go_ret;refine⟨_,rfl,zk9 (zac _ _ _) (by omega) ?_ hn,HB.out⟩;rw[zj1 _ _ _ (by omega),<-zdi,Array.toArray_toList];exact HG.out
def ofL (l:List UInt8):Nat:=l.foldl (fun a b=>a*256+b.toNat) 0
def Rds (w:World) (v:Value) (l:List UInt8):Prop:=∃(ad:Option Addr) (cap:Nat),v=.slice ad l.length cap/\l.length<=cap/\(l≠[]->∃g o:Nat,ad=some ⟨g,o,none⟩/\g<w.heap.size/\∀i (h:i<l.length),w.cell? ⟨g,o+i,none⟩=some (u8v l[i]))
theorem Rds.below {w x:World} {v:Value} {l:List UInt8} (h:Rds w v l) (hb:Below w.heap.size w x):Rds x v l:=by
 obtain⟨ad,cap,h1,h2,h3⟩:=h;refine⟨ad,cap,h1,h2,fun hl=> ?_⟩;obtain⟨g,o,e,hg,hc⟩:=h3 hl;exact⟨g,o,e,Nat.lt_of_lt_of_le hg hb.size,fun i hi=>(hb.cell (by exact hg)).trans (hc i hi)⟩
theorem Bys.rds {w:World} {base:Nat} {v:Value} {l:List UInt8} (h:Bys w base v l):Rds w v l:=by
 rcases h.2 with⟨h1,h2⟩|⟨g,cap,cur,h1,h2,h3,h4,h5,h6,h7⟩
 ·exact⟨none,0,by rw[h1,h2],by omega,fun hl=>absurd (List.length_eq_zero_iff.1 h2) hl⟩
 ·subst h1;refine⟨some ⟨g,0,none⟩,cap,rfl,h4,fun _=>⟨g,0,rfl,lt_of_block h3,fun i hi=> ?_⟩⟩;have hc:=World.ownsRow.cellAt h i (by rw[Nat.mul_one];exact hi);rw[Nat.zero_add,hc,List.getElem?_map,List.getElem?_eq_getElem hi];rfl
theorem zmZ (l:List UInt8) (b:UInt8):ofL (l++[b])=ofL l*256+b.toNat:=by unfold ofL;rw[List.foldl_append];rfl
def zgC (l:List UInt8) (i:Nat):Nat:=ofL (l.take i)*2^(8*(l.length - i))
theorem zmB (l:List UInt8) (i u:Nat) (h:i<l.length) (hu:u=l.length - 1 - i):zgC l (i+1)=zgC l i+l[i].toNat*2^(8*u)/\zgC l i%2^(8*(u+1))=0:=by
 subst hu;unfold zgC;rw[List.take_succ_eq_append_getElem h,zmZ,show l.length - (i+1)=l.length - 1 - i by omega,show l.length - i=(l.length - 1 - i)+1 by omega,show 8*(l.length - 1 - i+1)=8*(l.length - 1 - i)+8 by omega,Nat.pow_add];refine⟨?_, ?_⟩
 ·rw[Nat.add_mul,Nat.mul_assoc,Nat.mul_comm 256]
 ·rw[Nat.mul_mod_left]
theorem zny (l:List UInt8):zgC l l.length=ofL l:=by unfold zgC;rw[List.take_length,Nat.sub_self];simp
theorem zl7 (l:List UInt8):zgC l 0=0:=by unfold zgC;rw[List.take_zero];show 0*_=0;rw[Nat.zero_mul]
theorem or_step (V b u:Nat) (hb:b<256) (hV:V%2^(8*(u+1))=0):V+b*2^(8*u)=V ||| b*2^(8*u):=by
 obtain⟨a,rfl⟩:∃a,V=2^(8*(u+1))*a:=⟨V/2^(8*(u+1)),by have:=Nat.div_add_mod V (2^(8*(u+1)));omega⟩;apply Nat.two_pow_add_eq_or_of_lt;rw[show 8*(u+1)=8+8*u by omega,Nat.pow_add];exact Nat.mul_lt_mul_of_pos_right hb (Nat.two_pow_pos _)
theorem zoq (b u j:Nat) (hb:b<256):b*2^(8*u)/2^(64*j)%18446744073709551616=if j=u/8 then b*2^(8*(u%8)) else 0:=by
 by_cases h:j=u/8
 ·rw[if_pos h,show 8*u=64*j+8*(u%8) by omega,Nat.pow_add,Nat.mul_left_comm,Nat.mul_div_cancel_left _ (Nat.two_pow_pos _)];apply Nat.mod_eq_of_lt;have h2:2^(8*(u%8))<=2^56:=Nat.pow_le_pow_right (by omega) (by omega);have h3:b*2^(8*(u%8))<=255*2^56:=Nat.mul_le_mul (by omega) h2;omega
 ·rw[if_neg h];by_cases h2:j<u/8
  ·obtain⟨d,hd⟩:∃d,8*u=64*j+(64+d):=⟨8*u - 64*j - 64,by omega⟩;rw[hd,Nat.pow_add,Nat.mul_left_comm,Nat.mul_div_cancel_left _ (Nat.two_pow_pos _),Nat.pow_add,<-Nat.mul_assoc,Nat.mul_comm b,Nat.mul_assoc];exact Nat.mul_mod_right _ _
  ·rw[Nat.div_eq_of_lt];refine Nat.lt_of_lt_of_le (Nat.mul_lt_mul_of_pos_right hb (Nat.two_pow_pos _)) ?_;rw[show(256:Nat)=2^8 from rfl,<-Nat.pow_add];exact Nat.pow_le_pow_right (by omega) (by omega)
theorem zo0 (V b u j:Nat) (hb:b<256) (hV:V%2^(8*(u+1))=0):za (V+b*2^(8*u)) j=if j=u/8 then bits .or .u64 (za V j) ((b*2^(8*(u%8)):Nat):Int) else za V j:=by
 rw[or_step V b u hb hV,<-zdc]
 have e:za (b*2^(8*u)) j=((if j=u/8 then b*2^(8*(u%8)) else 0:Nat):Int):=by
  unfold za;rw[zoq b u j hb]
 rw[e];by_cases h:j=u/8
 ·rw[if_pos h,if_pos h]
 ·rw[if_neg h,if_neg h];unfold za;rw[bits_or_u64_nat _ _ (Nat.mod_lt _ (by omega)) (by omega),Nat.or_zero]
theorem zax (l:List UInt8) (hl:l.length<=32) (v:Value) (w:World) (hv:Rds w v l):Calls prog 260 #[v] w fun e w'=>e=.returned (wv (ofL l))/\Below w.heap.size w w':=by
 obtain⟨ad,cap,rfl,hcap,hc⟩:=hv;go_enter func260,ntmps260;go_wp2
 go_loopw [9] (fun t9 wr=>∃i:Nat,i<=l.length/\t9=.int .i64 i/\wr.rowIs w.heap.size 24 4 (zu fun _=>0)/\
   wr.rowIs (w.heap.size+1) 24 4 (zu (za (zgC l i)))/\Below w.heap.size w wr)
   (fun t9 _=>l.length - (intOf t9).toNat)
 case atStart=>
  refine⟨0,by omega,rfl,(zj (fun _=>0) rfl rfl rfl rfl rfl).alloc _, ?_,bal (bal (Below.refl _ _) _) _⟩;rw[zl7];exact zj (za 0) (by simp) (by decide) (by decide) (by decide) (by decide)
 case round=>
  obtain⟨i,hi,rfl,hrz,hra,hbel⟩:=hrel;by_cases hlt:i<l.length
  ·have d:decide ((i:Int)<(l.length:Int))=true:=decide_eq_true (by omega);obtain⟨g,o,rfl,hg,hcell⟩:=hc (by intro e;rw[e] at hlt;cases hlt);have c0:wr.cell? ⟨g,o+i,none⟩=some (u8v l[i]):=(hbel.cell (by exact hg)).trans (hcell i hlt);obtain⟨u,hu⟩:∃u:Nat,(l.length:Int) - 1 - (i:Int)=(u:Int):=⟨l.length - 1 - i,by omega⟩;obtain⟨hst,hz⟩:=zmB l i u hlt (by omega);have hb:l[i].toNat<256:=l[i].toNat_lt;unfold u8v at c0;generalize l[i].toNat=b at*;have hu32:u<32:=by omega
   clear hc hcell;have ca:=hra.cell (i:=u/8) (by omega);have fa:=hra.frozen (u/8);simp only[zu] at ca;go_wp2
   go_region
   all_goals go_wp2
   all_goals go_roundw
   case rel=>
    refine⟨i+1,by omega,by go_num,(hrz.setOther (by simp) _).drew, ?_,(hbel.setCell (by simp) _).drew⟩;refine World.rowIs.drew ((hra.set (u/8) _).congr fun j hj=> ?_);show(if j=u/8 then _ else _)=_;simp only[zu];rw[hst,zo0 _ b u j hb hz];by_cases h:j=u/8
    ·rw[if_pos h,if_pos h,h];congr 2
     have h2:b*2^(8*(u%8))<18446744073709551616:=by
      have h2:2^(8*(u%8))<=2^56:=Nat.pow_le_pow_right (by omega) (by omega);have h3:b*2^(8*(u%8))<=255*2^56:=Nat.mul_le_mul (by omega) h2;omega
     rw[zcH,Nat.mul_comm (u%8) 8,Nat.mod_eq_of_lt h2]
    ·rw[if_neg h,if_neg h]
   case measure=>simp[intOf];omega
  ·obtain rfl:i=l.length:=by omega
   rw[zny] at hra;obtain⟨c0,c1,c2,c3⟩:=ze hra;obtain⟨z0,z1,z2,z3⟩:=ze hrz;have f0:=hrz.frozen;go_wp2;obtain⟨q0,q1,q2,q3⟩:=ze (ym hrz (za (ofL l) 0) (za (ofL l) 1) (za (ofL l) 2) (za (ofL l) 3));simp only[zbc] at q0 q1 q2 q3;refine bodyPost_ret (v:=wv (ofL l)) (by simp[results,results260,go_sem,q0,q1,q2,q3]) rfl ⟨rfl, ?_⟩;exact(((hbel.setCell (by simp) _).setCell (by simp) _).setCell (by simp) _).setCell (by simp) _
section
def ZG (n:Nat) (f:Nat->Value):List Value:=(List.range n).map f
theorem zcs (n:Nat) (f:Nat->Value):(ZG n f).length=n:=by simp[ZG]
theorem zix {P:Program} {x:World} {b n:Nat} {T':TypeId} {f:Nat->Value} (hr:x.rowIs b T' n f):(loadCells ⟨b,0,none⟩ n).run P x=.ok (ZG n f).toArray x:=by
 have h:=run_loadCells_list (P:=P) x ⟨b,0,none⟩ (ZG n f) (fun j v hj=>by
  have hj2:j<n:=by
   have:=(List.getElem?_eq_some_iff.1 hj).1;rwa[zcs] at this
  have e:(⟨b,0,none⟩:Addr).add j=⟨b,j,none⟩:=by simp[Addr.add,eq_comm]
  rw[e,hr.cell hj2,<-hj];simp[ZG,List.getElem?_map,List.getElem?_range hj2])
 rwa[zcs] at h
variable {s:Act} {x:World} {pos:String} {af:Array Edge} {g:Option (Nat×Bool)} {K:Act->World->Prop} {Q:Exit->Act->World->Prop}
theorem zng {T T':TypeId} {n:Nat} {f:Nat->Value} {ty:TypeId} (t d b:Nat) (hA:∀w,(isAgg T).run prog w=.ok true w) (hS:∀w,(sizeOf T).run prog w=.ok n w)
  (he:s.tmps.getD t undef=.pointer (some ⟨b,0,none⟩)) (hr:x.rowIs b T' n f) (hK:K (s.put (some d) (.agg (ZG n f).toArray)) x):
  Oper.wp prog ⟨some d,.load T (.tmp t),ty,pos,af,g⟩ s x K Q:=by
 have he2:s.eval (.tmp t)=.pointer (some ⟨b,0,none⟩):=he;have hl:=zix (P:=prog) hr;unfold Oper.wp;simp only[execOp,he2,Instr.loadAt,Instr.sureAddr,loadVar,Sem.run_bind,Sem.run_pure,Result.andThen_ok,hA,hS,if_true,hl];exact hK
theorem zgb {T T':TypeId} {n:Nat} {f:Nat->Value} {cs:List Value} {ty:TypeId} (t u b:Nat) (hS:∀w,(sizeOf T).run prog w=.ok n w) (hn:cs.length=n) (h1:∀v∈cs,v.oneCell'=true)
  (he:s.tmps.getD t undef=.pointer (some ⟨b,0,none⟩)) (hu:s.tmps.getD u undef=.agg cs.toArray) (hr:x.rowIs b T' n f) (hK:K (s.put none undef) (x.setRow b cs.toArray)):
  Oper.wp prog ⟨none,.store T (.tmp t) (.tmp u),ty,pos,af,g⟩ s x K Q:=by
 have he2:s.eval (.tmp t)=.pointer (some ⟨b,0,none⟩):=he;have hu2:s.eval (.tmp u)=.agg cs.toArray:=hu;obtain⟨c,hb,hc,_⟩:=hr;have hst:=run_storeCells_at prog b 0 T' cs 0 c x hb (by omega) h1;rw[Nat.zero_add,Nat.zero_add,List.take_zero,List.nil_append,List.drop_of_length_le (by rw[Array.length_toList];omega),List.append_nil] at hst;have hcs:(Value.agg cs.toArray).cells=cs.toArray:=rfl;unfold Oper.wp;simp only[execOp,he2,hu2,Instr.storeAt,Instr.sureAddr,storeVar,Sem.run_bind,Sem.run_pure,Result.andThen_ok,hS,hcs,List.size_toArray,hn,ne_eq,not_true_eq_false,if_false,hst];exact hK
theorem ziK {P:Program} {fn:Func} {ts:Array Value} {a:Nat} {T:TypeId} {ad:Addr} {n:Nat} {cs:Array Value} {W:World} (hr:fn.results=#[.cell a T]) (ha:ts.getD a undef=.pointer (some ad))
  (hA:∀w,(isAgg T).run P w=.ok true w) (hS:∀w,(sizeOf T).run P w=.ok n w) (hl:(loadCells ad n).run P W=.ok cs W):(results fn ts).run P W=.ok (.agg cs) W:=by
 rw[Array.getD_eq_getD_getElem?] at ha;unfold results;rw[hr];simp[ha,asAddr,loadVar,hA,hS,hl]
def arr32 (n:Nat):Value:=.agg ((bys n 0).map u8v).toArray
theorem zdK (n:Nat) (w:World):Calls prog 283 #[wv n] w fun e w'=>e=.returned (arr32 n)/\Below w.heap.size w w':=by
 go_enter func283,ntmps283;go_wp2
 go_loopw [6] (fun t6 wr=>∃i:Nat,i<=32/\t6=.int .i64 i/\wr.rowIs w.heap.size 24 4 (zu (za n))/\wr.rowIs (w.heap.size+1) 298 32 (u8s fun _=>0)/\
   wr.rowIs (w.heap.size+1+1) 298 32 (u8s fun j=>if j<i then byn n (31 - j) else 0)/\Below w.heap.size w wr)
   (fun t6 _=>32 - (intOf t6).toNat)
 case atStart=>
  refine⟨0,by omega,rfl,((zj (za n) rfl rfl rfl rfl rfl).alloc _).alloc _, ?_, ?_,bal (bal (bal (Below.refl _ _) _) _) _⟩
  ·refine World.rowIs.alloc ?_ _
   have h:=World.rowIs_alloc (w.alloc (wc n)) (Array.replicate 32 (.int .u8 0)) 298 (u8s fun _=>0) (fun i hi=>by
    have hi2:i<32:=by simpa using hi
    simp[u8s,hi2])
   have e:(w.alloc (wc n)).heap.size=w.heap.size+1:=by simp
   rw[e] at h;exact h
  ·have h:=World.rowIs_alloc ((w.alloc (wc n)).alloc (.cells (Array.replicate 32 (.int .u8 0)) 298)) (Array.replicate 32 (.int .u8 0)) 298 (u8s fun j=>if j<0 then byn n (31 - j) else 0) (fun i hi=>by
    have hi2:i<32:=by simpa using hi
    simp[u8s,hi2])
   have e:((w.alloc (wc n)).alloc (.cells (Array.replicate 32 (.int .u8 0)) 298)).heap.size=w.heap.size+1+1:=by simp
   rw[e] at h;exact h
 case round=>
  obtain⟨i,hi,rfl,hrw,hrz,hra,hbel⟩:=hrel;by_cases hlt:i<32
  ·have d:decide ((i:Int)<32)=true:=decide_eq_true (by omega);obtain⟨u,hu⟩:∃u:Nat,(31:Int) - (i:Int)=(u:Int):=⟨31 - i,by omega⟩;have hu32:u<32:=by omega
   have cw:=hrw.cell (i:=u/8) (by omega);have ca:=hra.cell hlt;have fa:=hra.frozen i;have hby:=byn_lb n (u/8) (u%8) (by omega);rw[show 8*(u/8)+u%8=u by omega] at hby;simp only[zu,limb_lb] at cw;simp only[u8s] at ca;go_wp2;refine⟨⟨i+1,by omega,by go_num,hrw.setOther (by simp;omega) _,hrz.setOther (by simp) _,(hra.set i _).congr fun j hj=> ?_,hbel.setCell (by simp;omega) _⟩,by simp[intOf];omega⟩;show(if j=i then _ else _)=_;simp only[u8s];by_cases h:j=i
   ·rw[if_pos h,if_pos (by omega),show 31 - j=u by omega,<-hby,Nat.mul_comm (u%8) 8];congr 1
   ·rw[if_neg h];by_cases h2:j<i
    ·rw[if_pos h2,if_pos (by omega)]
    ·rw[if_neg h2,if_neg (by omega)]
  ·obtain rfl:i=32:=by omega
   have d:decide (((32:Nat):Int)<32)=false:=by decide
   have hcells:Hid (ZG 32 (u8s fun j=>if j<32 then byn n (31 - j) else 0)=(bys n 0).map u8v):=by
    show _=_;unfold ZG bys;rw[List.map_map];refine List.map_congr_left fun j hj=> ?_
    have hj2:j<32:=List.mem_range.1 hj;simp only[u8s,if_pos hj2,Function.comp];unfold u8v;rw[zdG]
   go_upto_region 8 with fail
   refine wp_region_lit ?_;refine wpList_plain rfl fun K hK=> ?_
   refine zng 3 23 (w.heap.size+1+1) (fun w=>by kernel_rfl) (fun w=>by kernel_rfl) rfl hra (hK _ _ ?_);rw[hcells.out];refine wpList_plain rfl fun K2 hK2=> ?_
   refine zgb (cs:=(bys n 0).map u8v) 2 23 (w.heap.size+1) (fun w=>by kernel_rfl) (by simp[bys]) (zbU _) rfl rfl hrz (hK2 _ _ ?_);refine wpList_nil ?_
   have hrow:(wr.setRow (w.heap.size+1) ((bys n 0).map u8v).toArray).heap[w.heap.size+1]? =some (.cells ((bys n 0).map u8v).toArray 298 (0,0)):=by
    obtain⟨c,hb,_⟩:=hrz;exact setRow_heap wr _ _ _ _ _ hb
   have HB:Hid (Below w.heap.size w (wr.setRow (w.heap.size+1) ((bys n 0).map u8v).toArray)):=below_setRow hbel (by omega) _;generalize wr.setRow (w.heap.size+1) ((bys n 0).map u8v).toArray=W at*
   have HR:Hid ((loadCells ⟨w.heap.size+1,0,none⟩ 32).run prog W=.ok ((bys n 0).map u8v).toArray W):=by
    have h:=run_loadCells_list (P:=prog) W ⟨w.heap.size+1,0,none⟩ ((bys n 0).map u8v) (fun j v hj=>by
     have e:(⟨w.heap.size+1,0,none⟩:Addr).add j=⟨w.heap.size+1,j,none⟩:=by simp[Addr.add,eq_comm]
     rw[e];simp only[World.cell?,hrow];simpa using hj)
    rw[show((bys n 0).map u8v).length=32 by simp[bys]] at h;exact h
   clear hrow hra hrz hrw hbel hcells;go_wp2;exact bodyPost_ret (v:=arr32 n) (ziK results283 rfl (fun w=>by kernel_rfl) (fun w=>by kernel_rfl) HR.out) rfl ⟨rfl,HB.out⟩
theorem zb2 {P:Program} {T e:TypeId} {n i:Nat} {A:Array Value} {v:Value} (hu:P.underlying T=some (.array n e)) (hS:∀w,(sizeOf e).run P w=.ok 1 w) (hA:∀w,(isAgg e).run P w=.ok false w) (hi:i<n) (ha:A[i]? =some v) (w:World):
  (Instr.index T (.agg A) (.int .i64 (i:Int))).run P w=.ok v w:=by
 have h2:(i:Int)<(n:Int):=by omega
 simp[Instr.index,asIntOf,run_underlying hu,hS,hA,part,h2,ha];intro h;omega
theorem zkV:prog.underlying 298=some (.array 32 5):=by kernel_rfl
theorem zc9:∀(l:List UInt8) (i:Nat),(∀j (h:j<l.length),j<i->l[j]=0)->(∀h:i<l.length,l[i]≠0)->(l.dropWhile (·==0)).length=l.length - i
 |[],i,_,_=>by simp
 |b::l,0,h1,h2=>by
  have h:=h2 (by simp);have e:(b==0)=false:=by simpa using h
  rw[List.dropWhile_cons,e];rfl
 |b::l,i+1,h1,h2=>by
  have h:=h1 0 (by simp) (by omega);have e:(b==0)=true:=by simpa using h
  rw[List.dropWhile_cons,e,if_pos rfl,zc9 l i (fun j hj hi=>h1 (j+1) (by simp;omega) (by omega)) (fun hi=>h2 (by simp;omega)),List.length_cons];omega
theorem znV (n j:Nat) (h:j<(bys n 0).length):(bys n 0)[j]=UInt8.ofNat (byn n (31 - j)):=by simp[bys]
theorem pl_at (n i:Nat) (h1:∀j,j<i->byn n (31 - j)=0) (h2:i<32->byn n (31 - i)≠0):(pl n 0).length=32 - i:=by
 have hl:(bys n 0).length=32:=by simp[bys]
 unfold pl;rw[zc9 (bys n 0) i,hl]
 ·intro j hj hi;rw[znV,h1 j hi];rfl
 ·intro hi e;rw[znV] at e;have:=congrArg UInt8.toNat e;rw[zdG] at this;exact h2 (by omega) this
theorem zbq (n:Nat) (w:World):Calls prog 258 #[wv n] w fun e w'=>e=.returned (.int .i64 ((pl n 0).length:Int))/\Below w.heap.size w w':=by
 have HT:=Zn (zdK n);have hs:=W1.start w n;go_enter func258,ntmps258;go_wp2_with fail
 refine(HT.out _).mono ?_;rintro e w1 ⟨rfl,hb1⟩;replace hs:=Zn (hs.call hb1).be;unfold arr32;obtain⟨A,hA⟩:∃A,A=((bys n 0).map u8v).toArray:=⟨_,rfl⟩;rw[<-hA];have hsz:A.size=32:=by rw[hA];simp[bys]
 have hat:Hid (∀i,i<32->A[i]? =some (.int .u8 (byn n (31 - i):Int))):=fun i hi=>by
  rw[hA];simp only[List.getElem?_toArray,bys,List.map_map,List.getElem?_map,List.getElem?_range hi,Option.map_some,Function.comp,u8v,zdG,Nat.sub_zero]
 clear hA hb1 HT;go_wp2
 go_loopw [7] (fun t7 wr=>∃i:Nat,i<=32/\t7=.int .i64 i/\Hid (∀j,j<i->byn n (31 - j)=0)/\Hid (wr=w1))
   (fun t7 _=>32 - (intOf t7).toNat)
 case atStart=>exact⟨0,by omega,rfl,fun j hj=>by omega,rfl⟩
 case round=>
  obtain⟨i,hi,rfl,HZ,HW⟩:=hrel;obtain rfl:=HW.out;by_cases hlt:i<32
  ·have d:decide ((i:Int)<32)=true:=decide_eq_true (by omega);have ha:=hat.out i hlt;by_cases hz:byn n (31 - i)=0
   ·rw[hz] at ha
    have HN:Hid (∀j,j<i+1->byn n (31 - j)=0):=fun j hj=>by
     by_cases e:j=i
     ·rw[e];exact hz
     ·exact HZ.out j (by omega)
    have hix:=zb2 zkV (fun w=>by kernel_rfl) (fun w=>by kernel_rfl) hlt ha;clear hz HZ HW;go_wp2;refine⟨⟨i+1,by omega,by go_num,HN,by first|exact rfl|exact trivial⟩,by simp[intOf];omega⟩
   ·have d2:((byn n (31 - i):Int) !=0)=true:=by simp;exact hz
    have HR:=Zn (pl_at n i HZ.out (fun _=>hz));have hix:=zb2 zkV (fun w=>by kernel_rfl) (fun w=>by kernel_rfl) hlt ha;clear hz HZ HW;go_wp2;go_ret;refine⟨?_,hs.out⟩;rw[HR.out];exact congrArg (fun z=>Ending.returned (Value.int .i64 z)) (by omega)
  ·obtain rfl:i=32:=by omega
   have d:decide (((32:Nat):Int)<32)=false:=by decide
   have HR:=Zn (pl_at n 32 HZ.out (fun h=>absurd h (by omega)));clear HZ HW;go_wp2;go_ret;exact⟨by rw[HR.out];rfl,hs.out⟩
end
def named (s:ByteArray):Option Nat:=((lk tabRec (bl s)).orElse fun _=>lk tabCmp (bl s)).orElse fun _=>(lk tabSur (bl s)).orElse fun _=>(lk tabKee (bl s)).orElse fun _=>inRow s
section
section
variable {s:Act} {x:World} {pos:String} {af:Array Edge} {g:Option (Nat×Bool)} {K:Act->World->Prop} {Q:Exit->Act->World->Prop}
def One (c:Int) (v:Value) (x:World):Prop:=∃b,v=.slice (some ⟨b,0,none⟩) 1 1/\x.rowIs b 5 1 (fun _=>.int .u8 c)
end
end
def nsA:List ByteArray:=[⟨#[83,84,79,80]⟩,⟨#[65,68,68]⟩,⟨#[77,85,76]⟩,⟨#[83,85,66]⟩,⟨#[68,73,86]⟩,⟨#[83,68,73,86]⟩,⟨#[77,79,68]⟩,⟨#[83,77,79,68]⟩,⟨#[65,68,68,77,79,68]⟩,⟨#[77,85,76,77,79,68]⟩,⟨#[69,88,80]⟩,⟨#[83,73,71,78,69,88,84,69,78,68]⟩]
def nsB:List ByteArray:=[⟨#[76,84]⟩,⟨#[71,84]⟩,⟨#[83,76,84]⟩,⟨#[83,71,84]⟩,⟨#[69,81]⟩,⟨#[73,83,90,69,82,79]⟩,⟨#[65,78,68]⟩,⟨#[79,82]⟩,⟨#[88,79,82]⟩,⟨#[78,79,84]⟩,⟨#[66,89,84,69]⟩,⟨#[83,72,76]⟩,⟨#[83,72,82]⟩,⟨#[83,65,82]⟩]
def nsC:List ByteArray:=[⟨#[65,68,68,82,69,83,83]⟩,⟨#[66,65,76,65,78,67,69]⟩,⟨#[]⟩,⟨#[67,65,76,76,69,82]⟩,⟨#[67,65,76,76,86,65,76,85,69]⟩,⟨#[67,65,76,76,68,65,84,65,76,79,65,68]⟩,⟨#[67,65,76,76,68,65,84,65,83,73,90,69]⟩,⟨#[67,65,76,76,68,65,84,65,67,79,80,89]⟩,⟨#[67,79,68,69,83,73,90,69]⟩,⟨#[67,79,68,69,67,79,80,89]⟩,⟨#[]⟩,⟨#[]⟩,⟨#[]⟩,⟨#[82,69,84,85,82,78,68,65,84,65,83,73,90,69]⟩,⟨#[82,69,84,85,82,78,68,65,84,65,67,79,80,89]⟩]
def nsD:List ByteArray:=[⟨#[80,79,80]⟩,⟨#[77,76,79,65,68]⟩,⟨#[77,83,84,79,82,69]⟩,⟨#[77,83,84,79,82,69,56]⟩,⟨#[83,76,79,65,68]⟩,⟨#[83,83,84,79,82,69]⟩,⟨#[74,85,77,80]⟩,⟨#[74,85,77,80,73]⟩,⟨#[80,67]⟩,⟨#[77,83,73,90,69]⟩,⟨#[71,65,83]⟩,⟨#[74,85,77,80,68,69,83,84]⟩,⟨#[84,76,79,65,68]⟩,⟨#[84,83,84,79,82,69]⟩,⟨#[77,67,79,80,89]⟩]
def tabZ:List (List UInt8×Nat):=[([67,65,76,76],241),([82,69,84,85,82,78],243),([68,69,76,69,71,65,84,69,67,65,76,76],244),([83,84,65,84,73,67,67,65,76,76],250),([82,69,86,69,82,84],253)]
def fnd (ns:List ByteArray) (l:List UInt8):Nat->Nat->Option Nat
 |0,_=>none
 |f+1,i=>if bl (ns.getD i ⟨#[]⟩)=l then some i else fnd ns l f (i+1)
def rowR (l:List UInt8):Nat->Nat->Option Nat
 |0,_=>none
 |f+1,i=>if l=bl ((⟨#[68,85,80]⟩:ByteArray)++dcs i) then some (127+i) else if l=bl ((⟨#[83,87,65,80]⟩:ByteArray)++dcs i) then some (143+i) else if i<=5/\l=bl ((⟨#[76,79,71]⟩:ByteArray)++dcs (i - 1)) then some (159+i) else rowR l f (i+1)
def rnm (s:ByteArray):Int:=match fnd nsA (bl s) 12 0 with
 |some i=>(0:Int)+i
 |none=>match fnd nsB (bl s) 14 0 with
  |some i=>(16:Int)+i
  |none=>match fnd nsC (bl s) 15 0 with
   |some i=>(48:Int)+i
   |none=>match fnd nsD (bl s) 15 0 with
    |some i=>(80:Int)+i
    |none=>match rowR (bl s) 16 1 with
     |some v=>(v:Int)
     |none=>match lk tabZ (bl s) with
      |some v=>(v:Int)
      |none=> -1
def namedL (l:List UInt8):Option Nat:=((lk tabRec l).orElse fun _=>lk tabCmp l).orElse fun _=>(lk tabSur l).orElse fun _=>(lk tabKee l).orElse fun _=>(rowA l 16 0).orElse fun _=>rowB l 5 0
def rnmL (l:List UInt8):Int:=match fnd nsA l 12 0 with
 |some i=>(0:Int)+i
 |none=>match fnd nsB l 14 0 with
  |some i=>(16:Int)+i
  |none=>match fnd nsC l 15 0 with
   |some i=>(48:Int)+i
   |none=>match fnd nsD l 15 0 with
    |some i=>(80:Int)+i
    |none=>match rowR l 16 1 with
     |some v=>(v:Int)
     |none=>match lk tabZ l with
      |some v=>(v:Int)
      |none=> -1
def orm (o:Option Nat):Int:=match o with
 |some v=>(v:Int)
 |none=> -1
def rowKeys:List (List UInt8):=((List.range 16).map fun i=>bl (dup i))++(((List.range 16).map fun i=>bl (swp i))++(List.range 5).map fun i=>bl (lgs i))
def keys:List (List UInt8):=(tabRec.map Prod.fst)++((tabCmp.map Prod.fst)++((tabSur.map Prod.fst)++((tabKee.map Prod.fst)++rowKeys)))
def RunN (s:ByteArray) (b:Nat):Nat->Nat->Prop
 |0,e=>e=b
 |n+1,e=>∃c,RunN s b n c/\c<s.size/\nx s c≠0/\e=c+nx s c
def Run (s:ByteArray) (b e:Nat):Prop:=∃n,RunN s b n e
def Whole (s:ByteArray):Prop:=Run s 0 s.size
-- names of instructions
def keyOk (l:List UInt8):Bool:=decide (65<=(l.getD 0 0).toNat)&&decide ((l.getD 0 0).toNat<=90)&&decide ((namedL l).getD 0<256)
-- an item
def col:ByteArray:=⟨#[58]⟩
def att:ByteArray:=⟨#[64]⟩
structure It where
 k:Nat
 nm:ByteArray
 cd:List UInt8
 fl:Nat
def itN (s:ByteArray):It:=match named s with
 |some v=>⟨0,⟨#[]⟩,[UInt8.ofNat v],0⟩
 |none=>match nres (nt s) (nb s) with
  |none=>⟨0,⟨#[]⟩,[],2⟩
  |some (n,g)=>if g then⟨0,⟨#[]⟩,[],4⟩ else⟨0,⟨#[]⟩,pcode n,0⟩
def isL (s:ByteArray):Bool:=sf s col&&nm (cutS s col)
def isA (s:ByteArray):Bool:=pf s att&&nm (cutP s att)
def itm (s:ByteArray):It:=if isL s then⟨1,cutS s col,[91],0⟩ else if isA s then⟨2,cutP s att,[97,0,0],0⟩ else itN s
def sepB (c:Nat):Bool:=decide (c=32\/c=9\/c=10\/c=59)
def rmk (rm:Bool) (c:Nat):Bool:=decide (c=59)||(rm&&decide (c≠10))
def fin (s:ByteArray) (p:Nat) (cur:Option (Nat×Nat)):List (ByteArray×Nat):=match cur with
 |some (b,a)=>[(s.extract b p,a)]
 |none=>[]
def splF (s:ByteArray):Nat->Nat->Nat->Bool->Option (Nat×Nat)->List (ByteArray×Nat)
 |0,p,_,_,cur=>fin s p cur
 |f+1,p,k,rm,cur=>if p<s.size then
   (if (rm||sepB (byt s p)) then fin s p cur++splF s f (p+nx s p) (k+1) (rmk rm (byt s p)) none
    else splF s f (p+nx s p) (k+1) (rmk rm (byt s p)) (some (cur.getD (p,k))))
  else fin s p cur
def spl (s:ByteArray):List (ByteArray×Nat):=splF s s.size 0 0 false none
def Fit (s:ByteArray) (x:ByteArray×Nat):Prop:=Whole x.1/\0<x.1.size/\x.1.size<=s.size/\x.2<=s.size
-- one rune of a text
def cells2 (l:List (ByteArray×Nat)):List Value:=l.flatMap fun x=>[.string x.1,.int .i64 (x.2:Int)]
def laidV (i:It):Value:=.tuple #[.string ⟨i.cd.toArray⟩,.string (if i.k=1 then i.nm else⟨#[]⟩),.string (if i.k=2 then i.nm else⟨#[]⟩),.int .i64 (if i.fl=0 then 0 else if i.fl=2 then 1 else 2)]
def numN (o:Option (Nat×Bool)) (e:Ending):Prop:=match o with
 |none=>∃r g,e=.returned (.tuple #[wv r,.bool false,.bool g])
 |some (n,g)=>e=.returned (.tuple #[wv n,.bool true,.bool g])
def six (a b c d e f:Value):Nat->Value:=fun i=>if i=0 then a else if i=1 then b else if i=2 then c else if i=3 then d else if i=4 then e else f
theorem k6 {i:Nat} (h:i<6):i=0\/i=1\/i=2\/i=3\/i=4\/i=5:=by omega
theorem ownsRow_set {w:World} {base e size n:Nat} {v:Value} {xs:List Value} (h:w.ownsRow base e size v n xs) {p:Addr} (hp:p.block<base) (u:Value):(w.setCell p u).ownsRow base e size v n xs:=by
 refine⟨h.1,h.2.imp id fun⟨g,cap,cur,h1,h2,h3,h4⟩=>⟨g,cap,cur,h1,h2, ?_,h4⟩⟩;rw[Below.heap_setCell w p u g (by omega)];exact h3
theorem zm {w w':World} {base e size n:Nat} {v:Value} {xs:List Value} (h:w.ownsRow base e size v n xs) (hb:Below w.heap.size w w'):w'.ownsRow base e size v n xs:=by
 refine⟨h.1,h.2.imp id fun⟨g,cap,cur,h1,h2,h3,h4⟩=>⟨g,cap,cur,h1,h2, ?_,h4⟩⟩;rw[hb.block g (lt_of_block h3)];exact h3
def itV (i:It) (v:Value) (a p:Nat):Value:=.agg #[.int .i64 (i.k:Int),.string i.nm,v,.int .i64 (i.fl:Int),.int .i64 (a:Int),.int .i64 (p:Int)]
structure RI (w x:World):Prop where
 r:x.rowIs w.heap.size 122 6 (six (.int .i64 0) (.string ⟨#[]⟩) (.slice none 0 0) (.int .i64 0) (.int .i64 0) (.int .i64 0))
 be:Below w.heap.size w x
def Got (s:ByteArray) (w:World) (e:Ending) (w':World):Prop:=∃v,e=.returned (itV (itm s) v 0 0)/\Bys w' w.heap.size v (itm s).cd/\Below w.heap.size w w'
section
open Go.RowKit Go.Lib
structure SP (w:World) (s:ByteArray) (p:Nat) (v:Value) (acc:List (ByteArray×Nat)) (x:World):Prop where
 it:x.heap[w.heap.size]? =some (.stringIter s p)
 ow:x.ownsRow (w.heap.size+1) 171 2 v acc.length (cells2 acc)
 be:Below w.heap.size w x
def bgn (cur:Option (Nat×Nat)) (a:Nat) (bi:Int) (p:Nat):Prop:=(bi= -1/\cur=none)\/∃b:Nat,bi=(b:Int)/\b<p/\cur=some (b,a)
end
section
open Go.RowKit Go.Lib
def nwd (s:ByteArray) (cur:Option (Nat×Nat)) (a:Nat) (x:ByteArray) (p:Nat):Prop:=(x=⟨#[]⟩/\cur=none)\/∃b:Nat,x=s.extract b p/\b<p/\cur=some (b,a)
end
structure Ri where
 i:It
 a:Nat
 p:Nat
def rit:List (ByteArray×Nat)->Nat->List Ri
 |[],_=>[]
 |x::r,p=>⟨itm x.1,x.2,p⟩::rit r (p+(itm x.1).cd.length)
def lkp (n:ByteArray):List Ri->Option Nat
 |[]=>none
 |y::r=>if y.i.k=1/\y.i.nm=n then some y.p else lkp n r
def flt (lb:ByteArray->Option Nat) (y:Ri):Nat:=
 if y.i.fl≠0 then y.i.fl else if y.i.k=1/\lb y.i.nm≠some y.p then 3 else if y.i.k=2/\lb y.i.nm=none then 3 else 0
def cwt (lb:ByteArray->Option Nat) (y:Ri):List UInt8:=
 if y.i.k=2 then[97,UInt8.ofNat ((lb y.i.nm).getD 0/256),UInt8.ofNat ((lb y.i.nm).getD 0%256)] else y.i.cd
def rn2 (lb:ByteArray->Option Nat):List Ri->List UInt8->List UInt8 ⊕ (Nat×Nat)
 |[],c=>.inl c
 |y::r,c=>if flt lb y=0 then rn2 lb r (c++cwt lb y) else .inr (flt lb y,y.a)
def rlist (s:ByteArray):List Ri:=rit (spl s) 0
def labs (s:ByteArray) (n:ByteArray):Option Nat:=lkp n (rlist s)
def asm (s:ByteArray):ByteArray×Nat×Nat:=
 if 2000<s.size then(⟨#[]⟩,2,0)
 else if (cnt s).2=false then(⟨#[]⟩,2,(cnt s).1)
 else match rn2 (labs s) (rlist s) [] with
  |.inr (e,a)=>(⟨#[]⟩,e,a)
  |.inl c=>if 1000<c.length then(⟨#[]⟩,4,(cnt s).1) else(⟨c.toArray⟩,0,0)
def asmV (s:ByteArray):Value:=.tuple #[.string (asm s).1,.int .i64 ((asm s).2.1:Int),.int .i64 ((asm s).2.2:Int)]
section
open Go.RowKit Go.Lib
def cells6 (l:List (Ri×Value)):List Value:=l.flatMap fun y=>[.int .i64 (y.1.i.k:Int),.string y.1.i.nm,y.2,.int .i64 (y.1.i.fl:Int),.int .i64 (y.1.a:Int),.int .i64 (y.1.p:Int)]
def two (a b:Value):Nat->Value:=fun i=>if i=0 then a else b
structure IR (base:Nat) (acc:List (Ri×Value)) (t:Value) (x:World):Prop where
 ow:x.ownsRow base 122 6 t acc.length (cells6 acc)
 cd:∀y∈acc,Bys x base y.2 y.1.i.cd
theorem Zk {w:World} {b e size n:Nat} {v:Value} {xs:List Value} (h:w.ownsRow b e size v n xs):∃(ad:Option Addr) (cp:Nat),v=.slice ad n cp:=by
 rcases h.2 with⟨hv,h0⟩|⟨g,cap,cur,hv,_⟩
 ·subst h0;exact⟨_,_,hv⟩
 ·exact⟨_,_,hv⟩
theorem zfE {w:World} {b e size n b' e' size' n':Nat} {v v':Value} {xs xs':List Value} (h:w.ownsRow b e size v n xs) (h':w.ownsRow b' e' size' v' n' xs') (hne:e≠e'):v.ownBlock=none\/v.ownBlock≠v'.ownBlock:=by
 rcases h.2 with⟨rfl,_⟩|⟨g,cap,cur,rfl,_,h1,_⟩
 ·exact Or.inl rfl
 ·rcases h'.2 with⟨rfl,_⟩|⟨g',cap',cur',rfl,_,h1',_⟩
  ·exact Or.inr (by simp[Value.ownBlock])
  ·refine Or.inr fun e1=>hne ?_
   have e2:g=g':=by simpa[Value.ownBlock] using e1
   subst e2;rw[h1] at h1';injection h1' with h2
   injection h2
def ItemsRead (s:ByteArray) (w:World) (e:Ending) (w':World):Prop:=∃(v:Value) (l:List (Ri×Value)),e=.returned v/\IR w.heap.size l v w'/\l.map Prod.fst=rlist s/\Below w.heap.size w w'
end
structure Kb (S:List Nat) (w w':World):Prop where
 os:w'.os=w.os
 tape:w'.tape=w.tape
 output:w'.output=w.output
 size:w.heap.size<=w'.heap.size
 block:∀k,k<w.heap.size->k∉S->w'.heap[k]? =w.heap[k]?
theorem Kb.refl (S:List Nat) (w:World):Kb S w w:=⟨rfl,rfl,rfl,Nat.le_refl _,fun _ _ _=>rfl⟩
theorem Kb.trans {S T:List Nat} {a b c:World} (h:Kb S a b) (k:Kb T b c) (hT:∀i∈T,i∈S\/a.heap.size<=i):Kb S a c:=
 ⟨k.os.trans h.os,k.tape.trans h.tape,k.output.trans h.output,Nat.le_trans h.size k.size,fun i hi hS=>(k.block i (Nat.lt_of_lt_of_le hi h.size) (fun hT'=>by rcases hT i hT' with h1|h1;exact hS h1;omega)).trans (h.block i hi hS)⟩
theorem Kb.mono {S T:List Nat} {a b:World} (h:Kb S a b) (hT:∀i∈S,i∈T):Kb T a b:=⟨h.os,h.tape,h.output,h.size,fun i hi hn=>h.block i hi (fun k=>hn (hT i k))⟩
theorem Kb.of_below {S:List Nat} {a b:World} (h:Below a.heap.size a b):Kb S a b:=⟨h.os,h.tape,h.output,h.size,fun i hi _=>h.block i hi⟩
theorem Kb.to_below {a b:World} (h:Kb [] a b):Below a.heap.size a b:=⟨h.os,h.tape,h.output,h.size,fun i hi=>h.block i hi (by simp)⟩
theorem Kb.below {S:List Nat} {a b c:World} (h:Kb S a b) (k:Below b.heap.size b c):Kb S a c:=h.trans (Kb.of_below (S:=[]) k) (by simp)
theorem Kb.alloc {S:List Nat} {a b:World} (h:Kb S a b) (o:Obj):Kb S a (b.alloc o):=h.below (bal (Below.refl _ _) o)
theorem Kb.drew {S:List Nat} {a b:World} (h:Kb S a b):Kb S a b.drew:=⟨h.os,h.tape,h.output,h.size,h.block⟩
theorem Kb.setCell {S:List Nat} {a b:World} (h:Kb S a b) {p:Addr} (hp:p.block∈S\/a.heap.size<=p.block) (u:Value):Kb S a (b.setCell p u):=
 h.trans (T:=[p.block]) ⟨rfl,rfl,rfl,by simp[World.setCell],fun k _ hk=>Below.heap_setCell _ _ _ _ (by simpa using hk)⟩ (by simpa using hp)
theorem Kb.setRow {S:List Nat} {a b:World} (h:Kb S a b) {g:Nat} (hg:g∈S\/a.heap.size<=g) (cs:Array Value):Kb S a (b.setRow g cs):=
 h.trans (T:=[g]) ⟨rfl,rfl,rfl,by simp[World.setRow],fun k _ hk=>setRow_other b g k cs (by simpa using hk)⟩ (by simpa using hg)
theorem Kb.grown {S:List Nat} {a b c:World} {row:Option Nat} (h:Kb S a b) (hg:b.grownBy c row) (hr:∀k,row=some k->k∈S\/a.heap.size<=k):Kb S a c:=
 h.trans (T:=row.toList) ⟨hg.os,hg.tape,hg.output,hg.size,fun k hk hn=>hg.block k hk (fun e=>hn (by rw[<-e];simp))⟩ (fun i hi=>hr i (by simpa using hi))
theorem Kb.row {S:List Nat} {a b:World} (h:Kb S a b) {g n:Nat} {t:TypeId} {f:Nat->Value} (hr:a.rowIs g t n f) (hg:g∉S):b.rowIs g t n f:=hr.of_block (h.block g hr.lt hg)
theorem Kb.own {S:List Nat} {a b:World} (h:Kb S a b) {base e size n:Nat} {v:Value} {xs:List Value} (ho:a.ownsRow base e size v n xs) (hv:∀k,v.ownBlock=some k->k∉S):b.ownsRow base e size v n xs:=by
 refine⟨ho.1, ?_⟩;rcases ho.2 with h1|⟨g,cap,cur,h1,h2,h3,h4⟩
 ·exact Or.inl h1
 ·exact Or.inr ⟨g,cap,cur,h1,h2,(h.block g (lt_of_block h3) (hv g (by rw[h1];rfl))).trans h3,h4⟩
def Zv (l:List Nat):List Value:=l.flatMap fun n=>[.int .u64 (za n 0),.int .u64 (za n 1),.int .u64 (za n 2),.int .u64 (za n 3)]
theorem zbk (l:List Nat) (n:Nat):Zv (l++[n])=Zv l++[.int .u64 (za n 0),.int .u64 (za n 1),.int .u64 (za n 2),.int .u64 (za n 3)]:=by simp[Zv]
theorem Yu (l:List Nat):(Zv l).length=l.length*4:=by
 induction l with
 |nil=>rfl
 |cons n l ih=>simp[Zv] at ih⊢;omega
def Wds (w:World) (base:Nat) (v:Value) (l:List Nat):Prop:=w.ownsRow base 24 4 v l.length (Zv l)
theorem zI {w:World} {fb T N base e size n:Nat} {f:Nat->Value} {v:Value} {xs:List Value} (hr:w.rowIs fb T N f) (ho:w.ownsRow base e size v n xs) (hT:T≠e):∀k,v.ownBlock=some k->k≠fb:=by
 intro k hk e1;subst e1;obtain⟨c,hb,_⟩:=hr;rcases ho.2 with⟨h1,_⟩|⟨g,cap,cur,h1,h2,h3,_⟩
 ·rw[h1] at hk;cases hk
 ·rw[h1] at hk;obtain rfl:g=k:=by simpa[Value.ownBlock] using hk
  rw[hb] at h3;injection h3 with h3
  injection h3 with _ h4
  exact hT h4
structure Up (S:List Nat) (fb o:Nat) (v':Value) (w w':World):Prop where
 kb:Kb (fb::S) w w'
 row:∀{T N f},w.rowIs fb T N f->w'.rowIs fb T N (fun i=>if i=o then v' else f i)
theorem Up.mk' {S:List Nat} {fb o:Nat} {w x:World} (v':Value) (h:Kb S w x) (hS:fb∉S) (hlt:fb<w.heap.size):Up S fb o v' w (x.setCell ⟨fb,o,none⟩ v'):=
 ⟨(h.mono (fun i hi=>List.mem_cons_of_mem _ hi)).setCell (Or.inl (by simp)) _,fun hr=>(h.row hr hS).set o v'⟩
theorem Kb.up {S:List Nat} {fb o:Nat} {v':Value} {w x y:World} (h:Up S fb o v' w x) (k:Below x.heap.size x y) (hlt:fb<w.heap.size):Up S fb o v' w y:=
 ⟨h.kb.below k,fun hr=>zg (h.row hr) k⟩
theorem yV {w:World} {base e size n fb:Nat} {v:Value} {xs:List Value} (h:w.ownsRow base e size v n xs) (hne:∀k,v.ownBlock=some k->k≠fb) (o:Nat) (u:Value):(w.setCell ⟨fb,o,none⟩ u).ownsRow base e size v n xs:=
 ((Kb.refl [fb] w).setCell (p:=⟨fb,o,none⟩) (Or.inl (by simp)) u).own h (fun k hk=>by simpa using hne k hk)
def Pan (e:Ending):Prop:=∃(u:TypeId) (pv:Value),e=.panicked [{v:=.iface u pv,recovered:=false}]
theorem zg8:(prog.info? 24).map (fun i=>(i.zero,i.size,i.bytes))=some (some (.agg #[.int .u64 0,.int .u64 0,.int .u64 0,.int .u64 0]),4,32):=by kernel_rfl
def Fresh (w:World) (v v':Value):Prop:=v'.ownBlock=v.ownBlock\/∀k,v'.ownBlock=some k->w.heap.size<=k
theorem yI {P:Program} (w:World) (base:Nat) (t ty e:TypeId) (i:TypeInfo) (z:Value) (size bytes:Nat) (ht:P.underlying t=some (.slice e)) (hi:P.info? e=some i) (hz:i.zero=some z)
  (hsize:i.size=size) (hby:i.bytes=bytes) (hzs:z.cells.size=size) (hsz:0<size)
  (v:Value) (n:Nat) (xs:List Value) (hown:w.ownsRow base e size v n xs)
  (a:Addr) (m c:Nat) (news:List Value) (hl:news.length=m*size) (hnews:∀j u,news[j]? =some u->w.cell? (a.add j)=some u) (h1:∀u∈news,u.oneCell'=true)
  (h63:n+m<=maxLen) (hbytes:(n+m)*bytes<=140737488355328) (hbase:base<=w.heap.size):
  ∃v' w',(Builtin.append_ #[t,t] ty #[v,.slice (some a) m c]).run P w=.ok v' w'/\w'.ownsRow base e size v' (n+m) (xs++news)/\w.grownBy w' v.ownBlock/\Fresh w v v':=by
 obtain⟨v',w',hrun,ho,hg,hnil⟩:=run_append_own w base t ty e i z size bytes ht hi hz hsize hby hzs hsz v n xs hown a m c news hl hnews h1 h63 hbytes hbase;refine⟨v',w',hrun,ho,hg, ?_⟩;rcases hown.2 with⟨rfl,rfl⟩|⟨g,cap,cur,rfl,hb,hgb,hnc,hcm,hcs,htk⟩
 ·right;obtain rfl:xs=[]:=List.eq_nil_of_length_eq_zero (by simpa using hown.1);obtain⟨v2,w2,hrun2,ho2,hg2,_⟩:=run_append_own w w.heap.size t ty e i z size bytes ht hi hz hsize hby hzs hsz (.slice none 0 0) 0 [] (World.ownsRow_nil w _ e size) a m c news hl hnews h1 h63 hbytes (Nat.le_refl _);rw[hrun] at hrun2;injection hrun2 with e1 e2
  subst e1;exact fun k hk=>(ho2.lt k hk).1
 ·by_cases hr:n+m<=cap
  ·left;subst hsize
   have hlt:∀j,j<news.length->n*i.size+j<cur.size:=fun j hj=>by
    rw[hcs];have:(n+m)*i.size<=cap*i.size:=Nat.mul_le_mul_right _ hr;rw[Nat.add_mul] at this;omega
   have h2:=run_append_room_cells (P:=P) w t ty e i ht hi g 0 n cap a m c news hl hnews h1 hr
    (fun j hj=>by rw[Nat.zero_add,cell_of_row _ g _ cur e (0,0) hgb];simp[hlt j hj])
    (fun j hj=>by simp[World.frozen?,hgb])
   rw[hrun] at h2;injection h2 with e1 e2
   subst e1;rfl
  ·right;obtain⟨v2,w2,hrun2,ho2,hg2⟩:=run_append_arg_grows (P:=P) w t ty e i z size bytes ht hi hz hsize hby hzs hsz ⟨g,0,none⟩ n cap xs hown.1 (hown.cells rfl) a m c news hl hnews (by omega) h63 hbytes;rw[hrun] at hrun2;injection hrun2 with e1 e2
   subst e1;exact fun k hk=>(ho2.lt k hk).1
theorem zbh {P:Program} {w:World} {ops:Array Oper} {o:Oper} {a:Act} {K:Act->World->Prop} {Q:Exit->Act->World->Prop} {E:Prop} (hgd:o.guard=none) (s x:Operand) (t:TypeId)
  (ho:o.op=.call {callee:=.builtin .append,args:=#[s,x],argTypes:=#[t,t]})
  (base:Nat) (e:TypeId) (i:TypeInfo) (z:Value) (size bytes:Nat) (ht:P.underlying t=some (.slice e)) (hi:P.info? e=some i) (hz:i.zero=some z)
  (hsize:i.size=size) (hby:i.bytes=bytes) (hzs:z.cells.size=size) (hsz:0<size)
  (v:Value) (n:Nat) (xs:List Value) (hs:a.eval s=v) (hown:w.ownsRow base e size v n xs)
  (ad:Addr) (m c:Nat) (news:List Value) (hx:a.eval x=.slice (some ad) m c) (hl:news.length=m*size) (hnews:∀j u,news[j]? =some u->w.cell? (ad.add j)=some u) (h1:∀u∈news,u.oneCell'=true)
  (h63:n+m<=maxLen) (hbytes:(n+m)*bytes<=140737488355328) (hbase:base<=w.heap.size)
  (h:∀v' w',w'.ownsRow base e size v' (n+m) (xs++news)->w.grownBy w' v.ownBlock->Fresh w v v'->K (a.put o.dst v') w'):if Region.wanted o (yielded ops a.tmps)=true then Oper.wp P o a w K Q else E:=by
 rw[if_pos (zt hgd)];obtain⟨v',w',hrun,r1,r2,r3⟩:=yI w base t o.type e i z size bytes ht hi hz hsize hby hzs hsz v n xs hown ad m c news hl hnews h1 h63 hbytes hbase;unfold Oper.wp;simp[execOp,ho,resolve,invoke,builtin,hs,hx,hrun,Result.andThen];exact h v' w' r1 r2 r3
theorem zl1 {T N:Nat} {f:Nat->Value} (fb o n base:Nat) (l:List Nat) (v:Value) (w:World) (hr:w.rowIs fb T N f) (ho:o<N) (hv:f o=v) (hs:Wds w base v l) (hl:l.length=1024):
  Calls prog 259 #[.pointer (some ⟨fb,o,none⟩),wv n] w fun e w'=>Pan e/\Below w.heap.size w w':=by
 obtain⟨ad,cap,rfl⟩:=Zk hs;rw[hl] at hv;have hc1:(w.alloc (wc n)).cell? ⟨fb,o,none⟩=some (.slice ad 1024 cap):=((bal (Below.refl _ w) (wc n)).cell (by exact hr.lt)).trans ((hr.cell ho).trans (congrArg some hv));clear hr hv hs;go_enter func259,ntmps259;go_wp2;exact⟨rfl,⟨_,_,rfl⟩,bal (Below.refl _ _) _⟩
theorem push_ok {T N:Nat} {f:Nat->Value} (fb o n base:Nat) (l:List Nat) (v:Value) (w:World) (hr:w.rowIs fb T N f) (ho:o<N) (hv:f o=v) (hT:T≠24) (hs:Wds w base v l) (hl:l.length<1024) (hb:base<=w.heap.size):
  Calls prog 259 #[.pointer (some ⟨fb,o,none⟩),wv n] w fun e w'=>e=.returned (.tuple #[])/\∃v',Wds w' base v' (l++[n])/\Fresh w v v'/\Up v.ownBlock.toList fb o v' w w':=by
 have hlt:=hr.lt;have hc:w.cell? ⟨fb,o,none⟩=some v:=(hr.cell ho).trans (congrArg some hv);have hz:w.frozen? ⟨fb,o,none⟩=false:=hr.frozen o;have hfb:=zI hr hs hT;have HR:=zb hr;have HT:=zb hT;clear hr hv hT ho;obtain⟨i0,hi0,hz0,hz1,hz2⟩:=info_parts zg8;have HI:=zb (And.intro hi0 (And.intro hz0 (And.intro hz1 hz2)));clear hi0 hz0 hz1 hz2;obtain⟨ad,cp,rfl⟩:=Zk hs;have hc1:(w.alloc (wc n)).cell? ⟨fb,o,none⟩=some (.slice ad l.length cp):=((bal (Below.refl _ w) (wc n)).cell (by exact hlt)).trans hc;have hne:((l.length:Int)==1024)=false:=by simp;omega
 have HB1:Hid (Below w.heap.size w ((w.alloc (wc n)).drew.alloc (wc n))):=bal (bal (Below.refl _ w) _).drew _;have hc2:((w.alloc (wc n)).drew.alloc (wc n)).cell? ⟨fb,o,none⟩=some (.slice ad l.length cp):=(HB1.out.cell (by exact hlt)).trans hc;have HS:Hid (Wds ((w.alloc (wc n)).drew.alloc (wc n)) base (.slice ad l.length cp) l):=zm hs HB1.out;have HC:=zb hc;have HZ:=zb hz;have HF:=zb hfb;have HLT:=zb hlt
 have HLC:Hid (∀j u,[Value.int .u64 (za n 0),.int .u64 (za n 1),.int .u64 (za n 2),.int .u64 (za n 3)][j]? =some u->((w.alloc (wc n)).drew.alloc (wc n)).cell? ((⟨w.heap.size+1,0,none⟩:Addr).add j)=some u):=by
  have h:=Z8 (w.alloc (wc n)).drew #[.int .u64 (za n 0),.int .u64 (za n 1),.int .u64 (za n 2),.int .u64 (za n 3)] 24;rw[show(w.alloc (wc n)).drew.heap.size=w.heap.size+1 by simp] at h;exact h
 clear hs hc hz hfb;go_enter func259,ntmps259;go_wp2
 go_region_law (obtain⟨hi0,hz0,hz1,hz2⟩:=HI.out;refine zbh rfl (.tmp 13) (.tmp 15) 135 rfl base 24 i0 (.agg #[.int .u64 0,.int .u64 0,.int .u64 0,.int .u64 0]) 4 32 (by kernel_rfl) hi0 hz0 hz1 hz2 rfl (by decide) (.slice ad l.length cp) l.length (Zv l) rfl HS.out ⟨w.heap.size+1,0,none⟩ 1 1 [.int .u64 (za n 0),.int .u64 (za n 1),.int .u64 (za n 2),.int .u64 (za n 3)] rfl rfl HLC.out (by intro u hu;simp at hu;rcases hu with rfl|rfl|rfl|rfl<;>rfl) (by unfold maxLen;omega) (by omega) (by simp;omega) ?_;intro v' x ho hgr hfr;obtain⟨g',cap',rfl,hg1,hg2,hg3⟩:=yq ho (by omega);have hxb:=hgr.block fb (Nat.lt_of_lt_of_le HLT.out HB1.out.size) (fun e=>HF.out fb e.symm rfl);have hcx:x.cell? ⟨fb,o,none⟩=some (.slice ad l.length cp):=(World.cell?_of_block hxb).trans hc2;have hzx:x.frozen? ⟨fb,o,none⟩=false:=(World.frozen?_of_block hxb).trans ((HB1.out.frozen (by exact HLT.out)).trans HZ.out);have HO:=zb ho;have HG:=zb hgr;have HFR:=zb hfr;clear hfr ho hgr hxb hg1 hg2 hg3 hi0 hz0 hz1 hz2)
 all_goals go_wp2
 all_goals go_end0
 all_goals (
  have hkb:=(Kb.of_below (S:=(Value.slice ad l.length cp).ownBlock.toList) (bal (bal (Below.refl _ w) _) _)).drew.grown HG.out (fun k hk=>Or.inl (by rw[hk];simp));have hni:fb∉(Value.slice ad l.length cp).ownBlock.toList:=fun hm=>HF.out fb (by simpa using hm) rfl
  have ho:Wds x base (.slice (some ⟨g',0,none⟩) (l.length+1) cap') (l++[n]):=by unfold Wds;rw[List.length_append,zbk];exact HO.out
  exact⟨rfl,_,yV ho (zI (hkb.row HR.out hni) ho HT.out) o _,HFR.out.imp id (fun h k hk=>Nat.le_trans HB1.out.size (h k hk)),Up.mk' _ hkb hni HLT.out⟩)
theorem zco (fb o k n cap:Nat) (ad:Option Addr) (w:World) (hc:w.cell? ⟨fb,o,none⟩=some (.slice ad n cap)) (hn:n<=1024) (hk:k<n):
  Calls prog 273 #[.pointer (some ⟨fb,o,none⟩),.int .i64 (k:Int)] w fun e w'=>e=.returned (.int .i64 ((n - 1 - k:Nat):Int))/\w'=w:=by
 have d:decide ((n:Int)<=(k:Int))=false:=decide_eq_false (by omega);go_enter func273,ntmps273;go_wp2;go_ret;exact⟨congrArg (fun z=>Ending.returned (Value.int .i64 z)) (by omega),rfl⟩
theorem zcX (fb o k n cap:Nat) (ad:Option Addr) (w:World) (hc:w.cell? ⟨fb,o,none⟩=some (.slice ad n cap)) (hn:n<=1024) (hk:n<=k) (hk2:k<=1024):
  Calls prog 273 #[.pointer (some ⟨fb,o,none⟩),.int .i64 (k:Int)] w fun e w'=>Pan e/\w'=w:=by
 have d:decide ((n:Int)<=(k:Int))=true:=decide_eq_true (by omega);go_enter func273,ntmps273;go_wp2;exact⟨rfl,⟨_,_,rfl⟩,rfl⟩
theorem zgi:∀(l:List Nat) (j:Nat) (h:j<l.length) (i:Nat),i<4->(Zv l)[j*4+i]? =some (.int .u64 (za l[j] i))
 |n::l,0,h,i,hi=>by
  rw[Nat.zero_mul,Nat.zero_add];rcases k4 hi with rfl|rfl|rfl|rfl<;>rfl
 |n::l,j+1,h,i,hi=>by
  have ih:=zgi l j (by simpa using h) i hi;rw[show(j+1)*4+i=(j*4+i)+4 by omega];exact ih
theorem zid (l m:List Nat):(Zv (l++m)).take (l.length*4)=Zv l:=by
 unfold Zv;rw[List.flatMap_append,List.take_append_of_le_length (by have:=Yu l;unfold Zv at this;omega),List.take_of_length_le (by have:=Yu l;unfold Zv at this;omega)]
theorem Wds.trunc {w:World} {base g cap:Nat} {l m:List Nat} (h:Wds w base (.slice (some ⟨g,0,none⟩) (l++m).length cap) (l++m)):Wds w base (.slice (some ⟨g,0,none⟩) l.length cap) l:=by
 refine⟨Yu l, ?_⟩;rcases h.2 with⟨h1,h2⟩|⟨g',cap',cur,h1,h2,h3,h4,h5,h6,h7⟩
 ·cases h1
 ·injection h1 with e1 e2 e3
  injection e1 with e1
  injection e1 with e1
  subst e1 e3;refine Or.inr ⟨g,cap,cur,rfl,h2,h3,by rw[List.length_append] at h4;omega,h5,h6, ?_⟩;rw[<-zid l m,<-h7,List.take_take];congr 1;rw[List.length_append];omega
theorem Wds.at {w:World} {base g cap n:Nat} {l:List Nat} (h:Wds w base (.slice (some ⟨g,0,none⟩) l.length cap) l) {j:Nat} (hj:j<l.length) (hn:l[j]=n):
  w.cell? ⟨g,j*4,none⟩=some (.int .u64 (za n 0))/\w.cell? ⟨g,j*4+1,none⟩=some (.int .u64 (za n 1))/\w.cell? ⟨g,j*4+2,none⟩=some (.int .u64 (za n 2))/\w.cell? ⟨g,j*4+3,none⟩=some (.int .u64 (za n 3)):=by
 subst hn;have e:∀i,i<4->w.cell? ⟨g,j*4+i,none⟩=some (.int .u64 (za l[j] i)):=fun i hi=>(World.ownsRow.cellAt h (j*4+i) (by omega)).trans (zgi l j hj i hi)
 exact⟨e 0 (by omega),e 1 (by omega),e 2 (by omega),e 3 (by omega)⟩
theorem pop_ok {T N:Nat} {f:Nat->Value} (fb o n base:Nat) (l:List Nat) (v:Value) (w:World) (hr:w.rowIs fb T N f) (ho:o<N) (hv:f o=v) (hT:T≠24) (hs:Wds w base v (l++[n])) (hl:l.length<1024):
  Calls prog 257 #[.pointer (some ⟨fb,o,none⟩)] w fun e w'=>e=.returned (wv n)/\∃v',Wds w' base v' l/\v'.ownBlock=v.ownBlock/\Up [] fb o v' w w':=by
 have hlt:=hr.lt;have hfb:=zI hr hs hT;obtain⟨g,cap,rfl,hg1,hg2,hg3⟩:=yq hs (by simp);have hgf:g≠fb:=hfb g rfl;have hlen:(l++[n]).length=l.length+1:=by simp
 rw[hlen] at hv hg3;obtain⟨Z,HZ⟩:∃Z:World,Hid (Z=w.alloc (.cells #[.int .u64 0,.int .u64 0,.int .u64 0,.int .u64 0] 24)):=⟨_,rfl⟩;have hbz:Below w.heap.size w Z:=by rw[HZ.out];exact bal (Below.refl _ w) _
 have hz0:Z.rowIs w.heap.size 24 4 (zu fun _=>0):=by rw[HZ.out];exact zj (fun _=>0) rfl rfl rfl rfl rfl
 have hrz:=zg hr hbz;have hsz:Z.heap.size=w.heap.size+1:=by rw[HZ.out];simp
 have hwz:Wds Z base (.slice (some ⟨g,0,none⟩) (l++[n]).length cap) (l++[n]):=zm hs hbz;have hc:Z.cell? ⟨fb,o,none⟩=some (.slice (some ⟨g,0,none⟩) (l.length+1) cap):=(hrz.cell ho).trans (congrArg some hv);have HP:Hid (∀w:World,w.cell? ⟨fb,o,none⟩=some (.slice (some ⟨g,0,none⟩) (l.length+1) cap)->Calls prog 273 #[.pointer (some ⟨fb,o,none⟩),.int .i64 0] w fun e w'=>e=.returned (.int .i64 (l.length:Int))/\w'=w):=fun w h=>(zco fb o 0 (l.length+1) cap (some ⟨g,0,none⟩) w h (by omega) (by omega)).mono fun e w' ⟨h1,h2⟩=>⟨by rw[h1];rfl,h2⟩
 obtain⟨c0,c1,c2,c3⟩:=hwz.at (j:=l.length) (n:=n) (by simp) (by simp);have hfz:=hrz.frozen o;obtain⟨z0,z1,z2,z3⟩:=ze hz0;have fz:=hz0.frozen;have HS:=zb hwz.trunc;have HB:=zb hbz;have HR:=zb hrz;have HZ0:=zb hz0;clear hs hfb hr hwz hbz hrz hz0 hv;go_enter func257,ntmps257;go_wp2_with fail
 rw[<-HZ.out];refine(HP.out _ hc).mono ?_;rintro e w1 ⟨rfl,rfl⟩;clear HZ HP;go_wp2
 have k1:Kb [w.heap.size] (w1.setCell ⟨fb,o,none⟩ (.slice (some ⟨g,0,none⟩) l.length cap)) ((((((w1.setCell ⟨fb,o,none⟩ (.slice (some ⟨g,0,none⟩) l.length cap)).setCell ⟨w.heap.size,0,none⟩ (.int .u64 (za n 0))).setCell ⟨w.heap.size,1,none⟩ (.int .u64 (za n 1))).setCell ⟨w.heap.size,2,none⟩ (.int .u64 (za n 2))).setCell ⟨w.heap.size,3,none⟩ (.int .u64 (za n 3))).alloc (wc n)):=
  (((((Kb.refl _ _).setCell (Or.inl (by simp)) _).setCell (Or.inl (by simp)) _).setCell (Or.inl (by simp)) _).setCell (Or.inl (by simp)) _).alloc _
 have hrow:=(zy (HZ0.out.setOther (a:=⟨fb,o,none⟩) (by show w.heap.size≠fb;omega) (.slice (some ⟨g,0,none⟩) l.length cap)) (za n) rfl rfl rfl rfl).alloc (wc n);obtain⟨q0,q1,q2,q3⟩:=ze hrow;refine bodyPost_ret (v:=wv n) (by simp[results,results257,go_sem,q0,q1,q2,q3]) rfl ⟨rfl,.slice (some ⟨g,0,none⟩) l.length cap, ?_,rfl, ?_⟩
 ·exact k1.own (yV HS.out (fun k hk=>by obtain rfl:g=k:=(by simpa[Value.ownBlock] using hk);exact hgf) o _) (fun k hk=>by obtain rfl:g=k:=(by simpa[Value.ownBlock] using hk);simp;omega)
 ·have u1:Up [] fb o (.slice (some ⟨g,0,none⟩) l.length cap) w (w1.setCell ⟨fb,o,none⟩ (.slice (some ⟨g,0,none⟩) l.length cap)):=Up.mk' _ (Kb.of_below HB.out) (by simp) hlt;exact⟨u1.kb.trans k1 (by simp),fun hr=>k1.row (u1.row hr) (by simp;omega)⟩
structure Fz where
 trail:Value
 code:ByteArray
 jd:Value
 self:Nat
 caller:Nat
 value:Nat
 data:ByteArray
 gas:Nat
 ro:Bool
 depth:Nat
 st:List Nat
 mem:List UInt8
 ret:ByteArray
 pc:Nat
 nx:Nat
 ended:Bool
 status:Nat
 out:ByteArray
def Fz.cell (F:Fz) (sv mv:Value) (i:Nat):Value:=
 if i=0 then F.trail else
 if i=1 then .string F.code else
 if i=2 then F.jd else
 if i=3+0 then .int .u64 (za F.self 0) else
 if i=3+1 then .int .u64 (za F.self 1) else
 if i=3+2 then .int .u64 (za F.self 2) else
 if i=3+3 then .int .u64 (za F.self 3) else
 if i=7+0 then .int .u64 (za F.caller 0) else
 if i=7+1 then .int .u64 (za F.caller 1) else
 if i=7+2 then .int .u64 (za F.caller 2) else
 if i=7+3 then .int .u64 (za F.caller 3) else
 if i=11+0 then .int .u64 (za F.value 0) else
 if i=11+1 then .int .u64 (za F.value 1) else
 if i=11+2 then .int .u64 (za F.value 2) else
 if i=11+3 then .int .u64 (za F.value 3) else
 if i=15 then .string F.data else
 if i=16 then .int .i64 (F.gas:Int) else
 if i=17 then .bool F.ro else
 if i=18 then .int .i64 (F.depth:Int) else
 if i=19 then sv else
 if i=20 then mv else
 if i=21 then .string F.ret else
 if i=22 then .int .i64 (F.pc:Int) else
 if i=23 then .int .i64 (F.nx:Int) else
 if i=24 then .bool F.ended else
 if i=25 then .int .u8 (F.status:Int) else
 if i=26 then .string F.out else
 undef
def jdF (code:ByteArray):Nat->Nat->List Bool->List Bool
 |0,_,acc=>acc
 |f+1,i,acc=>if i<code.size then
   jdF code f (i+1+(if 95<byt code i/\byt code i<=127 then byt code i - 95 else 0)) (if byt code i=91 then acc.set i true else acc)
  else acc
def jdL (code:ByteArray):List Bool:=jdF code code.size 0 (List.replicate (code.size+1) false)
def Jds (w:World) (jd:Value) (code:ByteArray):Prop:=∃g cap:Nat,jd=.slice (some ⟨g,0,none⟩) (code.size+1) cap/\w.rowIs g 4 (code.size+1) (fun i=>.bool ((jdL code).getD i false))
structure Fr (base fb:Nat) (F:Fz) (S:List Nat) (sv mv:Value) (w:World):Prop where
 row:w.rowIs fb 137 27 (F.cell sv mv)
 st:Wds w base sv F.st.reverse
 me:Bys w base mv F.mem
 foot:S=fb::(sv.ownBlock.toList++mv.ownBlock.toList)
 stl:F.st.length<=1024
 mel:F.mem.length<=65536
 gal:F.gas<=100000
 hb:base<=w.heap.size
 zr:∀i,i<4->w.cell? ⟨0,i,none⟩=some (.int .u64 0)
 hb1:0<base
 hfb:base<=fb
 m32:F.mem.length%32=0
 jr:Jds w F.jd F.code
theorem Jds.kb {w w':World} {jd:Value} {code:ByteArray} {S:List Nat} (h:Jds w jd code) (hk:Kb S w w') (hS:∀g N f,w.rowIs g 4 N f->g∉S):Jds w' jd code:=by
 obtain⟨g,cap,h1,h2⟩:=h;exact⟨g,cap,h1,hk.row h2 (hS _ _ _ h2)⟩
theorem tb1:(4:Nat)≠24:=by decide
theorem tb2:(4:Nat)≠5:=by decide
theorem tb3:(4:Nat)≠137:=by decide
theorem yZ {w:World} {a b:Nat} {T T':TypeId} {N N':Nat} {f f':Nat->Value} (h:w.rowIs a T N f) (h':w.rowIs b T' N' f') (ht:T≠T'):a≠b:=fun e=>by
 subst e;obtain⟨c,h1,_⟩:=h;obtain⟨c',h2,_⟩:=h';rw[h1] at h2;injection h2 with h2
 injection h2 with _ h3
 exact ht h3
theorem Fr.bno {base fb:Nat} {F:Fz} {S:List Nat} {sv mv:Value} {w:World} (h:Fr base fb F S sv mv w):∀g N f,w.rowIs g 4 N f->g∉S:=by
 intro g N f hr hm;rw[h.foot] at hm;rcases List.mem_cons.1 hm with h1|h1
 ·exact yZ hr h.row tb3 h1
 ·rcases List.mem_append.1 h1 with h2|h2
  ·exact zI hr h.st tb1 g (by simpa using h2) rfl
  ·exact zI hr h.me tb2 g (by simpa using h2) rfl
theorem zcA {S:List Nat} {w w':World} (h:∀i,i<4->w.cell? ⟨0,i,none⟩=some (.int .u64 0)) (hk:Kb S w w') (h0:0∉S) (hs:0<w.heap.size):∀i,i<4->w'.cell? ⟨0,i,none⟩=some (.int .u64 0):=
 fun i hi=>(World.cell?_of_block (w:=w) (hk.block 0 hs h0)).trans (h i hi)
theorem Fr.low {base fb:Nat} {F:Fz} {S:List Nat} {sv mv:Value} {w:World} (h:Fr base fb F S sv mv w):∀k∈S,base<=k:=by
 intro k hk;rw[h.foot] at hk;rcases List.mem_cons.1 hk with h1|h1
 ·rw[h1];exact h.hfb
 ·rcases List.mem_append.1 h1 with h2|h2
  ·exact(h.st.lt k (by simpa using h2)).1
  ·exact(h.me.lt k (by simpa using h2)).1
theorem Fr.no0 {base fb:Nat} {F:Fz} {S:List Nat} {sv mv:Value} {w:World} (h:Fr base fb F S sv mv w):0∉S:=fun hm=>by
 have:=h.low 0 hm;have:=h.hb1;omega
theorem Fr.hs {base fb:Nat} {F:Fz} {S:List Nat} {sv mv:Value} {w:World} (h:Fr base fb F S sv mv w):0<w.heap.size:=Nat.lt_of_lt_of_le h.hb1 h.hb
def To (base fb:Nat) (F':Fz) (S:List Nat) (w w':World):Prop:=∃S' sv mv,Fr base fb F' S' sv mv w'/\Kb S w w'/\∀k∈S',k∈S\/w.heap.size<=k
theorem To.trans {base fb:Nat} {F1 F2:Fz} {S:List Nat} {w w1 w2:World} (h:To base fb F1 S w w1) (k:∀S1 sv mv,Fr base fb F1 S1 sv mv w1->To base fb F2 S1 w1 w2):To base fb F2 S w w2:=by
 obtain⟨S1,sv,mv,h1,h2,h3⟩:=h;obtain⟨S2,sv2,mv2,k1,k2,k3⟩:=k S1 sv mv h1;refine⟨S2,sv2,mv2,k1,h2.trans k2 h3,fun i hi=> ?_⟩;rcases k3 i hi with h4|h4
 ·exact h3 i h4
 ·exact Or.inr (Nat.le_trans h2.size h4)
theorem Fr.to {base fb:Nat} {F:Fz} {S:List Nat} {sv mv:Value} {w:World} (h:Fr base fb F S sv mv w):To base fb F S w w:=⟨S,sv,mv,h,Kb.refl _ _,fun k hk=>Or.inl hk⟩
theorem Fr.below {base fb:Nat} {F:Fz} {S:List Nat} {sv mv:Value} {w w':World} (h:Fr base fb F S sv mv w) (hb:Below w.heap.size w w'):Fr base fb F S sv mv w':=
 ⟨zg h.row hb,zm h.st hb,zm h.me hb,h.foot,h.stl,h.mel,h.gal,Nat.le_trans h.hb hb.size,zcA h.zr (Kb.of_below (S:=[]) hb) (by simp) h.hs,h.hb1,h.hfb,h.m32,h.jr.kb (Kb.of_below (S:=[]) hb) (fun _ _ _ _=>by simp)⟩
def Out {α:Type} (r:Option (α×Fz)) (val:α->Value) (base fb:Nat) (S:List Nat) (w:World) (e:Ending) (w':World):Prop:=
 match r with
 |some (a,F')=>e=.returned (val a)/\To base fb F' S w w'
 |none=>Pan e/\Kb S w w'
def zx:Unit->Value:=fun _=>.tuple #[]
def zl (n:Nat) (F:Fz):Option (Unit×Fz):=if F.st.length=1024 then none else some ((),{F with st:=n::F.st})
def zi (F:Fz):Option (Nat×Fz):=match F.st with
 |[]=>none
 |n::r=>some (n,{F with st:=r})
def yC (c:Nat) (F:Fz):Option (Unit×Fz):=if F.gas<c then none else some ((),{F with gas:=F.gas - c})
theorem cell_sv (F:Fz) (sv mv v':Value) (st:List Nat):(fun i=>if i=19 then v' else F.cell sv mv i)=({F with st:=st}:Fz).cell v' mv:=by
 funext i;by_cases h:i=19
 ·subst h;rfl
 ·simp only[Fz.cell,if_neg h]
theorem zjG (F:Fz) (sv mv:Value):F.cell sv mv 19=sv:=rfl
theorem zak (F:Fz) (sv mv:Value) (g:Nat):(fun i=>if i=16 then .int .i64 (g:Int) else F.cell sv mv i)=({F with gas:=g}:Fz).cell sv mv:=by
 funext i;by_cases h:i=16
 ·subst h;rfl
 ·simp only[Fz.cell,if_neg h]
theorem tF:(137:Nat)≠24:=by decide
theorem tB:(137:Nat)≠5:=by decide
theorem tWB:(24:Nat)≠5:=by decide
theorem Fr.fm {base fb:Nat} {F:Fz} {S:List Nat} {sv mv:Value} {w:World} (h:Fr base fb F S sv mv w):∀k,mv.ownBlock=some k->k≠fb:=zI h.row h.me tB
theorem Fr.fs {base fb:Nat} {F:Fz} {S:List Nat} {sv mv:Value} {w:World} (h:Fr base fb F S sv mv w):∀k,sv.ownBlock=some k->k≠fb:=zI h.row h.st tF
theorem Fr.sm {base fb:Nat} {F:Fz} {S:List Nat} {sv mv:Value} {w:World} (h:Fr base fb F S sv mv w):∀k,mv.ownBlock=some k->k∉fb::sv.ownBlock.toList:=fun k hk hm=>by
 rcases List.mem_cons.1 hm with h1|h1
 ·exact h.fm k hk h1
 ·have h2:sv.ownBlock=some k:=by simpa using h1
  rcases zfE h.me h.st (Ne.symm tWB) with h3|h3
  ·rw[h3] at hk;cases hk
  ·exact h3 (hk.trans h2.symm)
theorem Fr.stack {base fb:Nat} {F:Fz} {S:List Nat} {sv mv v':Value} {w w':World} {st:List Nat} (h:Fr base fb F S sv mv w) (hl:st.length<=1024) (hw:Wds w' base v' st.reverse) (hf:Fresh w sv v') (hu:Up sv.ownBlock.toList fb 19 v' w w'):To base fb {F with st:=st} S w w':=by
 refine⟨_,v',mv,⟨(cell_sv F sv mv v' st)▸hu.row h.row,hw,hu.kb.own h.me h.sm,rfl,hl,h.mel,h.gal,Nat.le_trans h.hb hu.kb.size,zcA h.zr hu.kb (fun hm=>h.no0 (by rw[h.foot];rcases List.mem_cons.1 hm with e|e;simp[e];exact List.mem_cons_of_mem _ (List.mem_append_left _ e))) h.hs,h.hb1,h.hfb,h.m32,h.jr.kb hu.kb (fun g N f hr hm=>h.bno g N f hr (by rw[h.foot];rcases List.mem_cons.1 hm with e|e;simp[e];exact List.mem_cons_of_mem _ (List.mem_append_left _ e)))⟩, ?_, ?_⟩
 ·rw[h.foot];exact hu.kb.mono (fun i hi=>by rcases List.mem_cons.1 hi with h1|h1;simp[h1];exact List.mem_cons_of_mem _ (List.mem_append_left _ h1))
 ·intro k hk;rw[h.foot];rcases List.mem_cons.1 hk with h1|h1
  ·exact Or.inl (by simp[h1])
  ·rcases List.mem_append.1 h1 with h2|h2
   ·have h3:v'.ownBlock=some k:=by simpa using h2
    rcases hf with h4|h4
    ·exact Or.inl (List.mem_cons_of_mem _ (List.mem_append_left _ (by rw[<-h4];exact h2)))
    ·exact Or.inr (h4 k h3)
   ·exact Or.inl (List.mem_cons_of_mem _ (List.mem_append_right _ h2))
theorem yg {base fb:Nat} {F:Fz} {S:List Nat} {sv mv:Value} (n:Nat) (w:World) (h:Fr base fb F S sv mv w):
  Calls prog 259 #[.pointer (some ⟨fb,19,none⟩),wv n] w (Out (zl n F) zx base fb S w):=by
 unfold zl;by_cases hl:F.st.length=1024
 ·rw[if_pos hl];exact(zl1 fb 19 n base F.st.reverse sv w h.row (by decide) rfl h.st (by simpa using hl)).mono fun e w' ⟨h1,h2⟩=>⟨h1,Kb.of_below h2⟩
 ·rw[if_neg hl];refine(push_ok fb 19 n base F.st.reverse sv w h.row (by decide) rfl tF h.st (by have:=h.stl;simp;omega) h.hb).mono fun e w' ⟨h1,v',h2,h3,h4⟩=>⟨h1,h.stack (by have:=h.stl;simp;omega) (by rw[List.reverse_cons];exact h2) h3 h4⟩
theorem pop_no {T N:Nat} {f:Nat->Value} (fb o cap:Nat) (ad:Option Addr) (w:World) (hr:w.rowIs fb T N f) (ho:o<N) (hv:f o=.slice ad 0 cap):
  Calls prog 257 #[.pointer (some ⟨fb,o,none⟩)] w fun e w'=>Pan e/\Below w.heap.size w w':=by
 have hc:(w.alloc (.cells #[.int .u64 0,.int .u64 0,.int .u64 0,.int .u64 0] 24)).cell? ⟨fb,o,none⟩=some (.slice ad 0 cap):=((bal (Below.refl _ w) _).cell (by exact hr.lt)).trans ((hr.cell ho).trans (congrArg some hv));have HP:=zb (zcX fb o 0 0 cap ad _ hc (by omega) (by omega) (by omega));clear hr hv;go_enter func257,ntmps257;go_wp2_with fail
 refine HP.out.mono ?_;rintro e w1 ⟨⟨u,pv,rfl⟩,rfl⟩;go_wp2;exact⟨rfl,⟨_,_,rfl⟩,bal (Below.refl _ _) _⟩
theorem Ym {base fb:Nat} {F:Fz} {S:List Nat} {sv mv:Value} (w:World) (h:Fr base fb F S sv mv w):
  Calls prog 257 #[.pointer (some ⟨fb,19,none⟩)] w (Out (zi F) wv base fb S w):=by
 unfold zi;cases hs:F.st with
 |nil=>
  have h1:=h.st;rw[hs] at h1;obtain⟨ad,cap,rfl⟩:=Zk h1;exact(pop_no fb 19 cap ad w h.row (by decide) rfl).mono fun e w' ⟨h1,h2⟩=>⟨h1,Kb.of_below h2⟩
 |cons n r=>
  have h1:=h.st;have hl:=h.stl;rw[hs] at h1 hl;rw[List.reverse_cons] at h1;refine(pop_ok fb 19 n base r.reverse sv w h.row (by decide) rfl tF h1 (by simp at hl⊢;omega)).mono fun e w' ⟨h1,v',h2,h3,h4⟩=>⟨h1,h.stack (by simp at hl;omega) h2 (Or.inl h3) ⟨h4.kb.mono (fun i hi=>by rcases List.mem_cons.1 hi with e|e;simp[e];cases e),h4.row⟩⟩
theorem Fr.own {base fb:Nat} {F F':Fz} {S:List Nat} {sv mv:Value} {w w':World} (h:Fr base fb F S sv mv w) (hst:F'.st=F.st) (hme:F'.mem=F.mem) (hjd:F'.jd=F.jd) (hcd:F'.code=F.code) (hg:F'.gas<=100000) (hr:w'.rowIs fb 137 27 (F'.cell sv mv)) (hk:Kb [fb] w w'):To base fb F' S w w':=by
 refine⟨S,sv,mv,⟨hr,by rw[hst];exact hk.own h.st (fun k hk=>by simpa using h.fs k hk),by rw[hme];exact hk.own h.me (fun k hk=>by simpa using h.fm k hk),h.foot,by rw[hst];exact h.stl,by rw[hme];exact h.mel,hg,Nat.le_trans h.hb hk.size,zcA h.zr hk (fun hm=>h.no0 (by rw[h.foot];simp at hm;simp[hm])) h.hs,h.hb1,h.hfb,by rw[hme];exact h.m32,by rw[hjd,hcd];exact h.jr.kb hk (fun g N f hr hm=>h.bno g N f hr (by rw[h.foot];simp at hm;simp[hm]))⟩,hk.mono (fun i hi=>by rw[h.foot];simp at hi;simp[hi]),fun k hk=>Or.inl hk⟩
theorem zhW {base fb:Nat} {F:Fz} {S:List Nat} {sv mv:Value} (c:Nat) (hc:c<=100000000) (w:World) (h:Fr base fb F S sv mv w):
  Calls prog 204 #[.pointer (some ⟨fb,0,none⟩),.int .i64 (c:Int)] w (Out (yC c F) zx base fb S w):=by
 have hg:=h.row.cell (i:=16) (by decide);have hz:=h.row.frozen 16;rw[show F.cell sv mv 16=.int .i64 (F.gas:Int) from rfl] at hg;have hgl:=h.gal;unfold yC;by_cases hl:F.gas<c
 ·have d:decide ((F.gas:Int)<(c:Int))=true:=decide_eq_true (by omega);rw[if_pos hl];go_enter func204,ntmps204;go_wp2;exact⟨rfl,⟨_,_,rfl⟩,Kb.refl _ _⟩
 ·have d:decide ((F.gas:Int)<(c:Int))=false:=decide_eq_false (by omega);rw[if_neg hl];have HH:=zb h;clear h;go_enter func204,ntmps204;go_wp2;go_end0;refine⟨rfl,HH.out.own rfl rfl rfl rfl (by show F.gas - c<=_;omega) ?_ ((Kb.refl [fb] w).setCell (Or.inl (by simp)) _)⟩;rw[<-zak F sv mv (F.gas - c)];refine(HH.out.row.set 16 _).congr fun i hi=> ?_
  show(if i=_ then _ else _)=_;by_cases e:i=16
  ·rw[if_pos e,if_pos e];exact congrArg (Value.int .i64) (by omega)
  ·rw[if_neg e,if_neg e]
section
abbrev zw:Obj:=.cells #[.int .u64 0,.int .u64 0,.int .u64 0,.int .u64 0] 24
theorem Yb {d:Nat} {ty:TypeId} {s:Act} {x:World} {pos:String} {af:Array Edge} {g:Option (Nat×Bool)} {K:Act->World->Prop} {Q:Exit->Act->World->Prop}
  (hK:K (s.put (some d) (.pointer (some ⟨x.heap.size,0,none⟩))) (x.alloc zw)):
  Oper.wp prog ⟨some d,.alloc 24,ty,pos,af,g⟩ s x K Q:=by
 go_simp;exact hK
abbrev Kn:=Nat×Value->List Nat->Value->World->Prop
def yW (T:Kn):Prop:=∀c c' S S' v x x',T c S v x->((c'=c/\S'=S/\Below x.heap.size x x')\/(c.1<c'.1/\Kb S x x'/\∀k∈S',k∈S\/x.heap.size<=k))->T c' S' v x'
theorem YA {T:Kn} (h:∀c c' S S' v x x',T c S v x->(c'=c\/c.1<c'.1)->Kb S x x'->(∀k∈S',k∈S\/x.heap.size<=k)->T c' S' v x'):yW T:=fun c c' S S' v x x' ht hk=>by
 rcases hk with⟨h1,h2,h3⟩|⟨h1,h2,h3⟩
 ·exact h c c' S S' v x x' ht (Or.inl h1) (Kb.of_below h3) (fun k hk=>Or.inl (h2▸hk))
 ·exact h c c' S S' v x x' ht (Or.inr h1) h2 h3
def zhB (T:Kn):Prop:=∀c S v x x',T c S v x->x.heap.size<=x'.heap.size->T c S v x'
def Cst (c:Value):Kn:=fun _ _ v _=>v=c
theorem za9 (c:Value):yW (Cst c):=YA fun _ _ _ _ _ _ _ h _ _ _=>h
theorem zbr (c:Value):zhB (Cst c):=fun _ _ _ _ _ h _=>h
def Plc:Kn:=fun _ S v x=>∃b,v=.pointer (some ⟨b,0,none⟩)/\b∉S/\b<x.heap.size
theorem zca:yW Plc:=YA fun _ _ S S' v x x' ⟨b,h1,h2,h3⟩ _ hk hs=>⟨b,h1,fun hm=>(hs b hm).elim h2 (fun h=>by omega),Nat.lt_of_lt_of_le h3 hk.size⟩
theorem zbt:zhB Plc:=fun _ S v x x' ⟨b,h1,h2,h3⟩ hs=>⟨b,h1,h2,Nat.lt_of_lt_of_le h3 hs⟩
structure Bx where
 ia:Nat
 is:Nat
 sl:Nat
 n:Nat
abbrev Tb:=List (Option Nat×Kn)
abbrev zH (tab:Tb):List Nat:=tab.filterMap Prod.fst
def yR (s:Act):Option Nat->Value
 |some d=>s.tmps.getD d undef
 |none=>undef
def zcT:Tb->List Value->List (Nat×Value)
 |(some d,_)::l,v::vs=>(d,v)::zcT l vs
 |(none,_)::l,_::vs=>zcT l vs
 |_,_=>[]
theorem zcw (s:Act):∀tab:Tb,zcT tab (tab.map fun p=>yR s p.1)=(zH tab).map fun d=>(d,s.tmps.getD d undef)
 |[]=>rfl
 |(some d,T)::l=>by
  show(d,_)::zcT l _=_;rw[zcw s l];rfl
 |(none,T)::l=>by
  show zcT l _=_;rw[zcw s l];rfl
theorem zen:∀(tab:Tb),(zH tab).Nodup->∀(i j d:Nat) (T T':Kn),tab[i]? =some (some d,T)->tab[j]? =some (some d,T')->i=j
 |[],_,i,_,_,_,_,h,_=>by simp at h
 |p::l,hn,0,0,_,_,_,_,_=>rfl
 |p::l,hn,0,j+1,d,T,T',h,h'=>by
  obtain rfl:p=(some d,T):=by simpa using h
  exfalso;have hm:d∈zH l:=List.mem_filterMap.2 ⟨(some d,T'),List.mem_of_getElem? (by simpa using h'),rfl⟩;exact(List.nodup_cons.1 (show(d::zH l).Nodup from hn)).1 hm
 |p::l,hn,i+1,0,d,T,T',h,h'=>by
  obtain rfl:p=(some d,T'):=by simpa using h'
  exfalso;have hm:d∈zH l:=List.mem_filterMap.2 ⟨(some d,T),List.mem_of_getElem? (by simpa using h),rfl⟩;exact(List.nodup_cons.1 (show(d::zH l).Nodup from hn)).1 hm
 |p::l,hn,i+1,j+1,d,T,T',h,h'=>by
  have hn':(zH l).Nodup:=by
   obtain⟨o,T0⟩:=p;cases o with
   |none=>exact hn
   |some d0=>exact(List.nodup_cons.1 (show(d0::zH l).Nodup from hn)).2
  rw[zen l hn' i j d T T' (by simpa using h) (by simpa using h')]
theorem Yf {tab:Tb} {i d:Nat} {T:Kn} (h:tab[i]? =some (some d,T)):d∈zH tab:=List.mem_filterMap.2 ⟨_,List.mem_of_getElem? h,rfl⟩
theorem zaH (s:Act) (d:Option Nat) (v:Value) (k:Nat) (hd:∀e,d=some e->e<s.tmps.size/\e≠k):(s.put d v).tmps.getD k undef=s.tmps.getD k undef:=by
 cases d with
 |none=>rfl
 |some e=>rw[zaj _ _ _ _ (hd e rfl).1,if_neg (fun h=>(hd e rfl).2 h.symm)]
theorem Fr.footlt {base fb:Nat} {F:Fz} {S:List Nat} {sv mv:Value} {w:World} (h:Fr base fb F S sv mv w):∀k∈S,k<w.heap.size:=by
 intro k hk;rw[h.foot] at hk;rcases List.mem_cons.1 hk with h1|h1
 ·rw[h1];exact h.row.lt
 ·rcases List.mem_append.1 h1 with h2|h2
  ·exact(h.st.lt k (by simpa using h2)).2
  ·exact(h.me.lt k (by simpa using h2)).2
theorem Fr.kb {base fb:Nat} {F:Fz} {S T:List Nat} {sv mv:Value} {w w':World} (h:Fr base fb F S sv mv w) (hk:Kb T w w') (hT:∀k∈S,k∉T) (h0:0∉T) (hbn:∀g N f,w.rowIs g 4 N f->g∉T):Fr base fb F S sv mv w':=
 ⟨hk.row h.row (hT fb (by rw[h.foot];simp)),hk.own h.st (fun k hk2=>hT k (by rw[h.foot];simp[hk2])),hk.own h.me (fun k hk2=>hT k (by rw[h.foot];simp[hk2])),h.foot,h.stl,h.mel,h.gal,Nat.le_trans h.hb hk.size,zcA h.zr hk h0 h.hs,h.hb1,h.hfb,h.m32,h.jr.kb hk hbn⟩
def put4 (x:World) (b n:Nat):World:=(((x.setCell ⟨b,0,none⟩ (.int .u64 (za n 0))).setCell ⟨b,1,none⟩ (.int .u64 (za n 1))).setCell ⟨b,2,none⟩ (.int .u64 (za n 2))).setCell ⟨b,3,none⟩ (.int .u64 (za n 3))
theorem put4_kb (x:World) (b n:Nat):Kb [b] x (put4 x b n):=((((Kb.refl [b] x).setCell (Or.inl (by simp)) _).setCell (Or.inl (by simp)) _).setCell (Or.inl (by simp)) _).setCell (Or.inl (by simp)) _
theorem zQ (l:Array Bool) (i j:Nat) (hi:i<l.size):(l.setIfInBounds i true).getD j false=if i=j then true else l.getD j false:=by
 by_cases e:i=j
 ·subst e;simp[Array.getD_eq_getD_getElem?,hi]
 ·simp[Array.getD_eq_getD_getElem?,Array.getElem?_setIfInBounds,e]
variable {ops:Array Oper} {Q:Exit->Act->World->Prop}
structure GG (ops:Array Oper) (base fb:Nat) (Fk:Nat->Fz) (S0:List Nat) (w0:World) (tab:Tb) (calls:List Nat) (bxs:List Bx) (a:Act) (l:Array Bool) (s:Act) (x:World) (k:Nat) (S:List Nat) (sv mv:Value):Prop where
 cnt:∀(p c:Nat),calls[p]? =some c->(l.getD c false=true↔p<k)
 kle:k<=calls.length
 fr:Fr base fb (Fk k) S sv mv x
 kb:Kb S0 w0 x
 sub:∀j∈S,j∈S0\/w0.heap.size<=j
 sz:s.tmps.size=a.tmps.size
 df:s.defers=a.defers
 out:∀j,j∉zH tab->s.tmps.getD j undef=a.tmps.getD j undef
 kn:∀(i:Nat) (d:Option Nat) (T:Kn),tab[i]? =some (d,T)->l.getD i false=true->T (k,mv) S (yR s d) x
 bx:∀b∈bxs,l.getD b.ia false=true->∀bl,s.tmps.getD b.sl undef=.pointer (some ⟨bl,0,none⟩)->w0.heap.size<=bl/\x.rowIs bl 24 4 (zu (if l.getD b.is false=true then za b.n else fun _=>0))
 bc:∀b∈bxs,l.getD b.is false=true->l.getD b.ia false=true
 cl:∀i j,l.getD i false=true->YZ ops i j=true->l.getD j false=true
 bd:∀b∈bxs,∀b'∈bxs,b.ia≠b'.ia->l.getD b.ia false=true->l.getD b'.ia false=true->s.tmps.getD b.sl undef≠s.tmps.getD b'.sl undef
theorem zhJ {i j:Nat} {o:Oper} (ho:ops[i]? =some o) (h:YZ ops i j=true):∃e∈o.after,Region.binds .any e=true/\e.on=j:=by
 unfold YZ at h;rw[ho] at h;simp only[Option.map_some,Option.getD_some,Array.any_eq_true',Bool.and_eq_true,beq_iff_eq] at h;obtain⟨e,he,h1,h2⟩:=h;exact⟨e,he,h1,h2⟩
theorem GG.upd {base fb:Nat} {Fk:Nat->Fz} {S0:List Nat} {w0:World} {tab:Tb} {calls:List Nat} {bxs:List Bx} {a:Act} {l:Array Bool} {s:Act} {x:World} {k:Nat} {S:List Nat} {sv mv:Value}
  (G:GG ops base fb Fk S0 w0 tab calls bxs a l s x k S sv mv) (hnd:(zH tab).Nodup) (hlt:∀d,d∈zH tab->d<a.tmps.size)
  (hstab:∀(i:Nat) (d:Option Nat) (T:Kn),tab[i]? =some (d,T)->yW T) (hba:∀b∈bxs,tab[b.ia]? =some (some b.sl,Plc))
  {i:Nat} {d:Option Nat} {T:Kn} {v:Value} {x':World} {k':Nat} {S':List Nat} {sv' mv':Value} (hi:i<l.size) (hdv:tab[i]? =some (d,T)) (hnb:∀b∈bxs,i≠b.ia/\i≠b.is)
  (hcl:∀i' j,(l.setIfInBounds i true).getD i' false=true->YZ ops i' j=true->(l.setIfInBounds i true).getD j false=true) (hcnt:∀(p c:Nat),calls[p]? =some c->((l.setIfInBounds i true).getD c false=true↔p<k')) (hkle:k'<=calls.length) (hF:Fr base fb (Fk k') S' sv' mv' x') (hkb:Kb S x x') (hsub:∀j∈S',j∈S\/x.heap.size<=j) (hv:d=none->v=undef) (hkk:((k',mv')=(k,mv)/\S'=S/\Below x.heap.size x x')\/(k<k'/\Kb S x x'/\∀k∈S',k∈S\/x.heap.size<=k)) (hT:T (k',mv') S' v x'):
  GG ops base fb Fk S0 w0 tab calls bxs a (l.setIfInBounds i true) (s.put d v) x' k' S' sv' mv':=by
 have hds:∀e,d=some e->e<s.tmps.size:=fun e he=>by rw[G.sz];exact hlt e (Yf (by rw[hdv,he]))
 have hother:∀(j:Nat) (dj:Option Nat) (Tj:Kn),tab[j]? =some (dj,Tj)->j≠i->yR (s.put d v) dj=yR s dj:=fun j dj Tj hj hne=>by
  cases dj with
  |none=>rfl
  |some e=>
   refine zaH s d v e fun e' he'=>⟨hds e' he',fun h=> ?_⟩
   subst h;exact hne (zen tab hnd j i e' Tj T hj (by rw[hdv,he']))
 have hslot:∀b∈bxs,(s.put d v).tmps.getD b.sl undef=s.tmps.getD b.sl undef:=fun b hb=>hother b.ia (some b.sl) Plc (hba b hb) (hnb b hb).1.symm
 refine⟨hcnt,hkle,hF,G.kb.trans hkb G.sub,fun j hj=> ?_, ?_, ?_,fun j hj=> ?_,fun j dj Tj hj hl=> ?_,fun b hb hl bl hbl=> ?_,fun b hb hl=> ?_,hcl,fun b hb b' hb' hne hl hl'=> ?_⟩
 ·rcases hsub j hj with h|h
  ·exact G.sub j h
  ·exact Or.inr (Nat.le_trans G.kb.size h)
 ·rw[<-G.sz];cases d<;>simp[Act.put]
 ·rw[<-G.df];cases d<;>rfl
 ·rw[<-G.out j hj];refine zaH s d v j fun e he=>⟨hds e he,fun h=>hj ?_⟩
  subst h;exact Yf (by rw[hdv,he])
 ·by_cases e:j=i
  ·subst e;rw[hdv] at hj;obtain⟨rfl,rfl⟩:=Prod.mk.inj (Option.some.inj hj);cases d with
   |none=>rw[hv rfl] at hT;exact hT
   |some e'=>
    show T (k',mv') S' ((s.put (some e') v).tmps.getD e' undef) x';rw[zaj _ _ _ _ (hds e' rfl),if_pos rfl];exact hT
  ·rw[zQ l i j hi,if_neg (fun h=>e h.symm)] at hl;rw[hother j dj Tj hj e];exact hstab j dj Tj hj (k,mv) (k',mv') S S' _ x x' (G.kn j dj Tj hj hl) hkk
 ·rw[zQ l i b.ia hi,if_neg (hnb b hb).1] at hl;rw[hslot b hb] at hbl;rw[zQ l i b.is hi,if_neg (hnb b hb).2];obtain⟨b0,e0,h0,_⟩:=G.kn b.ia (some b.sl) Plc (hba b hb) hl
  have e1:b0=bl:=by
   have:Value.pointer (some ⟨b0,0,none⟩)=Value.pointer (some ⟨bl,0,none⟩):=e0.symm.trans hbl;injection this with this
   injection this with this
   injection this
  subst e1;exact⟨(G.bx b hb hl _ hbl).1,hkb.row (G.bx b hb hl _ hbl).2 h0⟩
 ·rw[zQ l i b.is hi,if_neg (hnb b hb).2] at hl;rw[zQ l i b.ia hi,if_neg (hnb b hb).1];exact G.bc b hb hl
 ·rw[zQ l i b.ia hi,if_neg (hnb b hb).1] at hl;rw[zQ l i b'.ia hi,if_neg (hnb b' hb').1] at hl';rw[hslot b hb,hslot b' hb'];exact G.bd b hb b' hb' hne hl hl'
theorem zjW:∀{bxs:List Bx},(bxs.flatMap fun b=>[b.ia,b.is]).Nodup->∀{b b':Bx},b∈bxs->b'∈bxs->b.ia=b'.ia->b=b'
 |c::r,hn,b,b',hb,hb',h=>by
  have hn2:(c.ia::c.is::r.flatMap fun b=>[b.ia,b.is]).Nodup:=hn;obtain⟨h1,h2⟩:=List.nodup_cons.1 hn2;have h3:=(List.nodup_cons.1 h2).2;rcases List.mem_cons.1 hb with rfl|hb1<;>rcases List.mem_cons.1 hb' with rfl|hb2
  ·rfl
  ·exact absurd (List.mem_cons_of_mem _ (List.mem_flatMap.2 ⟨b',hb2,by simp[h]⟩)) h1
  ·exact absurd (List.mem_cons_of_mem _ (List.mem_flatMap.2 ⟨b,hb1,by simp[h]⟩)) h1
  ·exact zjW h3 hb1 hb2 h
theorem zhI:∀{bxs:List Bx},(bxs.flatMap fun b=>[b.ia,b.is]).Nodup->∀{b b':Bx},b∈bxs->b'∈bxs->b.is=b'.is->b.ia=b'.ia
 |c::r,hn,b,b',hb,hb',h=>by
  have hn2:(c.ia::c.is::r.flatMap fun b=>[b.ia,b.is]).Nodup:=hn;obtain⟨h1,h2⟩:=List.nodup_cons.1 hn2;obtain⟨h4,h3⟩:=List.nodup_cons.1 h2;rcases List.mem_cons.1 hb with rfl|hb1<;>rcases List.mem_cons.1 hb' with rfl|hb2
  ·rfl
  ·exact absurd (List.mem_flatMap.2 ⟨b',hb2,by simp[h]⟩) h4
  ·exact absurd (List.mem_flatMap.2 ⟨b,hb1,by simp[h]⟩) h4
  ·exact zhI h3 hb1 hb2 h
def zdg (ops:Array Oper):Nat->Nat->Nat->Bool
 |0,i,c=>YZ ops i c
 |f+1,i,c=>YZ ops i c||(List.range ops.size).any fun j=>YZ ops i j&&zdg ops f j c
theorem zdj {l:Array Bool} (hcl:∀i j,l.getD i false=true->YZ ops i j=true->l.getD j false=true):∀(f i c:Nat),(∀j,YZ ops i j=true->l.getD j false=true)->zdg ops f i c=true->l.getD c false=true
 |0,i,c,hd,h=>hd c h
 |f+1,i,c,hd,h=>by
  unfold zdg at h;rcases(Bool.or_eq_true_iff.1 h) with h1|h1
  ·exact hd c h1
  ·obtain⟨j,_,h2⟩:=List.any_eq_true.1 h1;obtain⟨h3,h4⟩:=Bool.and_eq_true_iff.1 h2;exact zdj hcl f j c (fun k hk=>hcl j k (hd j h3) hk) h4
theorem YP {id:Nat} {a:Act} {w:World} (hm:prog.follows .mixedOrders=true) (hdown:zeX ops=true)
  (base fb:Nat) (Fk:Nat->Fz) (S0:List Nat) (w0:World) (hw0:0<w0.heap.size) (tab:Tb) (calls:List Nat) (bxs:List Bx)
  (hlen:tab.length=ops.size) (hnd:decide (zH tab).Nodup=true) (hlt0:((zH tab).all fun d=>decide (d<a.tmps.size))=true)
  (hstab:∀(i:Nat) (d:Option Nat) (T:Kn),tab[i]? =some (d,T)->yW T) (hstabB:bxs≠[]->∀(i:Nat) (d:Option Nat) (T:Kn),tab[i]? =some (d,T)->zhB T)
  (S1:List Nat) (sv1 mv1:Value) (hF:Fr base fb (Fk 0) S1 sv1 mv1 w.drew) (hK0:Kb S0 w0 w.drew) (hS0:∀j∈S1,j∈S0\/w0.heap.size<=j)
  (bas:List (Nat×Value)) (hbas:∀p∈bas,a.tmps.getD p.1 undef=p.2) (hapart:(bas.all fun p=> !(zH tab).contains p.1)=true)
  (hchain:((List.range (calls.length - 1)).all fun p=>zdg ops 3 (calls.getD (p+1) 0) (calls.getD p 0))=true)
  (hix:decide (calls++bxs.flatMap fun b=>[b.ia,b.is]).Nodup=true) (hcl:(calls.all fun c=>decide (c<ops.size))=true)
  (hba:∀b∈bxs,tab[b.ia]? =some (some b.sl,Plc)/\tab[b.is]? =some (none,Cst undef)/\YZ ops b.is b.ia=true)
  (hq:∀(i:Nat) (o:Oper) (d:Option Nat) (T:Kn),ops[i]? =some o->tab[i]? =some (d,T)->i∉calls->(∀b∈bxs,i≠b.ia/\i≠b.is)->∀s x k S sv mv,Fr base fb (Fk k) S sv mv x->Kb S0 w0 x->(∀p∈bas,s.tmps.getD p.1 undef=p.2)->
   (∀e∈o.after,Region.binds .any e=true->∀(d':Option Nat) (T':Kn),tab[e.on]? =some (d',T')->T' (k,mv) S (yR s d') x)->
   (∀p c,calls[p]? =some c->zdg ops 3 c i=true->k<=p)->
   (Region.wanted o (yielded ops s.tmps)=true/\∀K:Act->World->Prop,(∀v x',Below x.heap.size x x'->(d=none->v=undef)->T (k,mv) S v x'->K (s.put d v) x')->Oper.wp prog o s x K Q))
  (hc:∀(p i:Nat) (o:Oper) (d:Option Nat) (T:Kn),calls[p]? =some i->ops[i]? =some o->tab[i]? =some (d,T)->∀s x S sv mv,Fr base fb (Fk p) S sv mv x->Kb S0 w0 x->(∀j∈S,j∈S0\/w0.heap.size<=j)->s.defers=a.defers->(∀p∈bas,s.tmps.getD p.1 undef=p.2)->
   (∀e∈o.after,Region.binds .any e=true->∀(d':Option Nat) (T':Kn),tab[e.on]? =some (d',T')->T' (p,mv) S (yR s d') x)->
   (Region.wanted o (yielded ops s.tmps)=true/\∀K:Act->World->Prop,(∀v S' sv' mv' x',Fr base fb (Fk (p+1)) S' sv' mv' x'->Kb S x x'->(∀j∈S',j∈S\/x.heap.size<=j)->(d=none->v=undef)->T (p+1,mv') S' v x'->K (s.put d v) x')->Oper.wp prog o s x K Q))
  (hal:∀b∈bxs,∀o,ops[b.ia]? =some o->∀s x,(Region.wanted o (yielded ops s.tmps)=true/\∀K:Act->World->Prop,K (s.put (some b.sl) (.pointer (some ⟨x.heap.size,0,none⟩))) (x.alloc zw)->Oper.wp prog o s x K Q))
  (hst:∀b∈bxs,∀o,ops[b.is]? =some o->∀s x bl f S c,s.tmps.getD b.sl undef=.pointer (some ⟨bl,0,none⟩)->x.rowIs bl 24 4 f->
   (∀e∈o.after,Region.binds .any e=true->∀(d':Option Nat) (T':Kn),tab[e.on]? =some (d',T')->T' c S (yR s d') x)->
   (Region.wanted o (yielded ops s.tmps)=true/\∀K:Act->World->Prop,K (s.put none undef) (put4 x bl b.n)->Oper.wp prog o s x K Q))
  (hdone:∀(vs:List Value) x S sv mv,Fr base fb (Fk calls.length) S sv mv x->Kb S0 w0 x->(∀j∈S,j∈S0\/w0.heap.size<=j)->vs.length=tab.length->(∀(i:Nat) (d:Option Nat) (T:Kn),tab[i]? =some (d,T)->T (calls.length,mv) S (vs.getD i undef) x)->
   (∀b∈bxs,∀bl,vs.getD b.ia undef=.pointer (some ⟨bl,0,none⟩)->w0.heap.size<=bl/\x.rowIs bl 24 4 (zu (za b.n)))->Q .normal (zF a (zcT tab vs)) x):
  (Code.region id ops true).wp prog Q a w:=by
 have hnd:=of_decide_eq_true hnd;have hix:=of_decide_eq_true hix;have hlt:∀d,d∈zH tab->d<a.tmps.size:=fun d hd=>of_decide_eq_true (List.all_eq_true.1 hlt0 d hd)
 have hap:∀p∈bas,p.1∉zH tab:=fun p hp hm=>by
  have:=List.all_eq_true.1 hapart p hp;simp only[Bool.not_eq_true',List.contains_eq_mem,decide_eq_false_iff_not] at this;exact this hm
 have hnotc:∀b∈bxs,b.ia∉calls/\b.is∉calls:=fun b hb=>by
  have hd:=(List.nodup_append.1 hix).2.2;exact⟨fun h=>hd b.ia h b.ia (List.mem_flatMap.2 ⟨b,hb,by simp⟩) rfl,fun h=>hd b.is h b.is (List.mem_flatMap.2 ⟨b,hb,by simp⟩) rfl⟩
 have hbp:∀b∈bxs,tab[b.ia]? =some (some b.sl,Plc):=fun b hb=>(hba b hb).1
 refine zcr hm hdown (fun l s x=>∃k S sv mv,GG ops base fb Fk S0 w0 tab calls bxs a l s x k S sv mv) ?_ ?_ ?_
 ·have hrep:∀j,(Array.replicate ops.size false).getD j false=false:=fun j=>by
   rw[Array.getD_eq_getD_getElem?,Array.getElem?_replicate];split<;>rfl
  exact⟨0,S1,sv1,mv1,⟨fun p c _=>(by rw[hrep];simp),Nat.zero_le _,hF,hK0,hS0,rfl,rfl,fun _ _=>rfl,fun i d T _ hl=>(by rw[hrep] at hl;cases hl),fun b _ hl=>(by rw[hrep] at hl;cases hl),fun b _ hl=>(by rw[hrep] at hl;cases hl),fun i j hl=>(by rw[hrep] at hl;cases hl),fun b _ b' _ _ hl=>(by rw[hrep] at hl;cases hl)⟩⟩
 ·rintro l i o hls ho hnl hdep s x ⟨k,S,sv,mv,G⟩;have hio:i<ops.size:=(Array.getElem?_eq_some_iff.1 ho).1;have hil:i<l.size:=by omega
  obtain⟨⟨d,T⟩,hdv⟩:∃p,tab[i]? =some p:=⟨_,List.getElem?_eq_getElem (by omega)⟩;have hb':∀p∈bas,s.tmps.getD p.1 undef=p.2:=fun p hp=>(G.out p.1 (hap p hp)).trans (hbas p hp)
  have hdp:∀e∈o.after,Region.binds .any e=true->∀(d':Option Nat) (T':Kn),tab[e.on]? =some (d',T')->T' (k,mv) S (yR s d') x:=fun e he hb d' T' h=>G.kn _ _ _ h (hdep e he hb)
  have hdj:∀j,YZ ops i j=true->l.getD j false=true:=fun j hj=>by
   obtain⟨e,he,hb,hon⟩:=zhJ ho hj;exact hon▸hdep e he hb
  have hcl2:∀i' j,(l.setIfInBounds i true).getD i' false=true->YZ ops i' j=true->(l.setIfInBounds i true).getD j false=true:=fun i' j h1 h2=>by
   rw[zQ l i j hil];by_cases e:i=j
   ·rw[if_pos e]
   ·rw[if_neg e];rw[zQ l i i' hil] at h1;by_cases e2:i=i'
    ·subst e2;exact hdj j h2
    ·rw[if_neg e2] at h1;exact G.cl i' j h1 h2
  refine wpOp_step ho fun K hK=> ?_
  by_cases hic:i∈calls
  ·obtain⟨p,hp⟩:=List.getElem?_of_mem hic;have hcn:calls.Nodup:=(List.nodup_append.1 hix).1
   have hkp:k=p:=by
    have h1:¬p<k:=fun h=>by rw[(G.cnt p i hp).2 h] at hnl;cases hnl
    cases p with
    |zero=>omega
    |succ q=>
     have hq2:q<calls.length:=by have:=(List.getElem?_eq_some_iff.1 hp).1;omega
     have h2:=List.all_eq_true.1 hchain q (List.mem_range.2 (by have:=(List.getElem?_eq_some_iff.1 hp).1;omega));rw[List.getD_eq_getElem?_getD,hp,Option.getD_some] at h2;have h3:=zdj G.cl 3 i _ hdj h2;rw[List.getD_eq_getElem?_getD,List.getElem?_eq_getElem hq2,Option.getD_some] at h3;have h4:=(G.cnt q _ (List.getElem?_eq_getElem hq2)).1 h3;omega
   subst hkp;obtain⟨hw,hrun⟩:=hc k i o d T hp ho hdv s x S sv mv G.fr G.kb G.sub G.df hb' hdp;rw[if_pos hw];refine hrun K fun v S' sv' mv' x' hF' hkb hsub hv hT=>hK _ _ ⟨k+1,S',sv',mv',G.upd hnd hlt hstab hbp hil hdv (fun b hb=>⟨fun h=>(hnotc b hb).1 (h▸hic),fun h=>(hnotc b hb).2 (h▸hic)⟩) hcl2 (fun q c hqc=> ?_) (by have:=(List.getElem?_eq_some_iff.1 hp).1;omega) hF' hkb hsub hv (Or.inr ⟨Nat.lt_succ_self k,hkb,hsub⟩) hT⟩
   rw[zQ l i c hil];by_cases e:i=c
   ·subst e;have:q=k:=(List.getElem?_inj (List.getElem?_eq_some_iff.1 hqc).1 hcn).1 (hqc.trans hp.symm);subst this;simp
   ·rw[if_neg e,G.cnt q c hqc];have:q≠k:=fun h=>e (by subst h;rw[hp] at hqc;exact Option.some.inj hqc)
    omega
  ·have hcnt':∀(p c:Nat),calls[p]? =some c->((l.setIfInBounds i true).getD c false=true↔p<k):=fun p c hpc=>by
    rw[zQ l i c hil,if_neg (fun h=>hic (by rw[h];exact List.mem_of_getElem? hpc))];exact G.cnt p c hpc
   by_cases hia:∃b∈bxs,i=b.ia
   ·obtain⟨b,hb,rfl⟩:=hia;obtain⟨hw,hrun⟩:=hal b hb o ho s x;have hbs:b.sl<s.tmps.size:=by rw[G.sz];exact hlt _ (Yf (hbp b hb))
    have hget:(s.put (some b.sl) (.pointer (some ⟨x.heap.size,0,none⟩))).tmps.getD b.sl undef=.pointer (some ⟨x.heap.size,0,none⟩):=by rw[zaj _ _ _ _ hbs,if_pos rfl]
    have hother:∀(j:Nat) (dj:Option Nat) (Tj:Kn),tab[j]? =some (dj,Tj)->j≠b.ia->yR (s.put (some b.sl) (.pointer (some ⟨x.heap.size,0,none⟩))) dj=yR s dj:=fun j dj Tj hj hne=>by
     cases dj with
     |none=>rfl
     |some e=>
      refine zaH s (some b.sl) _ e fun e' he'=> ?_
      obtain rfl:=Option.some.inj he';exact⟨hbs,fun h=>hne (zen tab hnd j b.ia e Tj Plc hj (by rw[hbp b hb,h]))⟩
    have hbel:Below x.heap.size x (x.alloc zw):=bal (Below.refl _ x) _;have hsame:∀b'∈bxs,b'.ia=b.ia->b'=b:=fun b' hb' h=>zjW (List.nodup_append.1 hix).2.1 hb' hb h
    rw[if_pos hw];refine hrun K (hK _ _ ⟨k,S,sv,mv,hcnt',G.kle,G.fr.below hbel,G.kb.alloc _,G.sub,by rw[zaG];exact G.sz,by rw[zce];exact G.df,fun j hj=> ?_,fun j dj Tj hj hl=> ?_,fun b' hb' hl bl hbl=> ?_,fun b' hb' hl=> ?_,hcl2,fun b1 hb1 b2 hb2 hne hl1 hl2=> ?_⟩)
    ·rw[<-G.out j hj];refine zaH s (some b.sl) _ j fun e he=> ?_
     obtain rfl:=Option.some.inj he;exact⟨hbs,fun h=>hj (h▸Yf (hbp b hb))⟩
    ·by_cases e:j=b.ia
     ·subst e;rw[hbp b hb] at hj;obtain⟨rfl,rfl⟩:=Prod.mk.inj (Option.some.inj hj);exact⟨x.heap.size,hget,fun hm=>Nat.lt_irrefl _ (G.fr.footlt _ hm),by simp⟩
     ·rw[zQ l b.ia j hil,if_neg (fun h=>e h.symm)] at hl;rw[hother j dj Tj hj e];exact hstab j dj Tj hj (k,mv) (k,mv) S S _ x _ (G.kn j dj Tj hj hl) (Or.inl ⟨rfl,rfl,hbel⟩)
    ·by_cases e:b'.ia=b.ia
     ·obtain rfl:=hsame b' hb' e;rw[hget] at hbl;injection hbl with hbl
      injection hbl with hbl
      injection hbl with hbl
      subst hbl
      have hns:l.getD b'.is false=false:=by
       cases h:l.getD b'.is false
       ·rfl
       ·rw[G.bc b' hb' h] at hnl;cases hnl
      have hne2:¬b'.ia=b'.is:=fun h=>by have h9:=(hba b' hb').2.1;rw[<-h,hbp b' hb'] at h9;cases h9
      rw[zQ l b'.ia b'.is hil,if_neg hne2,hns];exact⟨G.kb.size,zj (fun _=>0) rfl rfl rfl rfl rfl⟩
     ·rw[zQ l b.ia b'.ia hil,if_neg (fun h=>e h.symm)] at hl;have h2:(s.put (some b.sl) (.pointer (some ⟨x.heap.size,0,none⟩))).tmps.getD b'.sl undef=s.tmps.getD b'.sl undef:=hother b'.ia (some b'.sl) Plc (hbp b' hb') e;rw[h2] at hbl;have hne2:¬b.ia=b'.is:=fun h=>by have:=(hba b' hb').2.1;rw[<-h,hbp b hb] at this;cases this
      rw[zQ l b.ia b'.is hil,if_neg hne2];exact⟨(G.bx b' hb' hl bl hbl).1,(G.bx b' hb' hl bl hbl).2.alloc _⟩
    ·have hne2:¬b.ia=b'.is:=fun h=>by have:=(hba b' hb').2.1;rw[<-h,hbp b hb] at this;cases this
     rw[zQ l b.ia b'.is hil,if_neg hne2] at hl;rw[zQ l b.ia b'.ia hil];by_cases e:b.ia=b'.ia
     ·rw[if_pos e]
     ·rw[if_neg e];exact G.bc b' hb' hl
    ·rw[zQ l b.ia b1.ia hil] at hl1;rw[zQ l b.ia b2.ia hil] at hl2;by_cases e1:b.ia=b1.ia
     ·obtain rfl:=hsame b1 hb1 e1.symm;rw[if_neg hne] at hl2;rw[hget,show(s.put (some b1.sl) (.pointer (some ⟨x.heap.size,0,none⟩))).tmps.getD b2.sl undef=s.tmps.getD b2.sl undef from hother b2.ia (some b2.sl) Plc (hbp b2 hb2) (Ne.symm hne)];obtain⟨b0,e0,_,h0⟩:=G.kn b2.ia (some b2.sl) Plc (hbp b2 hb2) hl2;intro h;have:Value.pointer (some ⟨x.heap.size,0,none⟩)=Value.pointer (some ⟨b0,0,none⟩):=h.trans e0;injection this with this
      injection this with this
      injection this with this
      omega
     ·rw[if_neg e1] at hl1;have h1:(s.put (some b.sl) (.pointer (some ⟨x.heap.size,0,none⟩))).tmps.getD b1.sl undef=s.tmps.getD b1.sl undef:=hother b1.ia (some b1.sl) Plc (hbp b1 hb1) (fun h=>e1 h.symm);by_cases e2:b.ia=b2.ia
      ·obtain rfl:=hsame b2 hb2 e2.symm;rw[hget,h1];obtain⟨b0,e0,_,h0⟩:=G.kn b1.ia (some b1.sl) Plc (hbp b1 hb1) hl1;intro h;have:Value.pointer (some ⟨b0,0,none⟩)=Value.pointer (some ⟨x.heap.size,0,none⟩):=e0.symm.trans h;injection this with this
       injection this with this
       injection this with this
       omega
      ·rw[if_neg e2] at hl2;rw[h1,show(s.put (some b.sl) (.pointer (some ⟨x.heap.size,0,none⟩))).tmps.getD b2.sl undef=s.tmps.getD b2.sl undef from hother b2.ia (some b2.sl) Plc (hbp b2 hb2) (fun h=>e2 h.symm)];exact G.bd b1 hb1 b2 hb2 hne hl1 hl2
   ·by_cases his:∃b∈bxs,i=b.is
    ·obtain⟨b,hb,rfl⟩:=his;obtain⟨e,he,hbi,hon⟩:=zhJ ho (hba b hb).2.2;have hla:l.getD b.ia false=true:=hon▸hdep e he hbi;obtain⟨bl,e0,h0,h1⟩:=G.kn b.ia (some b.sl) Plc (hbp b hb) hla;obtain⟨g1,g2⟩:=G.bx b hb hla bl e0;obtain⟨hw,hrun⟩:=hst b hb o ho s x bl _ S (k,mv) e0 g2 hdp;have hkb:=put4_kb x bl b.n;have hne:bxs≠[]:=fun h=>by rw[h] at hb;cases hb
     rw[if_pos hw];refine hrun K (hK _ _ ⟨k,S,sv,mv,hcnt',G.kle,G.fr.kb hkb (fun j hj=>by simp;exact fun h=>h0 (h▸hj)) (by simp;omega) (fun g N f hr hm=>yZ hr g2 tb1 (by simpa using hm)),G.kb.trans hkb (fun j hj=>Or.inr (by simp at hj;rw[hj];exact g1)),G.sub,G.sz,G.df,G.out,fun j dj Tj hj hl=> ?_,fun b' hb' hl bl' hbl=> ?_,fun b' hb' hl=> ?_,hcl2,fun b1 hb1 b2 hb2 hne hl1 hl2=> ?_⟩)
     ·by_cases e2:j=b.is
      ·subst e2;rw[(hba b hb).2.1] at hj;obtain⟨rfl,rfl⟩:=Prod.mk.inj (Option.some.inj hj);rfl
      ·rw[zQ l b.is j hil,if_neg (fun h=>e2 h.symm)] at hl;exact hstabB hne j dj Tj hj _ S _ x _ (G.kn j dj Tj hj hl) hkb.size
     ·have hne2:¬b.is=b'.ia:=fun h=>hia ⟨b',hb',h⟩
      rw[zQ l b.is b'.ia hil,if_neg hne2] at hl;have hbl2:s.tmps.getD b'.sl undef=.pointer (some ⟨bl',0,none⟩):=hbl;by_cases e2:b'.ia=b.ia
      ·obtain rfl:=zjW (List.nodup_append.1 hix).2.1 hb' hb e2
       have:bl=bl':=by
        have:Value.pointer (some ⟨bl,0,none⟩)=Value.pointer (some ⟨bl',0,none⟩):=e0.symm.trans hbl2;injection this with this
        injection this with this
        injection this
       subst this;rw[zQ l b'.is b'.is hil,if_pos rfl,if_pos rfl];exact⟨g1,zy g2 (za b'.n) rfl rfl rfl rfl⟩
      ·have hsd:=G.bd b' hb' b hb e2 hl hla;obtain⟨g3,g4⟩:=G.bx b' hb' hl bl' hbl2;have hbb:bl'≠bl:=fun h=>hsd (by rw[hbl2,h];exact e0.symm)
       have hne3:¬b.is=b'.is:=fun h=>e2 (zhI (List.nodup_append.1 hix).2.1 hb' hb h.symm)
       rw[zQ l b.is b'.is hil,if_neg hne3];exact⟨g3,hkb.row g4 (by simpa using hbb)⟩
     ·have hne2:¬b.is=b'.ia:=fun h=>hia ⟨b',hb',h⟩
      rw[zQ l b.is b'.ia hil,if_neg hne2];rw[zQ l b.is b'.is hil] at hl;by_cases e2:b.is=b'.is
      ·rw[<-zhI (List.nodup_append.1 hix).2.1 hb hb' e2];exact hla
      ·rw[if_neg e2] at hl;exact G.bc b' hb' hl
     ·rw[zQ l b.is b1.ia hil,if_neg (fun h=>hia ⟨b1,hb1,h⟩)] at hl1;rw[zQ l b.is b2.ia hil,if_neg (fun h=>hia ⟨b2,hb2,h⟩)] at hl2;exact G.bd b1 hb1 b2 hb2 hne hl1 hl2
    ·have hnb:∀b∈bxs,i≠b.ia/\i≠b.is:=fun b hb=>⟨fun h=>hia ⟨b,hb,h⟩,fun h=>his ⟨b,hb,h⟩⟩
     obtain⟨hw,hrun⟩:=hq i o d T ho hdv hic hnb s x k S sv mv G.fr G.kb hb' hdp (fun p c hpc han=>by
      refine Nat.le_of_not_lt fun hlt2=> ?_
      have hdone:=(G.cnt p c hpc).2 hlt2;have:=zdj G.cl 3 c i (fun j hj=>G.cl c j hdone hj) han;rw[this] at hnl;cases hnl)
     rw[if_pos hw];refine hrun K fun v x' hbel hv hT=>hK _ _ ⟨k,S,sv,mv,G.upd hnd hlt hstab hbp hil hdv hnb hcl2 hcnt' G.kle (G.fr.below hbel) (Kb.of_below hbel) (fun j hj=>Or.inl hj) hv (Or.inl ⟨rfl,rfl,hbel⟩) hT⟩
 ·rintro l s x hls hall ⟨k,S,sv,mv,G⟩
  have hk:k=calls.length:=by
   refine Nat.le_antisymm G.kle (Nat.le_of_not_lt fun h=> ?_);have h1:=List.getElem?_eq_getElem h;have h2:=(G.cnt k _ h1).1 (hall _ (of_decide_eq_true (List.all_eq_true.1 hcl _ (List.getElem_mem h))));omega
  subst hk
  have hmemt:∀p∈(zH tab).map (fun d=>(d,s.tmps.getD d undef)),p.1<a.tmps.size:=fun p hp=>by
   obtain⟨d,hd,rfl⟩:=List.mem_map.1 hp;exact hlt d hd
  have hfst:((zH tab).map (fun d=>(d,s.tmps.getD d undef))).map Prod.fst=zH tab:=by simp[List.map_map,Function.comp_def]
  have e:s=zF a (zcT tab (tab.map fun p=>yR s p.1)):=by
   rw[zcw];refine zk3 (by rw[zds,G.sz]) (by rw[zbx,G.df]) fun k _=> ?_
   by_cases hk:k∈zH tab
   ·rw[zhr _ a k (s.tmps.getD k undef) hmemt (by rw[hfst];exact hnd) (List.mem_map.2 ⟨k,hk,rfl⟩)]
   ·rw[G.out k hk,zc3 _ a k hmemt fun p hp e=>hk (by obtain⟨d,hd,rfl⟩:=List.mem_map.1 hp;exact e▸hd)]
  have hat:∀(i:Nat) (d:Option Nat) (T:Kn),tab[i]? =some (d,T)->(tab.map fun p=>yR s p.1).getD i undef=yR s d:=fun i d T h=>by rw[List.getD_eq_getElem?_getD,List.getElem?_map,h];rfl
  have hli:∀(i:Nat) (d:Option Nat) (T:Kn),tab[i]? =some (d,T)->l.getD i false=true:=fun i d T h=>hall i (by rw[<-hlen];exact(List.getElem?_eq_some_iff.1 h).1)
  have h:=hdone (tab.map fun p=>yR s p.1) x S sv mv G.fr G.kb G.sub (by simp) (fun i d T h=>by rw[hat i d T h];exact G.kn i d T h (hli i d T h)) (fun b hb bl hbl=>by
   rw[hat b.ia (some b.sl) Plc (hbp b hb)] at hbl;have h2:=G.bx b hb (hli _ _ _ (hbp b hb)) bl hbl;rw[if_pos (hli _ _ _ (hba b hb).2.1)] at h2;exact h2)
  rwa[<-e] at h
end
section
variable {ops:Array Oper} {Q:Exit->Act->World->Prop}
abbrev Kp:=Nat->Value->World->Prop
def kn (T:Kp):Kn:=fun c _ v x=>T c.1 v x
abbrev Tp:=List (Option Nat×Kp)
def tbp (t:Tp):Tb:=t.map fun p=>(p.1,kn p.2)
theorem zoO {t:Tp} {i:Nat} {d:Option Nat} {T:Kn} (h:(tbp t)[i]? =some (d,T)):∃U,t[i]? =some (d,U)/\T=kn U:=by
 unfold tbp at h;rw[List.getElem?_map] at h;cases e:t[i]? with
 |none=>rw[e] at h;cases h
 |some p=>
  rw[e] at h;obtain⟨h1,h2⟩:=Prod.mk.inj (Option.some.inj h);exact⟨p.2,by rw[<-h1],h2.symm⟩
theorem zhh {t:Tp} {i:Nat} {d:Option Nat} {U:Kp} (h:t[i]? =some (d,U)):(tbp t)[i]? =some (d,kn U):=by
 unfold tbp;rw[List.getElem?_map,h];rfl
structure GP (ops:Array Oper) (Ph:Nat->World->Prop) (tab:Tb) (calls:List Nat) (a:Act) (l:Array Bool) (s:Act) (x:World) (k:Nat):Prop where
 cnt:∀(p c:Nat),calls[p]? =some c->(l.getD c false=true↔p<k)
 kle:k<=calls.length
 ph:Ph k x
 sz:s.tmps.size=a.tmps.size
 df:s.defers=a.defers
 out:∀j,j∉zH tab->s.tmps.getD j undef=a.tmps.getD j undef
 kn:∀(i:Nat) (d:Option Nat) (T:Kn),tab[i]? =some (d,T)->l.getD i false=true->T (k,undef) [] (yR s d) x
 cl:∀i j,l.getD i false=true->YZ ops i j=true->l.getD j false=true
end
end cin
end Go.Proofs.YtohoajjdoihekaaGreatDoor
