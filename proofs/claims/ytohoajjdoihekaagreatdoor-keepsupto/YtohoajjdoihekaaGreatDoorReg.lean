import Derived.Test.YtohoajjdoihekaaGreatDoorRows
import Derived.WalkKit
import Derived.Deep.OwnRows
import Derived.WalkSpells
import Derived.WalkLawsBesides
import Derived.BigRegion
import Derived.Deep.RegionWith
import Derived.Deep.QuietTactic
import Derived.BigQuiet
import Derived.Shelf.Spec.BitsCarry
import Derived.Lib.Mul64
import Derived.Lib.BitFns
import Derived.ChangeKeysEq
import Derived.OrdersHeld
set_option linter.unusedVariables false
set_option linter.unusedSimpArgs false
namespace Go.Proofs.YtohoajjdoihekaaGreatDoor
namespace cin
open Go.RowKit Go.Proofs.Tryz Tryz
set_option maxRecDepth 100000
set_option maxHeartbeats 8000000
theorem pk {α : Type _} {β : Type _} {a c : α} {b d : β} (h : some (a, b) = some (c, d)) : a = c ∧ b = d := Prod.mk.inj (Option.some.inj h)
theorem nn1 {α : Type _} {d : α} {p : Prop} (h : some d = none) : p := by cases h
theorem sx9 {α : Type _} : (∀ (l : List α) (i : Nat) (v : α), l.toArray.setIfInBounds i v = (l.set i v).toArray) ∧ (∀ (a v : α) (l : List α), (a :: l).set 0 v = v :: l) ∧ ∀ (a v : α) (l : List α) (n : Nat), (a :: l).set (n + 1) v = a :: l.set n v := ⟨fun l i v => List.setIfInBounds_toArray .., fun _ _ _ => rfl, fun _ _ _ _ => rfl⟩
theorem sj {α : Type _} {a b : α} (h : some a = some b) : a = b := Option.some.inj h
def za (n i:Nat):Int:=((n/2^(64*i)%18446744073709551616:Nat):Int)
abbrev wv (n:Nat):Value:=.agg #[.int .u64 (za n 0),.int .u64 (za n 1),.int .u64 (za n 2),.int .u64 (za n 3)]
theorem zbM (n i:Nat):0<=za n i:=Int.natCast_nonneg _
theorem zeo (n i:Nat):za n i<18446744073709551616:=by unfold za;omega
def cy (a b k:Nat):Nat:=(a%2^(64*k)+b%2^(64*k))/2^(64*k)
theorem pw0:2^(64*0)=1:=rfl
theorem pw1:2^(64*1)=18446744073709551616:=rfl
theorem pw2:2^(64*2)=340282366920938463463374607431768211456:=rfl
theorem pw3:2^(64*3)=6277101735386680763835789423207666416102355444464034512896:=rfl
theorem pw4:2^(64*4)=115792089237316195423570985008687907853269984665640564039457584007913129639936:=rfl
theorem cy_le (a b k:Nat):cy a b k<=1:=by
 unfold cy;have h1:a%2^(64*k)<2^(64*k):=Nat.mod_lt _ (Nat.two_pow_pos _);have h2:b%2^(64*k)<2^(64*k):=Nat.mod_lt _ (Nat.two_pow_pos _)
 have:(a%2^(64*k)+b%2^(64*k))/2^(64*k)<2:=by
  rw[Nat.div_lt_iff_lt_mul (Nat.two_pow_pos _)];omega
 omega
theorem k4 {k:Nat} (h:k<4):k=0\/k=1\/k=2\/k=3:=by omega
theorem znm (a b k:Nat) (hk:k<4):(za a k+za b k+cy a b k)%18446744073709551616=za (a+b) k:=by
 unfold za cy;rcases k4 hk with rfl|rfl|rfl|rfl<;>simp only[pw0,pw1,pw2,pw3]<;>omega
theorem add_cy (a b k:Nat) (hk:k<4):(za a k+za b k+cy a b k)/18446744073709551616=cy a b (k+1):=by
 unfold za cy;rcases k4 hk with rfl|rfl|rfl|rfl<;>simp only[pw0,pw1,pw2,pw3,pw4,Nat.zero_add,Nat.reduceAdd]<;>omega
abbrev M:Nat:=115792089237316195423570985008687907853269984665640564039457584007913129639936
def bw (a b k:Nat):Nat:=if a%2^(64*k)<b%2^(64*k) then 1 else 0
def zbY (a b:Nat):Nat:=a+M - b%M
theorem bw_le (a b k:Nat):bw a b k<=1:=by unfold bw;split<;>omega
theorem zoi (a b k:Nat) (hk:k<4):(za a k+18446744073709551616 - za b k - bw a b k)%18446744073709551616=za (zbY a b) k:=by
 unfold za bw zbY M;rcases k4 hk with rfl|rfl|rfl|rfl<;>simp only[pw0,pw1,pw2,pw3]<;>split<;>omega
theorem sub_bw (a b k:Nat) (hk:k<4):(if za a k<za b k+bw a b k then(1:Int) else 0)=bw a b (k+1):=by
 unfold za bw;rcases k4 hk with rfl|rfl|rfl|rfl<;>simp only[pw0,pw1,pw2,pw3,pw4,Nat.zero_add,Nat.reduceAdd]<;>split<;>split<;>split<;>omega
theorem zi9:(18446744073709551616:Nat)=2^64:=rfl
theorem znP (a b k:Nat):((a/2^(64*k)%18446744073709551616) &&& (b/2^(64*k)%18446744073709551616))=(a &&& b)/2^(64*k)%18446744073709551616:=by
 apply Nat.eq_of_testBit_eq;intro i;rw[zi9];simp only[Nat.testBit_and,Nat.testBit_mod_two_pow,Nat.testBit_div_two_pow];cases decide (i<64)<;>simp
theorem limb_or (a b k:Nat):((a/2^(64*k)%18446744073709551616) ||| (b/2^(64*k)%18446744073709551616))=(a ||| b)/2^(64*k)%18446744073709551616:=by
 apply Nat.eq_of_testBit_eq;intro i;rw[zi9];simp only[Nat.testBit_or,Nat.testBit_mod_two_pow,Nat.testBit_div_two_pow];cases decide (i<64)<;>simp
theorem znQ (a b k:Nat):((a/2^(64*k)%18446744073709551616) ^^^ (b/2^(64*k)%18446744073709551616))=(a ^^^ b)/2^(64*k)%18446744073709551616:=by
 apply Nat.eq_of_testBit_eq;intro i;rw[zi9];simp only[Nat.testBit_xor,Nat.testBit_mod_two_pow,Nat.testBit_div_two_pow];cases decide (i<64)<;>simp
def zfc (a:Nat):Nat:=M - 1 - a%M
theorem znu (a k:Nat) (hk:k<4):18446744073709551615 - za a k=za (zfc a) k:=by
 unfold za zfc M;rcases k4 hk with rfl|rfl|rfl|rfl<;>simp only[pw0,pw1,pw2,pw3]<;>omega
def neg (a:Nat):Bool:=decide (57896044618658097711785492504343953926634992332820282019728792003956564819968<=a%M)
theorem zot (a:Nat):(za a 3/9223372036854775808==1)=neg a:=by
 unfold za neg M;rw[pw3,Bool.eq_iff_iff];simp only[beq_iff_eq,decide_eq_true_eq];omega
def zZ (n i:Nat):Nat:=n/2^(64*i)%18446744073709551616
theorem Zw (n i:Nat):za n i=(zZ n i:Int):=rfl
theorem Yi (n i:Nat):zZ n i<18446744073709551616:=Nat.mod_lt _ (by omega)
def val (f:Nat->Nat):Nat->Nat
 |0=>0
 |n+1=>val f n+f n*2^(64*n)
def upd (f:Nat->Nat) (p v:Nat):Nat->Nat:=fun i=>if i=p then v else f i
theorem pwS (n:Nat):2^(64*(n+1))=2^(64*n)*18446744073709551616:=by
 rw[show 64*(n+1)=64*n+64 by omega,Nat.pow_add]
theorem pwA (n m:Nat):2^(64*(n+m))=2^(64*n)*2^(64*m):=by
 rw[show 64*(n+m)=64*n+64*m by omega,Nat.pow_add]
theorem val_lt {f:Nat->Nat} (h:∀i,f i<18446744073709551616) (n:Nat):val f n<2^(64*n):=by
 induction n with
 |zero=>simp[val]
 |succ n ih=>
  simp only[val];rw[pwS];have h1:f n*2^(64*n)<=18446744073709551615*2^(64*n):=Nat.mul_le_mul (by have:=h n;omega) (Nat.le_refl _);omega
theorem zmY {f:Nat->Nat} (h:∀i,f i<18446744073709551616) (n i:Nat) (hi:i<n):zZ (val f n) i=f i:=by
 induction n with
 |zero=>omega
 |succ n ih=>
  simp only[val];by_cases e:i=n
  ·subst e;unfold zZ;have h2:=val_lt h i
   have h3:(val f i+f i*2^(64*i))/2^(64*i)=f i:=by
    rw[Nat.add_mul_div_right _ _ (Nat.two_pow_pos _),Nat.div_eq_of_lt h2];omega
   rw[h3];exact Nat.mod_eq_of_lt (h i)
  ·have hin:i<n:=by omega
   rw[<-ih hin];unfold zZ;obtain⟨d,rfl⟩:∃d,n=(i+1)+d:=⟨n - (i+1),by omega⟩;rw[pwA (i+1) d,pwS i]
   have e2:f (i+1+d)*(2^(64*i)*18446744073709551616*2^(64*d))=(f (i+1+d)*2^(64*d)*18446744073709551616)*2^(64*i):=by
    rw[Nat.mul_comm (2^(64*i)) 18446744073709551616,Nat.mul_assoc 18446744073709551616,Nat.mul_comm (2^(64*i)) (2^(64*d)),<-Nat.mul_assoc,<-Nat.mul_assoc,Nat.mul_right_comm (f (i+1+d)) 18446744073709551616 (2^(64*d))]
   rw[e2,Nat.add_mul_div_right _ _ (Nat.two_pow_pos _),Nat.add_mul_mod_self_right]
theorem zgI (f:Nat->Nat) (p v n:Nat) (h:n<=p):val (upd f p v) n=val f n:=by
 induction n with
 |zero=>rfl
 |succ n ih=>
  simp only[val];rw[ih (by omega)];simp[upd,show n≠p by omega]
theorem zkK (f:Nat->Nat) (p v n:Nat) (h:p<n):val (upd f p v) n+f p*2^(64*p)=val f n+v*2^(64*p):=by
 induction n with
 |zero=>omega
 |succ n ih=>
  simp only[val];by_cases e:p=n
  ·subst e;rw[zgI f p v p (Nat.le_refl _)];simp only[upd,if_true];omega
  ·have:=ih (by omega);simp only[upd,show n≠p by omega,if_false] at this⊢;omega
theorem zic (b n:Nat):val (zZ b) n=b%2^(64*n):=by
 induction n with
 |zero=>simp[val,Nat.mod_one]
 |succ n ih=>
  simp only[val];rw[ih,pwS,Nat.mod_mul,Nat.mul_comm (2^(64*n))];rfl
theorem zcy (b n:Nat):b%2^(64*(n+1))=b%2^(64*n)+zZ b n*2^(64*n):=by
 rw[<-zic,<-zic];rfl
theorem znw (n:Nat):val (fun _=>0) n=0:=by
 induction n with
 |zero=>rfl
 |succ n ih=>simp only[val];rw[ih,Nat.zero_mul]
theorem zn1 {f:Nat->Nat} (h:∀i,f i<18446744073709551616) {p v:Nat} (hv:v<18446744073709551616):∀i,upd f p v i<18446744073709551616:=by
 intro i;unfold upd;split
 ·exact hv
 ·exact h i
theorem zjz {g:Nat->Nat} {S x y b c i j:Nat} (hij:i+j<8) (hy:y=zZ b j)
  (h:val g 8+c*2^(64*(i+j))=S+x*(b%2^(64*j))*2^(64*i)):
  val (upd g (i+j) ((x*y+g (i+j)+c)%18446744073709551616)) 8+(x*y+g (i+j)+c)/18446744073709551616*2^(64*(i+(j+1)))=S+x*(b%2^(64*(j+1)))*2^(64*i):=by
 have hu:=zkK g (i+j) ((x*y+g (i+j)+c)%18446744073709551616) 8 hij;rw[zcy b j,<-hy,show i+(j+1)=(i+j)+1 by omega,pwS (i+j)]
 have e1:x*(b%2^(64*j)+y*2^(64*j))*2^(64*i)=x*(b%2^(64*j))*2^(64*i)+x*y*2^(64*(i+j)):=by
  rw[pwA i j,Nat.mul_add,Nat.add_mul,<-Nat.mul_assoc x y,Nat.mul_assoc (x*y),Nat.mul_comm (2^(64*j))]
 rw[e1,<-Nat.add_assoc,<-h];generalize 2^(64*(i+j))=P at*
 have e2:(x*y+g (i+j)+c)/18446744073709551616*(P*18446744073709551616)+(x*y+g (i+j)+c)%18446744073709551616*P=(x*y+g (i+j)+c)*P:=by
  rw[Nat.mul_comm P,<-Nat.mul_assoc,<-Nat.add_mul];congr 1;omega
 have e3:(x*y+g (i+j)+c)*P=x*y*P+g (i+j)*P+c*P:=by rw[Nat.add_mul,Nat.add_mul]
 omega
abbrev wv8 (n:Nat):Value:=.agg #[.int .u64 (za n 0),.int .u64 (za n 1),.int .u64 (za n 2),.int .u64 (za n 3),.int .u64 (za n 4),.int .u64 (za n 5),.int .u64 (za n 6),.int .u64 (za n 7)]
theorem k8 {k:Nat} (h:k<8):k=0\/k=1\/k=2\/k=3\/k=4\/k=5\/k=6\/k=7:=by omega
theorem zjH {g:Nat->Nat} {a b x c i:Nat} (hi:i<4) (hx:x=zZ a i) (hz:g (i+4)=0)
  (h:val g 8+c*2^(64*(i+4))=a%2^(64*i)*(b%2^(64*4))+x*(b%2^(64*4))*2^(64*i)):
  val (upd g (i+4) c) 8=a%2^(64*(i+1))*(b%2^(64*4)):=by
 have hu:=zkK g (i+4) c 8 (by omega);rw[hz,Nat.zero_mul,Nat.add_zero,h] at hu;rw[hu,zcy a i,<-hx,Nat.add_mul,Nat.mul_right_comm x]
def Yo (a b:Nat):Nat:=a%M*(b%M)
theorem zoB (a b:Nat):a%2^(64*4)*(b%2^(64*4))=Yo a b:=rfl
theorem zgM {f:Nat->Nat} (h:∀i,f i<18446744073709551616) {n:Nat} (hn:val f 8=n) (i:Nat) (hi:i<8):((f i:Nat):Int)=za n i:=by
 rw[Zw,<-hn,zmY h 8 i hi]
theorem zkm {x y m s:Nat} (hx:x<18446744073709551616) (hy:y<18446744073709551616) (hm:m<18446744073709551616) (hs:s<18446744073709551616):(x*y+m+s)/18446744073709551616<18446744073709551616:=by
 have h:x*y<=18446744073709551615*18446744073709551615:=Nat.mul_le_mul (by omega) (by omega);omega
def zu (f:Nat->Int):Nat->Value:=fun i=>.int .u64 (f i)
theorem zj {w:World} {n:Nat} {t:TypeId} (f:Nat->Int) {x0 x1 x2 x3:Int} (hn:n=w.heap.size) (h0:x0=f 0) (h1:x1=f 1) (h2:x2=f 2) (h3:x3=f 3):
  (w.alloc (.cells #[.int .u64 x0,.int .u64 x1,.int .u64 x2,.int .u64 x3] t)).rowIs n t 4 (zu f):=by
 subst hn;refine World.rowIs_alloc w _ t _ fun i hi=> ?_
 subst h0 h1 h2 h3;rcases k4 hi with rfl|rfl|rfl|rfl<;>rfl
theorem YI {w:World} {b:Nat} {t:TypeId} {n k:Nat} {f g:Nat->Int} (h:w.rowIs b t n (zu fun i=>if i<k then f i else g i)) {x:Int} (hx:x=f k):
  (w.setCell ⟨b,k,none⟩ (.int .u64 x)).rowIs b t n (zu fun i=>if i<k+1 then f i else g i):=by
 subst hx;refine(h.set k _).congr fun i _=> ?_
 simp only[zu];by_cases e:i=k
 ·subst e;simp
 ·by_cases l:i<k
  ·simp[e,l,Nat.lt_succ_of_lt l]
  ·simp[e,l,show¬i<k+1 by omega]
theorem ze {w:World} {b:Nat} {t:TypeId} {f:Nat->Int} (h:w.rowIs b t 4 (zu f)):
  w.cell? ⟨b,0,none⟩=some (.int .u64 (f 0))/\w.cell? ⟨b,1,none⟩=some (.int .u64 (f 1))/\w.cell? ⟨b,2,none⟩=some (.int .u64 (f 2))/\w.cell? ⟨b,3,none⟩=some (.int .u64 (f 3)):=
 ⟨h.cell (by omega),h.cell (by omega),h.cell (by omega),h.cell (by omega)⟩
theorem zg {w w':World} {b:Nat} {t:TypeId} {n:Nat} {f:Nat->Value} (h:w.rowIs b t n f) (hb:Below w.heap.size w w'):w'.rowIs b t n f:=
 h.of_block (hb.block b h.lt)
def zbc (x0 x1 x2 x3:Int):Nat->Int:=fun i=>if i=0 then x0 else if i=1 then x1 else if i=2 then x2 else x3
theorem ym {w:World} {b:Nat} {t:TypeId} {f:Nat->Value} (h:w.rowIs b t 4 f) (x0 x1 x2 x3:Int):
  ((((w.setCell ⟨b,0,none⟩ (.int .u64 x0)).setCell ⟨b,1,none⟩ (.int .u64 x1)).setCell ⟨b,2,none⟩ (.int .u64 x2)).setCell ⟨b,3,none⟩ (.int .u64 x3)).rowIs b t 4 (zu (zbc x0 x1 x2 x3)):=by
 refine((((h.set 0 _).set 1 _).set 2 _).set 3 _).congr fun i hi=> ?_
 rcases k4 hi with rfl|rfl|rfl|rfl<;>rfl
theorem YH {w:World} {n:Nat} {t:TypeId} (f:Nat->Int) {x0 x1 x2 x3 x4 x5 x6 x7:Int} (hn:n=w.heap.size) (h0:x0=f 0) (h1:x1=f 1) (h2:x2=f 2) (h3:x3=f 3) (h4:x4=f 4) (h5:x5=f 5) (h6:x6=f 6) (h7:x7=f 7):
  (w.alloc (.cells #[.int .u64 x0,.int .u64 x1,.int .u64 x2,.int .u64 x3,.int .u64 x4,.int .u64 x5,.int .u64 x6,.int .u64 x7] t)).rowIs n t 8 (zu f):=by
 subst hn;refine World.rowIs_alloc w _ t _ fun i hi=> ?_
 subst h0 h1 h2 h3 h4 h5 h6 h7;rcases k8 hi with rfl|rfl|rfl|rfl|rfl|rfl|rfl|rfl<;>rfl
theorem yc {w:World} {b:Nat} {t:TypeId} {f:Nat->Int} (h:w.rowIs b t 8 (zu f)):
  w.cell? ⟨b,0,none⟩=some (.int .u64 (f 0))/\w.cell? ⟨b,1,none⟩=some (.int .u64 (f 1))/\w.cell? ⟨b,2,none⟩=some (.int .u64 (f 2))/\w.cell? ⟨b,3,none⟩=some (.int .u64 (f 3))/\
  w.cell? ⟨b,4,none⟩=some (.int .u64 (f 4))/\w.cell? ⟨b,5,none⟩=some (.int .u64 (f 5))/\w.cell? ⟨b,6,none⟩=some (.int .u64 (f 6))/\w.cell? ⟨b,7,none⟩=some (.int .u64 (f 7)):=
 ⟨h.cell (by omega),h.cell (by omega),h.cell (by omega),h.cell (by omega),h.cell (by omega),h.cell (by omega),h.cell (by omega),h.cell (by omega)⟩
def pick8 (x0 x1 x2 x3 x4 x5 x6 x7:Int):Nat->Int:=fun i=>if i=0 then x0 else if i=1 then x1 else if i=2 then x2 else if i=3 then x3 else if i=4 then x4 else if i=5 then x5 else if i=6 then x6 else x7
theorem zh5 {w:World} {b:Nat} {t:TypeId} {f:Nat->Value} (h:w.rowIs b t 8 f) (x0 x1 x2 x3 x4 x5 x6 x7:Int):
  ((((((((w.setCell ⟨b,0,none⟩ (.int .u64 x0)).setCell ⟨b,1,none⟩ (.int .u64 x1)).setCell ⟨b,2,none⟩ (.int .u64 x2)).setCell ⟨b,3,none⟩ (.int .u64 x3)).setCell ⟨b,4,none⟩ (.int .u64 x4)).setCell ⟨b,5,none⟩ (.int .u64 x5)).setCell ⟨b,6,none⟩ (.int .u64 x6)).setCell ⟨b,7,none⟩ (.int .u64 x7)).rowIs b t 8 (zu (pick8 x0 x1 x2 x3 x4 x5 x6 x7)):=by
 refine((((((((h.set 0 _).set 1 _).set 2 _).set 3 _).set 4 _).set 5 _).set 6 _).set 7 _).congr fun i hi=> ?_
 rcases k8 hi with rfl|rfl|rfl|rfl|rfl|rfl|rfl|rfl<;>rfl
def ziu (f:Nat->Nat):Nat->Int:=fun i=>(f i:Int)
theorem zlq {w:World} {b:Nat} {t:TypeId} {n:Nat} {f:Nat->Nat} (h:w.rowIs b t n (zu (ziu f))) (p v:Nat):
  (w.setCell ⟨b,p,none⟩ (.int .u64 (v:Int))).rowIs b t n (zu (ziu (upd f p v))):=by
 refine(h.set p _).congr fun i _=> ?_
 simp only[zu,ziu,upd];by_cases e:i=p<;>simp[e]
theorem bal {w w':World} (h:Below w.heap.size w w') (o:Obj):Below w.heap.size w (w'.alloc o):=h.alloc h.size o
theorem ZE {w W w':World} (h:Below w.heap.size w W) (hb:Below W.heap.size W w'):Below w.heap.size w w':=h.trans (hb.mono h.size)
theorem bset {w w':World} (h:Below w.heap.size w w') {p:Addr} (hp:w.heap.size<=p.block) (u:Value):Below w.heap.size w (w'.setCell p u):=h.setCell hp u
theorem zfH (a b k:Nat):bits .and .u64 (za a k) (za b k)=za (a &&& b) k:=by
 unfold za;rw[bits_and_u64_nat _ _ (Nat.mod_lt _ (by omega)) (Nat.mod_lt _ (by omega)),znP a b k]
theorem zdc (a b k:Nat):bits .or .u64 (za a k) (za b k)=za (a ||| b) k:=by
 unfold za;rw[bits_or_u64_nat _ _ (Nat.mod_lt _ (by omega)) (Nat.mod_lt _ (by omega)),limb_or a b k]
theorem zfP (a b k:Nat):bits .xor .u64 (za a k) (za b k)=za (a ^^^ b) k:=by
 unfold za;rw[bits_xor_u64_nat _ _ (Nat.mod_lt _ (by omega)) (Nat.mod_lt _ (by omega)),znQ a b k]
theorem and_any (a b:Nat) (w:World):
  Calls prog 111 #[wv a,wv b] w fun e w'=>e=.returned (wv (a &&& b))/\Below w.heap.size w w':=by
 go_enter func111,ntmps111;go_wp2
 go_loopw [6] (fun t6 wr=>∃k:Nat,k<=4/\t6=.int .i64 k/\
   wr.rowIs w.heap.size 24 4 (zu fun i=>if i<k then za (a &&& b) i else za a i)/\wr.rowIs (w.heap.size+1) 24 4 (zu (za b))/\wr.rowIs (w.heap.size+1+1) 24 4 (zu fun _=>0)/\
   Below w.heap.size w wr)
   (fun t6 _=>4 - (intOf t6).toNat)
 case atStart=>
  refine⟨0,by omega,rfl, ?_, ?_, ?_, ?_⟩
  ·exact(((zj _ rfl rfl rfl rfl rfl).alloc _).alloc _)
  ·exact((zj (za b) (by simp) rfl rfl rfl rfl).alloc _)
  ·exact(zj (fun _=>0) (by simp) rfl rfl rfl rfl)
  ·exact(((Below.refl _ _).alloc (Nat.le_refl _) _).alloc (by simp) _).alloc (by simp;omega) _
 case round=>
  obtain⟨k,hk,rfl,hra,hrb,hrz,hbel⟩:=hrel;by_cases hlt:k<4
  ·have c1:=hra.cell hlt;have c2:=hrb.cell hlt;have c4:=hra.frozen k;simp only[zu,Nat.lt_irrefl,if_false] at c1 c2;go_wp2
   go_region
   all_goals go_wp2
   all_goals go_roundw
   case rel=>
    exact⟨k+1,by omega,by go_num,(YI hra (zfH a b k)).drew,(hrb.setOther (by simp) _).drew,(hrz.setOther (by simp;omega) _).drew,(hbel.setCell (by simp) _).drew⟩
   case measure=>simp[intOf];omega
  ·obtain rfl:k=4:=by omega
   obtain⟨c0,c1,c2,c3⟩:=ze hra;obtain⟨z0,z1,z2,z3⟩:=ze hrz;have f0:=hrz.frozen;go_wp2;obtain⟨q0,q1,q2,q3⟩:=ze (ym hrz (za (a &&& b) 0) (za (a &&& b) 1) (za (a &&& b) 2) (za (a &&& b) 3));simp only[zbc] at q0 q1 q2 q3;refine bodyPost_ret (v:=wv (a &&& b)) (by simp[results,results111,go_sem,q0,q1,q2,q3]) rfl ⟨rfl, ?_⟩;exact(((hbel.setCell (by simp;omega) _).setCell (by simp;omega) _).setCell (by simp;omega) _).setCell (by simp;omega) _
theorem or_any (a b:Nat) (w:World):
  Calls prog 112 #[wv a,wv b] w fun e w'=>e=.returned (wv (a ||| b))/\Below w.heap.size w w':=by
 go_enter func112,ntmps112;go_wp2
 go_loopw [6] (fun t6 wr=>∃k:Nat,k<=4/\t6=.int .i64 k/\
   wr.rowIs w.heap.size 24 4 (zu fun i=>if i<k then za (a ||| b) i else za a i)/\wr.rowIs (w.heap.size+1) 24 4 (zu (za b))/\wr.rowIs (w.heap.size+1+1) 24 4 (zu fun _=>0)/\
   Below w.heap.size w wr)
   (fun t6 _=>4 - (intOf t6).toNat)
 case atStart=>
  refine⟨0,by omega,rfl, ?_, ?_, ?_, ?_⟩
  ·exact(((zj _ rfl rfl rfl rfl rfl).alloc _).alloc _)
  ·exact((zj (za b) (by simp) rfl rfl rfl rfl).alloc _)
  ·exact(zj (fun _=>0) (by simp) rfl rfl rfl rfl)
  ·exact(((Below.refl _ _).alloc (Nat.le_refl _) _).alloc (by simp) _).alloc (by simp;omega) _
 case round=>
  obtain⟨k,hk,rfl,hra,hrb,hrz,hbel⟩:=hrel;by_cases hlt:k<4
  ·have c1:=hra.cell hlt;have c2:=hrb.cell hlt;have c4:=hra.frozen k;simp only[zu,Nat.lt_irrefl,if_false] at c1 c2;go_wp2
   go_region
   all_goals go_wp2
   all_goals go_roundw
   case rel=>
    exact⟨k+1,by omega,by go_num,(YI hra (zdc a b k)).drew,(hrb.setOther (by simp) _).drew,(hrz.setOther (by simp;omega) _).drew,(hbel.setCell (by simp) _).drew⟩
   case measure=>simp[intOf];omega
  ·obtain rfl:k=4:=by omega
   obtain⟨c0,c1,c2,c3⟩:=ze hra;obtain⟨z0,z1,z2,z3⟩:=ze hrz;have f0:=hrz.frozen;go_wp2;obtain⟨q0,q1,q2,q3⟩:=ze (ym hrz (za (a ||| b) 0) (za (a ||| b) 1) (za (a ||| b) 2) (za (a ||| b) 3));simp only[zbc] at q0 q1 q2 q3;refine bodyPost_ret (v:=wv (a ||| b)) (by simp[results,results112,go_sem,q0,q1,q2,q3]) rfl ⟨rfl, ?_⟩;exact(((hbel.setCell (by simp;omega) _).setCell (by simp;omega) _).setCell (by simp;omega) _).setCell (by simp;omega) _
theorem xor_any (a b:Nat) (w:World):
  Calls prog 113 #[wv a,wv b] w fun e w'=>e=.returned (wv (a ^^^ b))/\Below w.heap.size w w':=by
 go_enter func113,ntmps113;go_wp2
 go_loopw [6] (fun t6 wr=>∃k:Nat,k<=4/\t6=.int .i64 k/\
   wr.rowIs w.heap.size 24 4 (zu fun i=>if i<k then za (a ^^^ b) i else za a i)/\wr.rowIs (w.heap.size+1) 24 4 (zu (za b))/\wr.rowIs (w.heap.size+1+1) 24 4 (zu fun _=>0)/\
   Below w.heap.size w wr)
   (fun t6 _=>4 - (intOf t6).toNat)
 case atStart=>
  refine⟨0,by omega,rfl, ?_, ?_, ?_, ?_⟩
  ·exact(((zj _ rfl rfl rfl rfl rfl).alloc _).alloc _)
  ·exact((zj (za b) (by simp) rfl rfl rfl rfl).alloc _)
  ·exact(zj (fun _=>0) (by simp) rfl rfl rfl rfl)
  ·exact(((Below.refl _ _).alloc (Nat.le_refl _) _).alloc (by simp) _).alloc (by simp;omega) _
 case round=>
  obtain⟨k,hk,rfl,hra,hrb,hrz,hbel⟩:=hrel;by_cases hlt:k<4
  ·have c1:=hra.cell hlt;have c2:=hrb.cell hlt;have c4:=hra.frozen k;simp only[zu,Nat.lt_irrefl,if_false] at c1 c2;go_wp2
   go_region
   all_goals go_wp2
   all_goals go_roundw
   case rel=>
    exact⟨k+1,by omega,by go_num,(YI hra (zfP a b k)).drew,(hrb.setOther (by simp) _).drew,(hrz.setOther (by simp;omega) _).drew,(hbel.setCell (by simp) _).drew⟩
   case measure=>simp[intOf];omega
  ·obtain rfl:k=4:=by omega
   obtain⟨c0,c1,c2,c3⟩:=ze hra;obtain⟨z0,z1,z2,z3⟩:=ze hrz;have f0:=hrz.frozen;go_wp2;obtain⟨q0,q1,q2,q3⟩:=ze (ym hrz (za (a ^^^ b) 0) (za (a ^^^ b) 1) (za (a ^^^ b) 2) (za (a ^^^ b) 3));simp only[zbc] at q0 q1 q2 q3;refine bodyPost_ret (v:=wv (a ^^^ b)) (by simp[results,results113,go_sem,q0,q1,q2,q3]) rfl ⟨rfl, ?_⟩;exact(((hbel.setCell (by simp;omega) _).setCell (by simp;omega) _).setCell (by simp;omega) _).setCell (by simp;omega) _
theorem zg7 (x:Nat) (h:x<18446744073709551616):18446744073709551615 ^^^ x=18446744073709551615 - x:=by
 apply Nat.eq_of_testBit_eq;intro i;have e:(18446744073709551615:Nat) - x=2^64 - (x+1):=by omega
 rw[e,Nat.testBit_two_pow_sub_succ (by omega),Nat.testBit_xor,show(18446744073709551615:Nat)=2^64 - 1 from rfl,Nat.testBit_two_pow_sub_one];by_cases hi:i<64
 ·simp[hi]
 ·have:x.testBit i=false:=Nat.testBit_lt_two_pow (Nat.lt_of_lt_of_le h (by rw[zi9];exact Nat.pow_le_pow_right (by omega) (by omega)));simp[hi,this]
theorem zeM (a k:Nat) (hk:k<4):Op.unary .xor (.int .u64 (za a k))=pure (.int .u64 (za (zfc a) k)):=by
 have e:(if IntKind.u64.signed then -1 else IntKind.u64.max)=(((18446744073709551615:Nat)):Int):=by rfl
 rw[unary_xor,e,intBits_xor,<-znu a k hk];unfold za;rw[bits_xor_u64_nat _ _ (by omega) (Nat.mod_lt _ (by omega)),zg7 _ (Nat.mod_lt _ (by omega))];congr 2;omega
theorem not_any (a:Nat) (w:World):
  Calls prog 114 #[wv a] w fun e w'=>e=.returned (wv (zfc a))/\Below w.heap.size w w':=by
 go_enter func114,ntmps114;go_wp2
 go_loopw [4] (fun t6 wr=>∃k:Nat,k<=4/\t6=.int .i64 k/\
   wr.rowIs w.heap.size 24 4 (zu fun i=>if i<k then za (zfc a) i else za a i)/\wr.rowIs (w.heap.size+1) 24 4 (zu fun _=>0)/\
   Below w.heap.size w wr)
   (fun t6 _=>4 - (intOf t6).toNat)
 case atStart=>
  refine⟨0,by omega,rfl, ?_, ?_, ?_⟩
  ·exact((zj _ rfl rfl rfl rfl rfl).alloc _)
  ·exact(zj (fun _=>0) (by simp) rfl rfl rfl rfl)
  ·exact((Below.refl _ _).alloc (Nat.le_refl _) _).alloc (by simp) _
 case round=>
  obtain⟨k,hk,rfl,hra,hrz,hbel⟩:=hrel;by_cases hlt:k<4
  ·have c1:=hra.cell hlt;have c4:=hra.frozen k;have hun:=zeM a k hlt;simp only[zu,Nat.lt_irrefl,if_false] at c1;go_wp2
   all_goals go_roundw
   case rel=>
    exact⟨k+1,by omega,by go_num,YI hra rfl,hrz.setOther (by simp) _,hbel.setCell (by simp) _⟩
   case measure=>simp[intOf];omega
  ·obtain rfl:k=4:=by omega
   obtain⟨c0,c1,c2,c3⟩:=ze hra;obtain⟨z0,z1,z2,z3⟩:=ze hrz;have f0:=hrz.frozen;go_wp2;obtain⟨q0,q1,q2,q3⟩:=ze (ym hrz (za (zfc a) 0) (za (zfc a) 1) (za (zfc a) 2) (za (zfc a) 3));simp only[zbc] at q0 q1 q2 q3;refine bodyPost_ret (v:=wv (zfc a)) (by simp[results,results114,go_sem,q0,q1,q2,q3]) rfl ⟨rfl, ?_⟩;exact(((hbel.setCell (by simp) _).setCell (by simp) _).setCell (by simp) _).setCell (by simp) _
theorem zgv (a0 a1 a2 a3:Int) (w:World):
  Calls prog 165 #[.agg #[.int .u64 a0,.int .u64 a1,.int .u64 a2,.int .u64 a3]] w fun e w'=>e=.returned (.agg #[.int .u64 a0,.int .u64 a1,.int .u64 a2,.int .u64 a3,.int .u64 0,.int .u64 0,.int .u64 0,.int .u64 0])/\Below w.heap.size w w':=by
 go_enter func165,ntmps165;go_wp2;refine bodyPost_ret (v:=.agg #[.int .u64 a0,.int .u64 a1,.int .u64 a2,.int .u64 a3,.int .u64 0,.int .u64 0,.int .u64 0,.int .u64 0]) (by simp[results,results165,go_sem]) rfl ⟨rfl, ?_⟩;exact((Below.refl _ _).alloc (Nat.le_refl _) _).alloc (by simp) _
theorem low_any (a0 a1 a2 a3 a4 a5 a6 a7:Int) (w:World):
  Calls prog 162 #[.agg #[.int .u64 a0,.int .u64 a1,.int .u64 a2,.int .u64 a3,.int .u64 a4,.int .u64 a5,.int .u64 a6,.int .u64 a7]] w fun e w'=>e=.returned (.agg #[.int .u64 a0,.int .u64 a1,.int .u64 a2,.int .u64 a3])/\Below w.heap.size w w':=by
 go_enter func162,ntmps162;go_wp2;refine bodyPost_ret (v:=.agg #[.int .u64 a0,.int .u64 a1,.int .u64 a2,.int .u64 a3]) (by simp[results,results162,go_sem]) rfl ⟨rfl, ?_⟩;exact((Below.refl _ _).alloc (Nat.le_refl _) _).alloc (by simp) _
theorem zba (a:Nat) (w:World):
  Calls prog 167 #[wv a] w fun e w'=>e=.returned (.bool (neg a))/\Below w.heap.size w w':=by
 have h1:=zbM a 3;have h2:=zeo a 3;go_enter func167,ntmps167;go_wp2;go_ret;exact⟨by rw[zot];rfl,(Below.refl _ _).alloc (Nat.le_refl _) _⟩
theorem zeQ (x y c:Int) (hx:0<=x) (hy:0<=y) (hc0:0<=c) (hc:c<=1) (w:World):
  (callFunc 208 #[.int .u64 x,.int .u64 y,.int .u64 c]).run prog w=
   .ok (.value (.tuple #[.int .u64 ((x+y+c)%18446744073709551616),.int .u64 ((x+y+c)/18446744073709551616)])) w:=by
 rw[run_callFunc_extern func208 (by kernel_rfl) (by kernel_rfl) (by kernel_rfl) (e:=add64Entry) (by kernel_rfl),run_add64 x y c hx hy hc0 hc];rfl
theorem zjE (a b k:Nat) (hk:k<4) (w:World):(callFunc 208 #[.int .u64 (za a k),.int .u64 (za b k),.int .u64 (cy a b k)]).run prog w=.ok (.value (.tuple #[.int .u64 (za (a+b) k),.int .u64 (cy a b (k+1):Int)])) w:=by
 have h:=cy_le a b k;rw[zeQ _ _ _ (zbM _ _) (zbM _ _) (by omega) (by omega),znm a b k hk,add_cy a b k hk]
theorem zjw (x y b:Nat) (hb:b<=1) (w:World):
  (callFunc 210 #[.int .u64 x,.int .u64 y,.int .u64 b]).run prog w=
   .ok (.value (.tuple #[.int .u64 (((x+18446744073709551616 - y - b)%18446744073709551616:Nat):Int),.int .u64 ((if x<y+b then 1 else 0:Nat):Int)])) w:=by
 rw[run_callFunc_extern func210 (by kernel_rfl) (by kernel_rfl) (by kernel_rfl) (e:=sub64Entry) (by kernel_rfl),run_sub64 x y b hb];rfl
theorem zjX (a b k:Nat) (hk:k<4) (w:World):(callFunc 210 #[.int .u64 (za a k),.int .u64 (za b k),.int .u64 (bw a b k)]).run prog w=.ok (.value (.tuple #[.int .u64 (za (zbY a b) k),.int .u64 (bw a b (k+1):Int)])) w:=by
 have h:=bw_le a b k;have e:=zoi a b k hk;have e2:=sub_bw a b k hk;unfold za at e e2⊢;have c:=zjw (a/2^(64*k)%18446744073709551616) (b/2^(64*k)%18446744073709551616) (bw a b k) h w;rw[c];generalize a/2^(64*k)%18446744073709551616=x at*;have hy:b/2^(64*k)%18446744073709551616<18446744073709551616:=Nat.mod_lt _ (by omega);generalize b/2^(64*k)%18446744073709551616=y at*;have e3:((x+18446744073709551616 - y - bw a b k:Nat):Int)=(x:Int)+18446744073709551616 - y - bw a b k:=by omega
 have e4:(((x+18446744073709551616 - y - bw a b k)%18446744073709551616:Nat):Int)=((zbY a b/2^(64*k)%18446744073709551616:Nat):Int):=by rw[<-e,Int.natCast_emod,e3];rfl
 have e5:((if x<y+bw a b k then 1 else 0:Nat):Int)=(bw a b (k+1):Int):=by rw[<-e2];split<;>split<;>omega
 rw[e4,e5]
theorem zgy (a b:Nat) (w:World):
  Calls prog 160 #[wv a,wv b] w fun e w'=>e=.returned (.tuple #[wv (a+b),.int .u64 (cy a b 4:Int)])/\Below w.heap.size w w':=by
 go_enter func160,ntmps160;go_wp2
 go_loopw [7,9] (fun t7 t9 wr=>∃k:Nat,k<=4/\t9=.int .i64 k/\t7=.int .u64 (cy a b k:Int)/\
   wr.rowIs w.heap.size 24 4 (zu (za a))/\wr.rowIs (w.heap.size+1) 24 4 (zu (za b))/\wr.rowIs (w.heap.size+1+1) 24 4 (zu fun _=>0)/\
   wr.rowIs (w.heap.size+1+1+1) 24 4 (zu fun i=>if i<k then za (a+b) i else 0)/\Below w.heap.size w wr)
   (fun _ t9 _=>4 - (intOf t9).toNat)
 case atStart=>
  refine⟨0,by omega,rfl,by simp[cy], ?_, ?_, ?_, ?_, ?_⟩
  ·exact((((zj (za a) rfl rfl rfl rfl rfl).alloc _).alloc _).alloc _)
  ·exact(((zj (za b) (by simp) rfl rfl rfl rfl).alloc _).alloc _)
  ·exact(((zj (fun _=>0) (by simp) rfl rfl rfl rfl)).alloc _)
  ·exact(zj _ (by simp) rfl rfl rfl rfl)
  ·exact((((Below.refl _ _).alloc (Nat.le_refl _) _).alloc (by simp) _).alloc (by simp;omega) _).alloc (by simp;omega) _
 case round=>
  obtain⟨k,hk,rfl,rfl,hra,hrb,hrz,hrs,hbel⟩:=hrel;by_cases hlt:k<4
  ·have c1:=hra.cell hlt;have c2:=hrb.cell hlt;have c3:=hrs.cell hlt;have c4:=hrs.frozen k;have hcall:=zjE a b k hlt;simp only[zu] at c1 c2 c3;go_wp2
   go_region_with (simp only[hcall])
   all_goals go_wp2
   all_goals go_roundw
   case rel|rel=>
    exact⟨k+1,by omega,by go_num,rfl,(hra.setOther (by simp;omega) _).drew,(hrb.setOther (by simp) _).drew,(hrz.setOther (by simp) _).drew,(YI hrs rfl).drew,(hbel.setCell (by simp;omega) _).drew⟩
   case measure|measure=>simp[intOf];omega
  ·obtain rfl:k=4:=by omega
   obtain⟨c0,c1,c2,c3⟩:=ze hrs;obtain⟨z0,z1,z2,z3⟩:=ze hrz;have f0:=hrz.frozen;go_wp2;obtain⟨q0,q1,q2,q3⟩:=ze (ym hrz (za (a+b) 0) (za (a+b) 1) (za (a+b) 2) (za (a+b) 3));simp only[zbc] at q0 q1 q2 q3;refine bodyPost_ret (v:=.tuple #[wv (a+b),.int .u64 (cy a b 4:Int)]) (by simp[results,results160,go_sem,q0,q1,q2,q3]) rfl ⟨rfl, ?_⟩;exact(((hbel.setCell (by simp;omega) _).setCell (by simp;omega) _).setCell (by simp;omega) _).setCell (by simp;omega) _
theorem zb0 (a b:Nat) (w:World):
  Calls prog 163 #[wv a,wv b] w fun e w'=>e=.returned (.tuple #[wv (zbY a b),.int .u64 (bw a b 4:Int)])/\Below w.heap.size w w':=by
 go_enter func163,ntmps163;go_wp2
 go_loopw [7,9] (fun t7 t9 wr=>∃k:Nat,k<=4/\t9=.int .i64 k/\t7=.int .u64 (bw a b k:Int)/\
   wr.rowIs w.heap.size 24 4 (zu (za a))/\wr.rowIs (w.heap.size+1) 24 4 (zu (za b))/\wr.rowIs (w.heap.size+1+1) 24 4 (zu fun _=>0)/\
   wr.rowIs (w.heap.size+1+1+1) 24 4 (zu fun i=>if i<k then za (zbY a b) i else 0)/\Below w.heap.size w wr)
   (fun _ t9 _=>4 - (intOf t9).toNat)
 case atStart=>
  refine⟨0,by omega,rfl,by simp[bw,Nat.mod_one], ?_, ?_, ?_, ?_, ?_⟩
  ·exact((((zj (za a) rfl rfl rfl rfl rfl).alloc _).alloc _).alloc _)
  ·exact(((zj (za b) (by simp) rfl rfl rfl rfl).alloc _).alloc _)
  ·exact(((zj (fun _=>0) (by simp) rfl rfl rfl rfl)).alloc _)
  ·exact(zj _ (by simp) rfl rfl rfl rfl)
  ·exact((((Below.refl _ _).alloc (Nat.le_refl _) _).alloc (by simp) _).alloc (by simp;omega) _).alloc (by simp;omega) _
 case round=>
  obtain⟨k,hk,rfl,rfl,hra,hrb,hrz,hrs,hbel⟩:=hrel;by_cases hlt:k<4
  ·have c1:=hra.cell hlt;have c2:=hrb.cell hlt;have c3:=hrs.cell hlt;have c4:=hrs.frozen k;have hcall:=zjX a b k hlt;simp only[zu] at c1 c2 c3;go_wp2
   go_region_with (simp only[hcall])
   all_goals go_wp2
   all_goals go_roundw
   case rel|rel=>
    exact⟨k+1,by omega,by go_num,rfl,(hra.setOther (by simp;omega) _).drew,(hrb.setOther (by simp) _).drew,(hrz.setOther (by simp) _).drew,(YI hrs rfl).drew,(hbel.setCell (by simp;omega) _).drew⟩
   case measure|measure=>simp[intOf];omega
  ·obtain rfl:k=4:=by omega
   obtain⟨c0,c1,c2,c3⟩:=ze hrs;obtain⟨z0,z1,z2,z3⟩:=ze hrz;have f0:=hrz.frozen;go_wp2;obtain⟨q0,q1,q2,q3⟩:=ze (ym hrz (za (zbY a b) 0) (za (zbY a b) 1) (za (zbY a b) 2) (za (zbY a b) 3));simp only[zbc] at q0 q1 q2 q3;refine bodyPost_ret (v:=.tuple #[wv (zbY a b),.int .u64 (bw a b 4:Int)]) (by simp[results,results163,go_sem,q0,q1,q2,q3]) rfl ⟨rfl, ?_⟩;exact(((hbel.setCell (by simp;omega) _).setCell (by simp;omega) _).setCell (by simp;omega) _).setCell (by simp;omega) _
theorem maskN (a:Nat) (ha:a<18446744073709551616):bits .and .u64 (a:Int) 4294967295=((a%4294967296:Nat):Int):=by
 have h:=bits_and_u64_nat a 4294967295 ha (by omega);have e:a &&& 4294967295=a%4294967296:=Nat.and_two_pow_sub_one_eq_mod a 32;rw[e] at h;exact h
theorem divN (a:Nat):(a:Int)/4294967296=((a/4294967296:Nat):Int):=by omega
theorem mulN (a b:Nat):(a:Int)*(b:Int)=((a*b:Nat):Int):=(Int.natCast_mul a b).symm
theorem addN (a b:Nat):(a:Int)+(b:Int)=((a+b:Nat):Int):=(Int.natCast_add a b).symm
theorem zdY (a:Nat) (ha:a<18446744073709551616):IntKind.u64.wrap (a:Int)=(a:Int):=by rw[IntKind.wrap_u64];omega
theorem wrapM (a:Nat):IntKind.u64.wrap (a:Int)=((a%18446744073709551616:Nat):Int):=by rw[IntKind.wrap_u64];omega
theorem zlQ (x y:Nat) (hx:x<18446744073709551616) (hy:y<18446744073709551616) (w:World):
  Calls prog 229 #[.int .u64 x,.int .u64 y] w fun e w'=>e=.returned (.tuple #[.int .u64 ((x*y/18446744073709551616:Nat):Int),.int .u64 ((x*y%18446744073709551616:Nat):Int)])/\w'=w:=by
 obtain⟨bd,bt,bw,hhi⟩:=Lib.mul64_hi x y hx hy;have ba:=Lib.half_mul_le (a:=x/4294967296) (b:=y/4294967296) (by omega) (by omega);have bb:=Lib.half_mul_le (a:=x/4294967296) (b:=y%4294967296) (by omega) (by omega);have bc:=Lib.half_mul_le (a:=x%4294967296) (b:=y/4294967296) (by omega) (by omega);have ba':x/4294967296*(y/4294967296)<18446744073709551616:=by omega
 have bb':x/4294967296*(y%4294967296)<18446744073709551616:=by omega
 have bc':x%4294967296*(y/4294967296)<18446744073709551616:=by omega
 have bh1:x/4294967296*(y/4294967296)+(x/4294967296*(y%4294967296)+x%4294967296*(y%4294967296)/4294967296)/4294967296<18446744073709551616:=by omega
 have bh:x/4294967296*(y/4294967296)+(x/4294967296*(y%4294967296)+x%4294967296*(y%4294967296)/4294967296)/4294967296+((x/4294967296*(y%4294967296)+x%4294967296*(y%4294967296)/4294967296)%4294967296+x%4294967296*(y/4294967296))/4294967296<18446744073709551616:=by omega
 go_enter func229,ntmps229;go_wp2;simp only[maskN x hx,maskN y hy,divN,mulN,addN,zdY _ bd,zdY _ bb',zdY _ bt,maskN _ bt,zdY _ bc',zdY _ bw,zdY _ ba',zdY _ bh1,zdY _ bh,wrapM (x*y)];rw[hhi];go_ret2;exact⟨rfl,rfl⟩
theorem znZ (x y:Nat) (hx:x<18446744073709551616) (hy:y<18446744073709551616) (w:World):
  Calls prog 229 #[.int .u64 x,.int .u64 y] w fun e w'=>∃hi lo:Nat,Hid (hi*18446744073709551616+lo=x*y)/\lo<18446744073709551616/\hi<=18446744073709551614/\e=.returned (.tuple #[.int .u64 hi,.int .u64 lo])/\w'=w:=by
 refine(zlQ x y hx hy w).mono ?_;rintro e w' ⟨rfl,rfl⟩;have h:x*y<=18446744073709551615*18446744073709551615:=Nat.mul_le_mul (by omega) (by omega);generalize x*y=p at*;exact⟨_,_,by show _=_;omega,Nat.mod_lt _ (by omega),by omega,rfl,rfl⟩
theorem zi8 (x y:Nat):∃s c:Nat,Hid (s+c*18446744073709551616=x+y)/\s<18446744073709551616/\(x<18446744073709551616->y<18446744073709551616->c<=1)/\
  ∀w:World,(callFunc 208 #[.int .u64 x,.int .u64 y,.int .u64 0]).run prog w=.ok (.value (.tuple #[.int .u64 s,.int .u64 c])) w:=by
 refine⟨(x+y)%18446744073709551616,(x+y)/18446744073709551616,by show _=_;omega,Nat.mod_lt _ (by omega),fun _ _=>by omega,fun w=> ?_⟩;rw[zeQ _ _ _ (by omega) (by omega) (by omega) (by omega)];have e1:((x:Int)+y+0)%18446744073709551616=(((x+y)%18446744073709551616:Nat):Int):=by omega
 have e2:((x:Int)+y+0)/18446744073709551616=(((x+y)/18446744073709551616:Nat):Int):=by omega
 rw[e1,e2]
theorem zkb {x y m s hi lo s1 c1 s2 c2:Nat} (h1:hi*18446744073709551616+lo=x*y) (h2:s1+c1*18446744073709551616=lo+m) (h3:s2+c2*18446744073709551616=s1+s) (h4:s2<18446744073709551616):
  hi+c1+c2=(x*y+m+s)/18446744073709551616/\s2=(x*y+m+s)%18446744073709551616:=by
 rw[<-h1];omega
theorem zmF {x y m s hi lo s1 c1 s2 c2:Nat} (hx:x<18446744073709551616) (hy:y<18446744073709551616) (hm:m<18446744073709551616) (hs:s<18446744073709551616) (h1:hi*18446744073709551616+lo=x*y) (h2:s1+c1*18446744073709551616=lo+m) (h3:s2+c2*18446744073709551616=s1+s):
  hi+c1+c2<=18446744073709551615:=by
 have h:x*y<=18446744073709551615*18446744073709551615:=Nat.mul_le_mul (by omega) (by omega);rw[<-h1] at h;omega
theorem zjY (x y m s:Nat) (hx:x<18446744073709551616) (hy:y<18446744073709551616) (hm:m<18446744073709551616) (hs:s<18446744073709551616) (w:World):
  Calls prog 209 #[.int .u64 x,.int .u64 y,.int .u64 m,.int .u64 s] w fun e w'=>e=.returned (.tuple #[.int .u64 (((x*y+m+s)/18446744073709551616:Nat):Int),.int .u64 (((x*y+m+s)%18446744073709551616:Nat):Int)])/\w'=w:=by
 go_enter func209,ntmps209;go_wp2_with fail
 refine(znZ x y hx hy _).mono ?_;rintro e w' ⟨hi,lo,h1,l1,l2,rfl,rfl⟩;obtain⟨s1,c1,h2,l3,l4,r1⟩:=zi8 lo m;obtain⟨s2,c2,h3,l5,l6,r2⟩:=zi8 s1 s;have b1:=zmF hx hy hm hs h1.out h2.out h3.out;clear l4 l6;go_wp2;go_ret2;obtain⟨f1,f2⟩:=zkb h1.out h2.out h3.out l5;refine⟨?_,rfl⟩;rw[<-f1,<-f2];rfl
theorem zmM (x y m s:Nat) (hx:x<18446744073709551616) (hy:y<18446744073709551616) (hm:m<18446744073709551616) (hs:s<18446744073709551616) (w:World):
  Calls prog 209 #[.int .u64 x,.int .u64 y,.int .u64 m,.int .u64 s] w fun e w'=>∃h l:Nat,Hid (h=(x*y+m+s)/18446744073709551616)/\Hid (l=(x*y+m+s)%18446744073709551616)/\h<18446744073709551616/\l<18446744073709551616/\e=.returned (.tuple #[.int .u64 h,.int .u64 l])/\w=w':=by
 refine(zjY x y m s hx hy hm hs w).mono ?_;rintro e w' ⟨rfl,rfl⟩;exact⟨_,_,rfl,rfl,zkm hx hy hm hs,Nat.mod_lt _ (by omega),rfl,rfl⟩
theorem zoM (a k:Nat) (hk:k<4) (w:World):(Instr.index 24 (.agg #[.int .u64 (za a 0),.int .u64 (za a 1),.int .u64 (za a 2),.int .u64 (za a 3)]) (.int .i64 (k:Int))).run prog w=.ok (.int .u64 (zZ a k:Int)) w:=by
 rcases k4 hk with rfl|rfl|rfl|rfl<;>kernel_rfl
theorem zhX (a b:Nat) (w:World):
  Calls prog 161 #[wv a,wv b] w fun e w'=>e=.returned (wv8 (Yo a b))/\Below w.heap.size w w':=by
 go_enter func161,ntmps161;go_wp2
 go_loopw [12] (fun t12 wr=>∃(i:Nat) (f:Nat->Nat),i<=4/\t12=.int .i64 i/\
   wr.rowIs (w.heap.size+1) 24 4 (zu (za b))/\wr.rowIs (w.heap.size+1+1) 224 8 (zu fun _=>0)/\wr.rowIs (w.heap.size+1+1+1) 224 8 (zu (ziu f))/\
   (∀q,f q<18446744073709551616)/\(∀q,i+4<=q->f q=0)/\Hid (val f 8=a%2^(64*i)*(b%2^(64*4)))/\Below w.heap.size w wr)
   (fun t12 _=>4 - (intOf t12).toNat)
 case atStart=>
  refine⟨0,fun _=>0,by omega,rfl, ?_, ?_, ?_,fun _=>by show(0:Nat)<_;omega,fun _ _=>rfl, ?_, ?_⟩
  ·exact(((zj (za b) (by simp) rfl rfl rfl rfl).alloc _).alloc _)
  ·exact(YH (fun _=>0) (by simp) rfl rfl rfl rfl rfl rfl rfl rfl).alloc _
  ·exact(YH _ (by simp) rfl rfl rfl rfl rfl rfl rfl rfl)
  ·show _=_;rw[Nat.mul_zero,Nat.pow_zero,Nat.mod_one,Nat.zero_mul,znw]
  ·exact((((Below.refl _ _).alloc (Nat.le_refl _) _).alloc (by simp) _).alloc (by simp;omega) _).alloc (by simp;omega) _
 case round=>
  obtain⟨i,f,hi,rfl,hrb,hrz,hrs,hfl,hfz,hval,hbel⟩:=hrel;by_cases hlt:i<4
  ·have hix:=zoM a i hlt;have hdi:decide ((i:Int)<4)=true:=by simp;omega
   obtain⟨c0,c1,c2,c3⟩:=ze hrb;go_wp2
   go_loopw [8,17] (fun t8 t17 wq=>∃(j:Nat) (g:Nat->Nat) (c:Nat),j<=4/\t17=.int .i64 j/\t8=.int .u64 c/\c<18446744073709551616/\
     wq.rowIs (w.heap.size+1) 24 4 (zu (za b))/\wq.rowIs (w.heap.size+1+1) 224 8 (zu fun _=>0)/\wq.rowIs (w.heap.size+1+1+1) 224 8 (zu (ziu g))/\
     (∀q,g q<18446744073709551616)/\(∀q,i+4<=q->g q=0)/\Hid (val g 8+c*2^(64*(i+j))=a%2^(64*i)*(b%2^(64*4))+zZ a i*(b%2^(64*j))*2^(64*i))/\Below w.heap.size w wq)
     (fun _ t17 _=>4 - (intOf t17).toNat)
   case atStart=>
    refine⟨0,f,0,by omega,rfl,rfl,by omega,hrb,hrz,hrs,hfl,hfz, ?_,hbel⟩;show _=_;rw[hval.out];simp[Nat.mod_one]
   case round=>
    clear hrb hrz hrs hfl hfz hbel;obtain⟨j,g,c,hj,rfl,rfl,hc,hrb,hrz,hrs,hgl,hgz,hv2,hbel⟩:=hrel;by_cases hlj:j<4
    ·have hiy:=zoM b j hlj;have cs:=hrs.cell (i:=i+j) (by omega);have fs:=hrs.frozen (i+j);simp only[zu,ziu] at cs;go_wp2_with fail
     refine(zmM (zZ a i) (zZ b j) (g (i+j)) c (Yi _ _) (Yi _ _) (hgl _) hc _).mono ?_;rintro e w' ⟨h,l,hh,hl,bh,bl,rfl,rfl⟩;go_wp2
     go_roundw
     case rel=>
      refine⟨j+1,upd g (i+j) l,h,by omega, ?_,rfl,bh,hrb.setOther (by simp) _,hrz.setOther (by simp) _,zlq hrs _ _,zn1 hgl bl, ?_, ?_,hbel.setCell (by simp;omega) _⟩
      ·go_num
      ·intro q hq;unfold upd;rw[if_neg (by omega)];exact hgz q hq
      ·show _=_;rw[hh.out,hl.out];exact zjz (by omega) rfl hv2.out
     case measure=>simp[intOf];omega
    ·obtain rfl:j=4:=by omega
     have cs:=hrs.cell (i:=i+4) (by omega);have fs:=hrs.frozen (i+4);simp only[zu,ziu] at cs;go_wp2
     go_roundw
     case rel=>
      refine⟨i+1,upd g (i+4) c,by omega,by go_num,hrb.setOther (by simp) _,hrz.setOther (by simp) _,zlq hrs _ _,zn1 hgl hc, ?_, ?_,hbel.setCell (by simp;omega) _⟩
      ·intro q hq;unfold upd;rw[if_neg (by omega)];exact hgz q (by omega)
      ·show _=_;exact zjH hlt rfl (hgz _ (by omega)) hv2.out
     case measure=>simp[intOf];omega
  ·obtain rfl:i=4:=by omega
   have hv:=hval.out;rw[zoB] at hv;have hrow:wr.rowIs (w.heap.size+1+1+1) 224 8 (zu (za (Yo a b))):=hrs.congr fun i hi=>by simp only[zu,ziu];rw[zgM hfl hv i hi]
   clear hval hv hrs;obtain⟨c0,c1,c2,c3,c4,c5,c6,c7⟩:=yc hrow;obtain⟨z0,z1,z2,z3,z4,z5,z6,z7⟩:=yc hrz;have f0:=hrz.frozen;go_wp2;obtain⟨q0,q1,q2,q3,q4,q5,q6,q7⟩:=yc (zh5 hrz (za (Yo a b) 0) (za (Yo a b) 1) (za (Yo a b) 2) (za (Yo a b) 3) (za (Yo a b) 4) (za (Yo a b) 5) (za (Yo a b) 6) (za (Yo a b) 7));simp only[pick8] at q0 q1 q2 q3 q4 q5 q6 q7;refine bodyPost_ret (v:=wv8 (Yo a b)) (by simp[results,results161,go_sem,q0,q1,q2,q3,q4,q5,q6,q7]) rfl ⟨rfl, ?_⟩;exact(((((((hbel.setCell (by simp;omega) _).setCell (by simp;omega) _).setCell (by simp;omega) _).setCell (by simp;omega) _).setCell (by simp;omega) _).setCell (by simp;omega) _).setCell (by simp;omega) _).setCell (by simp;omega) _
def ltw (a b:Nat):Bool:=decide (a%M<b%M)
theorem ltw_bw (a b:Nat):((bw a b 4:Int)==1)=ltw a b:=by
 unfold bw ltw M;rw[pw4];split<;>rename_i h
 ·rw[decide_eq_true h];rfl
 ·rw[decide_eq_false h];rfl
def zgP (a b:Nat):Nat:=if a%M<256 then b*2^(a%M) else 0
theorem zs (i:Nat):za 0 i=0:=by unfold za;simp
theorem zeV (b:Nat) (hb:b<18446744073709551616):Value.agg #[.int .u64 (b:Int),.int .u64 0,.int .u64 0,.int .u64 0]=wv b:=by
 have e0:za b 0=(b:Int):=by unfold za;rw[pw0];omega
 have e1:za b 1=0:=by unfold za;rw[pw1];omega
 have e2:za b 2=0:=by unfold za;rw[pw2];omega
 have e3:za b 3=0:=by unfold za;rw[pw3];omega
 unfold wv;rw[e0,e1,e2,e3]
theorem zof {a:Nat} (h:ltw a 256=false) (b:Nat):zgP a b=0:=by
 unfold ltw at h;unfold zgP;have h2:=of_decide_eq_false h;rw[if_neg (by unfold M at*;omega)]
theorem shlw_in {a:Nat} (h:ltw a 256=true) (b:Nat):∃s:Nat,s<256/\za a 0=(s:Int)/\zgP a b=b*2^s:=by
 unfold ltw at h;have h2:=of_decide_eq_true h;refine⟨a%M,by unfold M at*;omega, ?_, ?_⟩
 ·unfold za M at*;rw[pw0];omega
 ·unfold zgP;rw[if_pos (by unfold M at*;omega)]
theorem yD (n k j:Nat):(zZ n k).testBit j=(decide (j<64)&&n.testBit (j+64*k)):=by
 unfold zZ;rw[zi9,Nat.testBit_mod_two_pow,Nat.testBit_div_two_pow]
theorem zdw (b s i:Nat):(b*2^s).testBit i=(decide (s<=i)&&b.testBit (i - s)):=by
 rw[Nat.testBit_mul_two_pow]
theorem zfm (x i:Nat):(x%18446744073709551616).testBit i=(decide (i<64)&&x.testBit i):=by
 rw[zi9,Nat.testBit_mod_two_pow]
theorem shl_lo (b s k:Nat) (h:k<s/64):za (b*2^s) k=0:=by
 rw[Zw]
 have:zZ (b*2^s) k=0:=by
  apply Nat.eq_of_testBit_eq;intro j;rw[yD,zdw,Nat.zero_testBit];by_cases hj:j<64
  ·simp[hj,show¬s<=j+64*k by omega]
  ·simp[hj]
 rw[this];rfl
theorem shl_eq (b s k:Nat) (h1:s/64<=k) (h2:¬s/64<k):zZ b (k - s/64)*2^(s%64)%18446744073709551616=zZ (b*2^s) k:=by
 apply Nat.eq_of_testBit_eq;intro j;rw[zfm,zdw,yD,yD,zdw];by_cases hj:j<64
 ·by_cases hr:s%64<=j
  ·simp[hj,hr,show s<=j+64*k by omega,show j - s%64<64 by omega,show j - s%64+64*(k - s/64)=j+64*k - s by omega]
  ·simp[hj,hr,show¬s<=j+64*k by omega]
 ·simp[hj]
theorem shl_hi (b s k:Nat) (h1:s/64<k):(zZ b (k - s/64)*2^(s%64)%18446744073709551616) ||| (zZ b (k - s/64 - 1)/2^(64 - s%64))=zZ (b*2^s) k:=by
 apply Nat.eq_of_testBit_eq;intro j;rw[Nat.testBit_or,zfm,zdw,yD,Nat.testBit_div_two_pow,yD,yD,zdw];by_cases hj:j<64
 ·by_cases hr:s%64<=j
  ·simp[hj,hr,show s<=j+64*k by omega,show j - s%64<64 by omega,show j - s%64+64*(k - s/64)=j+64*k - s by omega,show¬j+(64 - s%64)<64 by omega]
  ·simp[hj,hr,show s<=j+64*k by omega,show j+(64 - s%64)<64 by omega,show j+(64 - s%64)+64*(k - s/64 - 1)=j+64*k - s by omega]
 ·simp[hj,show¬j+(64 - s%64)<64 by omega]
theorem zoV (b s k:Nat) (h1:s/64<=k):(zZ b k/2^(s%64)) ||| (zZ b (k+1)*2^(64 - s%64)%18446744073709551616)=zZ (b/2^s) (k - s/64):=by
 apply Nat.eq_of_testBit_eq;intro j;rw[Nat.testBit_or,zfm,zdw,yD,Nat.testBit_div_two_pow,yD,yD,Nat.testBit_div_two_pow];by_cases hj:j<64
 ·by_cases hr:j+s%64<64
  ·simp[hj,hr,show¬64 - s%64<=j by omega,show j+s%64+64*k=j+64*(k - s/64)+s by omega]
  ·simp[hj,hr,show 64 - s%64<=j by omega,show j - (64 - s%64)<64 by omega,show j - (64 - s%64)+64*(k+1)=j+64*(k - s/64)+s by omega]
 ·simp[hj,show¬j+s%64<64 by omega]
theorem shr_top (b s:Nat) (hb:b<M) (h:s/64<=3):zZ b 3/2^(s%64)=zZ (b/2^s) (3 - s/64):=by
 have e:=zoV b s 3 h
 have z:zZ b (3+1)=0:=by
  unfold zZ M at*;rw[Nat.div_eq_of_lt (by rw[show 3+1=4 from rfl,pw4];exact hb)]
 rw[z,Nat.zero_mul,Nat.zero_mod,Nat.or_zero] at e;exact e
theorem shr_out (b s k:Nat) (hb:b<M) (hk:3 - s/64<k):za (b/2^s) k=0:=by
 rw[Zw]
 have:zZ (b/2^s) k=0:=by
  apply Nat.eq_of_testBit_eq;intro j;rw[yD,Nat.testBit_div_two_pow,Nat.zero_testBit]
  have h:b.testBit (j+64*k+s)=false:=by
   apply Nat.testBit_lt_two_pow;refine Nat.lt_of_lt_of_le hb ?_;show 2^256<=_;exact Nat.pow_le_pow_right (by omega) (by omega)
  rw[h,Bool.and_false]
 rw[this];rfl
theorem zcH (x e:Nat):IntKind.u64.wrap ((x:Int)*2^e)=((x*2^e%18446744073709551616:Nat):Int):=by
 rw[IntKind.wrap_u64,Int.natCast_emod,Int.natCast_mul,Int.natCast_pow];rfl
theorem zgB (x e:Nat):(x:Int)/2^e=((x/2^e:Nat):Int):=by
 rw[Int.natCast_ediv,Int.natCast_pow];rfl
theorem shl_eq' (b s k:Nat) (h1:s/64<=k) (h2:¬s/64<k):IntKind.u64.wrap (za b (k - s/64)*2^(s%64))=za (b*2^s) k:=by
 rw[Zw,Zw,zcH,shl_eq b s k h1 h2]
theorem shl_hi' (b s k:Nat) (h1:s/64<k):bits .or .u64 (IntKind.u64.wrap (za b (k - s/64)*2^(s%64))) (za b (k - s/64 - 1)/2^(64 - s%64))=za (b*2^s) k:=by
 rw[Zw,Zw,Zw,zcH,zgB,bits_or_u64_nat _ _ (Nat.mod_lt _ (by omega)) (Nat.lt_of_le_of_lt (Nat.div_le_self _ _) (Yi _ _)),shl_hi b s k h1]
theorem shr_hi' (b s k:Nat) (h1:s/64<=k):bits .or .u64 (za b k/2^(s%64)) (IntKind.u64.wrap (za b (k+1)*2^(64 - s%64)))=za (b/2^s) (k - s/64):=by
 rw[Zw,Zw,Zw,zcH,zgB,bits_or_u64_nat _ _ (Nat.lt_of_le_of_lt (Nat.div_le_self _ _) (Yi _ _)) (Nat.mod_lt _ (by omega)),zoV b s k h1]
theorem znx (b s k:Nat) (hb:b<M) (h1:s/64<=k) (hk:k=3):za b k/2^(s%64)=za (b/2^s) (k - s/64):=by
 subst hk;rw[Zw,Zw,zgB,shr_top b s hb h1]
def zgH (a b:Nat):Nat:=if a%M<256 then b/2^(a%M) else 0
theorem zm7 {a:Nat} (h:ltw a 256=false) (b:Nat):zgH a b=0:=by
 unfold ltw at h;unfold zgH;have h2:=of_decide_eq_false h;rw[if_neg (by unfold M at*;omega)]
theorem shrw_in {a:Nat} (h:ltw a 256=true) (b:Nat):∃s:Nat,s<256/\za a 0=(s:Int)/\zgH a b=b/2^s:=by
 unfold ltw at h;have h2:=of_decide_eq_true h;refine⟨a%M,by unfold M at*;omega, ?_, ?_⟩
 ·unfold za M at*;rw[pw0];omega
 ·unfold zgH;rw[if_pos (by unfold M at*;omega)]
theorem zhR (a b:Nat) (w:World):
  Calls prog 109 #[wv a,wv b] w fun e w'=>e=.returned (.bool (ltw a b))/\Below w.heap.size w w':=by
 go_enter func109,ntmps109;go_wp2_with fail
 refine(zb0 a b _).mono ?_;rintro e w' ⟨rfl,hb⟩;go_wp2;go_ret;exact⟨by rw[<-ltw_bw];rfl,bal (ZE (bal (bal (Below.refl _ _) _) _) hb) _⟩
theorem zaE (a b:Nat) (hb:b<18446744073709551616) (w:World):
  Calls prog 171 #[wv a,.int .u64 (b:Int)] w fun e w'=>e=.returned (.bool (ltw a b))/\Below w.heap.size w w':=by
 go_enter func171,ntmps171;go_wp2_with fail
 rw[zeV b hb];refine(zhR a b _).mono ?_;rintro e w' ⟨rfl,hb⟩;go_wp2;go_ret;exact⟨rfl,ZE (bal (Below.refl _ _) _) hb⟩
theorem Ye {w:World} {b:Nat} {t:TypeId} {n:Nat} {f:Nat->Value} (h:w.rowIs b t n f) (k:Nat):(w.drewN k).rowIs b t n f:=h
theorem zL {B:Nat} {a w:World} (h:Below B a w) (k:Nat):Below B a (w.drewN k):=⟨h.os,h.tape,h.output,h.size,h.block⟩
theorem zgs {w:World} {b:Nat} {t:TypeId} {n k:Nat} {f g:Nat->Int} (h:w.rowIs b t n (zu fun i=>if i<k then f i else g i)) {u:Value} {x:Int} (hx:x=f k):
  ((w.setCell ⟨b,k,none⟩ u).setCell ⟨b,k,none⟩ (.int .u64 x)).rowIs b t n (zu fun i=>if i<k+1 then f i else g i):=by
 subst hx;refine((h.set k u).set k _).congr fun i _=> ?_
 simp only[zu];by_cases e:i=k
 ·subst e;simp
 ·by_cases l:i<k
  ·simp[e,l,Nat.lt_succ_of_lt l]
  ·simp[e,l,show¬i<k+1 by omega]
theorem shl_any (a b:Nat) (w:World):
  Calls prog 116 #[wv a,wv b] w fun e w'=>e=.returned (wv (zgP a b))/\Below w.heap.size w w':=by
 cases hc:ltw a 256
 ·have hs:zgP a b=0:=zof hc b;rw[hs];have HC:Hid (ltw a 256=false):=hc;clear hs hc;go_enter func116,ntmps116;go_wp2_with fail
  refine(zaE a 256 (by omega) _).mono ?_;rintro e w' ⟨rfl,hb⟩;rw[HC.out];have hrm:=zg (zj (n:=w.heap.size+1+1+1) (fun _=>0) (by simp) rfl rfl rfl rfl) hb;have hrz:=zg (zj (n:=w.heap.size+1+1) (fun _=>0) (by simp) rfl rfl rfl rfl |>.alloc _) hb;have hbel:=ZE (bal (bal (bal (bal (Below.refl _ _) _) _) _) _) hb;clear hb;obtain⟨r0,r1,r2,r3⟩:=ze hrm;obtain⟨z0,z1,z2,z3⟩:=ze hrz;have f0:=hrz.frozen;go_wp2;obtain⟨q0,q1,q2,q3⟩:=ze (ym hrz 0 0 0 0);simp only[zbc] at q0 q1 q2 q3;refine bodyPost_ret (v:=wv 0) (by simp[results,results116,go_sem,q0,q1,q2,q3,zs]) rfl ⟨rfl, ?_⟩;exact(((hbel.setCell (by simp;omega) _).setCell (by simp;omega) _).setCell (by simp;omega) _).setCell (by simp;omega) _
 ·obtain⟨s,hs,hs0,hs1⟩:=shlw_in hc b;rw[hs1];have HC:Hid (ltw a 256=true):=hc;have H0:Hid (za a 0=(s:Int)):=hs0;clear hs1 hc hs0;go_enter func116,ntmps116;go_wp2_with fail
  refine(zaE a 256 (by omega) _).mono ?_;rintro e w' ⟨rfl,hb⟩;rw[HC.out];have hra:=zg (zj (n:=w.heap.size) (za a) rfl rfl rfl rfl rfl |>.alloc _ |>.alloc _ |>.alloc _) hb;have hrb:=zg (zj (n:=w.heap.size+1) (za b) (by simp) rfl rfl rfl rfl |>.alloc _ |>.alloc _) hb;have hrm:=zg (zj (n:=w.heap.size+1+1+1) (fun _=>0) (by simp) rfl rfl rfl rfl) hb;have hrz:=zg (zj (n:=w.heap.size+1+1) (fun _=>0) (by simp) rfl rfl rfl rfl |>.alloc _) hb;have hbel:=ZE (bal (bal (bal (bal (Below.refl _ _) _) _) _) _) hb;clear hb;have ca:=hra.cell (i:=0) (by omega);simp only[zu] at ca;rw[H0.out] at ca;go_wp2
  go_quiet (fail)
  go_wp2
  go_loopw [8] (fun t8 wr=>∃k:Nat,s/64<=k/\k<=4/\t8=.int .i64 k/\wr.rowIs (w.heap.size+1) 24 4 (zu (za b))/\wr.rowIs (w.heap.size+1+1) 24 4 (zu fun _=>0)/\
   wr.rowIs (w.heap.size+1+1+1) 24 4 (zu fun i=>if i<k then za (b*2^s) i else 0)/\Below w.heap.size w wr)
   (fun t8 _=>4 - (intOf t8).toNat)
  case atStart=>
   refine⟨s/64,by omega,by omega,by go_num,Ye hrb _,Ye hrz _,Ye (hrm.congr fun i hi=> ?_) _,zL hbel _⟩;simp only[zu];by_cases hl:i<s/64
   ·rw[if_pos hl,shl_lo b s i hl]
   ·rw[if_neg hl]
  case round=>
   clear hra hrb hrm hrz hbel ca;obtain⟨k,hk1,hk2,rfl,hrb,hrz,hrm,hbel⟩:=hrel;by_cases hlt:k<4
   ·have cb:=hrb.cell (i:=k - s/64) (by omega);have cm:=hrm.cell (i:=k) (by omega);have fm:=hrm.frozen k;simp only[zu,Nat.lt_irrefl,if_false] at cb cm;by_cases hgt:s/64<k
    ·have cb1:=hrb.cell (i:=k - s/64 - 1) (by omega);simp only[zu] at cb1;have hrm2:=hrm.set k (.int .u64 (IntKind.u64.wrap (za b (k - s/64)*2^(s%64))));have cm2:=hrm2.cell (i:=k) hlt;simp only[if_true] at cm2;go_wp2
     go_region
     go_wp2
     go_roundw
     case rel=>
      refine⟨k+1,by omega,by omega,by go_num,((hrb.setOther (by simp) _).setOther (by simp) _).drew,((hrz.setOther (by simp) _).setOther (by simp) _).drew, ?_,((hbel.setCell (by simp;omega) _).setCell (by simp;omega) _).drew⟩;exact(zgs hrm (shl_hi' b s k hgt)).drew
     case measure=>simp[intOf];omega
    ·go_wp2
     go_roundw
     case rel=>
      refine⟨k+1,by omega,by omega,by go_num,hrb.setOther (by simp) _,hrz.setOther (by simp) _, ?_,hbel.setCell (by simp;omega) _⟩;exact YI hrm (shl_eq' b s k hk1 hgt)
     case measure=>simp[intOf];omega
   ·obtain rfl:k=4:=by omega
    obtain⟨c0,c1,c2,c3⟩:=ze hrm;obtain⟨z0,z1,z2,z3⟩:=ze hrz;have f0:=hrz.frozen;go_wp2;obtain⟨q0,q1,q2,q3⟩:=ze (ym hrz (za (b*2^s) 0) (za (b*2^s) 1) (za (b*2^s) 2) (za (b*2^s) 3));simp only[zbc] at q0 q1 q2 q3;refine bodyPost_ret (v:=wv (b*2^s)) (by simp[results,results116,go_sem,q0,q1,q2,q3]) rfl ⟨rfl, ?_⟩;exact(((hbel.setCell (by simp;omega) _).setCell (by simp;omega) _).setCell (by simp;omega) _).setCell (by simp;omega) _
theorem shr_any (a b:Nat) (hbM:b<M) (w:World):
  Calls prog 117 #[wv a,wv b] w fun e w'=>e=.returned (wv (zgH a b))/\Below w.heap.size w w':=by
 cases hc:ltw a 256
 ·have hs:zgH a b=0:=zm7 hc b;rw[hs];have HC:Hid (ltw a 256=false):=hc;clear hs hc;go_enter func117,ntmps117;go_wp2_with fail
  refine(zaE a 256 (by omega) _).mono ?_;rintro e w' ⟨rfl,hb⟩;rw[HC.out];have hrm:=zg (zj (n:=w.heap.size+1+1+1) (fun _=>0) (by simp) rfl rfl rfl rfl) hb;have hrz:=zg (zj (n:=w.heap.size+1+1) (fun _=>0) (by simp) rfl rfl rfl rfl |>.alloc _) hb;have hbel:=ZE (bal (bal (bal (bal (Below.refl _ _) _) _) _) _) hb;clear hb;obtain⟨r0,r1,r2,r3⟩:=ze hrm;obtain⟨z0,z1,z2,z3⟩:=ze hrz;have f0:=hrz.frozen;go_wp2;obtain⟨q0,q1,q2,q3⟩:=ze (ym hrz 0 0 0 0);simp only[zbc] at q0 q1 q2 q3;refine bodyPost_ret (v:=wv 0) (by simp[results,results117,go_sem,q0,q1,q2,q3,zs]) rfl ⟨rfl, ?_⟩;exact(((hbel.setCell (by simp;omega) _).setCell (by simp;omega) _).setCell (by simp;omega) _).setCell (by simp;omega) _
 ·obtain⟨s,hs,hs0,hs1⟩:=shrw_in hc b;rw[hs1];have HC:Hid (ltw a 256=true):=hc;have HB:Hid (b<M):=hbM;clear hbM;have H0:Hid (za a 0=(s:Int)):=hs0;clear hs1 hc hs0;go_enter func117,ntmps117;go_wp2_with fail
  refine(zaE a 256 (by omega) _).mono ?_;rintro e w' ⟨rfl,hb⟩;rw[HC.out];have hra:=zg (zj (n:=w.heap.size) (za a) rfl rfl rfl rfl rfl |>.alloc _ |>.alloc _ |>.alloc _) hb;have hrb:=zg (zj (n:=w.heap.size+1) (za b) (by simp) rfl rfl rfl rfl |>.alloc _ |>.alloc _) hb;have hrm:=zg (zj (n:=w.heap.size+1+1+1) (fun _=>0) (by simp) rfl rfl rfl rfl) hb;have hrz:=zg (zj (n:=w.heap.size+1+1) (fun _=>0) (by simp) rfl rfl rfl rfl |>.alloc _) hb;have hbel:=ZE (bal (bal (bal (bal (Below.refl _ _) _) _) _) _) hb;clear hb;have ca:=hra.cell (i:=0) (by omega);simp only[zu] at ca;rw[H0.out] at ca;go_wp2
  go_quiet (fail)
  go_wp2
  go_loopw [8] (fun t8 wr=>∃k:Nat,s/64<=k/\k<=4/\t8=.int .i64 k/\wr.rowIs (w.heap.size+1) 24 4 (zu (za b))/\wr.rowIs (w.heap.size+1+1) 24 4 (zu fun _=>0)/\
   wr.rowIs (w.heap.size+1+1+1) 24 4 (zu fun i=>if i<k - s/64 then za (b/2^s) i else 0)/\Below w.heap.size w wr)
   (fun t8 _=>4 - (intOf t8).toNat)
  case atStart=>
   refine⟨s/64,by omega,by omega,by go_num,Ye hrb _,Ye hrz _,Ye (hrm.congr fun i hi=> ?_) _,zL hbel _⟩;simp only[zu];rw[if_neg (by omega)]
  case round=>
   clear hra hrb hrm hrz hbel ca;obtain⟨k,hk1,hk2,rfl,hrb,hrz,hrm,hbel⟩:=hrel;by_cases hlt:k<4
   ·have cb:=hrb.cell (i:=k) (by omega);have cm:=hrm.cell (i:=k - s/64) (by omega);have fm:=hrm.frozen (k - s/64);simp only[zu,Nat.lt_irrefl,if_false] at cb cm;by_cases hgt:k+1<4
    ·have cb1:=hrb.cell (i:=k+1) (by omega);simp only[zu] at cb1;have hrm2:=hrm.set (k - s/64) (.int .u64 (za b k/2^(s%64)));have cm2:=hrm2.cell (i:=k - s/64) (by omega);simp only[if_true] at cm2;go_wp2
     go_region
     go_wp2
     go_roundw
     case rel=>
      refine⟨k+1,by omega,by omega,by go_num,((hrb.setOther (by simp) _).setOther (by simp) _).drew,((hrz.setOther (by simp) _).setOther (by simp) _).drew, ?_,((hbel.setCell (by simp;omega) _).setCell (by simp;omega) _).drew⟩;rw[show k+1 - s/64=k - s/64+1 by omega];exact(zgs hrm (shr_hi' b s k hk1)).drew
     case measure=>simp[intOf];omega
    ·go_wp2
     go_roundw
     case rel=>
      refine⟨k+1,by omega,by omega,by go_num,hrb.setOther (by simp) _,hrz.setOther (by simp) _, ?_,hbel.setCell (by simp;omega) _⟩;rw[show k+1 - s/64=k - s/64+1 by omega];exact YI hrm (znx b s k HB.out hk1 (by omega))
     case measure=>simp[intOf];omega
   ·obtain rfl:k=4:=by omega
    have hrm:=hrm.congr (g:=zu (za (b/2^s))) fun i hi=>by
     simp only[zu];by_cases hl:i<4 - s/64
     ·rw[if_pos hl]
     ·rw[if_neg hl,shr_out b s i HB.out (by omega)]
    obtain⟨c0,c1,c2,c3⟩:=ze hrm;obtain⟨z0,z1,z2,z3⟩:=ze hrz;have f0:=hrz.frozen;go_wp2;obtain⟨q0,q1,q2,q3⟩:=ze (ym hrz (za (b/2^s) 0) (za (b/2^s) 1) (za (b/2^s) 2) (za (b/2^s) 3));simp only[zbc] at q0 q1 q2 q3;refine bodyPost_ret (v:=wv (b/2^s)) (by simp[results,results117,go_sem,q0,q1,q2,q3]) rfl ⟨rfl, ?_⟩;exact(((hbel.setCell (by simp;omega) _).setCell (by simp;omega) _).setCell (by simp;omega) _).setCell (by simp;omega) _
theorem znl (y:Nat) (h:y<Lib.len8tab.size):(Lib.len8tab[y].toNat)=Lib.bitLen y:=by
 have hy:y<256:=by rw[Lib.len8tab_size] at h;exact h
 have e:=Lib.len8_of (y:Int) (by omega) (by omega);unfold Lib.len8 at e;rw[Int.toNat_natCast,getElem?_pos Lib.len8tab y h,Option.getD_some] at e;omega
theorem Yy (s:Int) (s':Nat) (y x:Int) (h:y.toNat<Lib.len8tab.size) (hs:s=s') (hs':s'<=56) (hx:Lib.bitLen x.toNat=s'+Lib.bitLen y.toNat):
  wrap64 (s+wrap64 ((Lib.len8tab[y.toNat].toNat:Nat):Int))=(Lib.bitLen x.toNat:Int):=by
 have hy:y.toNat<256:=by rw[Lib.len8tab_size] at h;exact h
 have hl:=Lib.bitLen_le8 ⟨y.toNat,hy⟩;simp only at hl;rw[znl _ h,hx,hs];unfold wrap64;omega
theorem zkq (x:Int) (h:x.toNat<Lib.len8tab.size):
  wrap64 (wrap64 ((Lib.len8tab[x.toNat].toNat:Nat):Int))=(Lib.bitLen x.toNat:Int):=by
 have hy:x.toNat<256:=by rw[Lib.len8tab_size] at h;exact h
 have hl:=Lib.bitLen_le8 ⟨x.toNat,hy⟩;simp only at hl;rw[znl _ h];unfold wrap64;omega
theorem zmv (x:Int) (w:World) (h0:0<=x) (h1:x<=18446744073709551615):
  Calls prog 211 #[.int .u64 x] w fun e w'=>e=.returned (.int .i64 (Lib.bitLen x.toNat))/\w'=w:=by
 have hsz:Lib.len8tab.size=256:=by decide+kernel
 go_enter func211,ntmps211;go_wp2
 all_goals (go_ret;refine⟨congrArg Ending.returned (congrArg (Value.int IntKind.i64) ?_),rfl⟩)
 ·exact Yy 56 56 _ x _ rfl (by omega) (by rw[Lib.bitLen_shift56 x.toNat (by omega) (by omega),show(x/4294967296/65536/256).toNat=x.toNat/72057594037927936 by omega])
 ·exact Yy 48 48 _ x _ rfl (by omega) (by rw[Lib.bitLen_shift48 x.toNat (by omega) (by omega),show(x/4294967296/65536).toNat=x.toNat/281474976710656 by omega])
 ·exact Yy 40 40 _ x _ rfl (by omega) (by rw[Lib.bitLen_shift40 x.toNat (by omega) (by omega),show(x/4294967296/256).toNat=x.toNat/1099511627776 by omega])
 ·exact Yy 32 32 _ x _ rfl (by omega) (by rw[Lib.bitLen_shift32 x.toNat (by omega) (by omega),show(x/4294967296).toNat=x.toNat/4294967296 by omega])
 ·exact Yy 24 24 _ x _ rfl (by omega) (by rw[Lib.bitLen_shift24 x.toNat (by omega) (by omega),show(x/65536/256).toNat=x.toNat/16777216 by omega])
 ·exact Yy 16 16 _ x _ rfl (by omega) (by rw[Lib.bitLen_shift16 x.toNat (by omega) (by omega),show(x/65536).toNat=x.toNat/65536 by omega])
 ·exact Yy 8 8 _ x _ rfl (by omega) (by rw[Lib.bitLen_shift8 x.toNat (by omega) (by omega),show(x/256).toNat=x.toNat/256 by omega])
 ·exact zkq x _
theorem zex:∀(f x:Nat),x<2^f->x<2^Lib.bitLenAux f x
 |0,x,h=>by simp at h;subst h;simp[Lib.bitLenAux]
 |f+1,x,h=>by
  unfold Lib.bitLenAux;split
  ·subst_vars;simp
  ·have:=zex f (x/2) (by rw[Nat.pow_succ] at h;omega);rw[Nat.pow_add];omega
theorem and_one (x:Nat) (h:x<18446744073709551616):bits .and .u64 (x:Int) 1=((x%2:Nat):Int):=by
 have e:=bits_and_u64_nat x 1 h (by omega);rw[Nat.and_one_is_mod] at e;exact e
theorem zhT (N i:Nat):zZ N (i/64)/2^(i%64)%2=N/2^i%2:=by
 have h1:(zZ N (i/64)/2^(i%64)%2=1)↔(N/2^i%2=1):=by
  have e1:=Nat.testBit_eq_decide_div_mod_eq (x:=zZ N (i/64)) (i:=i%64);have e2:=Nat.testBit_eq_decide_div_mod_eq (x:=N) (i:=i)
  have e3:(zZ N (i/64)).testBit (i%64)=N.testBit i:=by
   unfold zZ;rw[zi9,Nat.testBit_mod_two_pow,Nat.testBit_div_two_pow,show i%64+64*(i/64)=i by omega];simp[Nat.mod_lt i (show 64>0 by omega)]
  rw[e1,e2] at e3;simpa using e3
 omega
theorem znR (N i:Nat) (k:Nat):(za N i)/2^k=((zZ N i/2^k:Nat):Int):=by
 rw[Zw,Int.natCast_ediv,Int.natCast_pow];rfl
theorem zl6 (N n i b:Nat) (t:TypeId) (w:World) (hi:i<64*n) (hn:n<=8) (hr:w.rowIs b t n (zu (za N))):
  Calls prog 170 #[.slice (some ⟨b,0,none⟩) n n,.int .i64 (i:Int)] w fun e w'=>e=.returned (.int .u64 ((N/2^i%2:Nat):Int))/\w'=w:=by
 have c:=hr.cell (i:=i/64) (by omega);simp only[zu] at c;go_enter func170,ntmps170;go_wp2;go_ret;refine⟨congrArg Ending.returned (congrArg (Value.int IntKind.u64) ?_),rfl⟩;rw[znR,and_one _ (Nat.lt_of_le_of_lt (Nat.div_le_self _ _) (Yi _ _)),zhT]
theorem ret_int {k:IntKind} {a b:Int} (h:a=b):Ending.returned (.int k a)=.returned (.int k b):=by rw[h]
theorem znW {N k:Nat} (hz:za N k=0) (h:N<2^(64*(k+1))):N<2^(64*k):=by
 rw[Zw] at hz;have e:=zcy N k;rw[Nat.mod_eq_of_lt h,show zZ N k=0 by omega,Nat.zero_mul,Nat.add_zero] at e;rw[e];exact Nat.mod_lt _ (Nat.two_pow_pos _)
theorem len_up {N k:Nat} (h:N<2^(64*(k+1))):∃L:Nat,Lib.bitLen (za N k).toNat=L/\L<=64/\N<2^(64*k+L):=by
 refine⟨_,rfl,Lib.bitLen_le _ 64 (by omega) ?_, ?_⟩
 ·have:=zeo N k;have:=zbM N k;omega
 ·rw[Zw,Int.toNat_natCast];have h1:zZ N k<2^Lib.bitLen (zZ N k):=zex 64 _ (Yi N k);have e:=zcy N k;rw[Nat.mod_eq_of_lt h] at e;have h2:N%2^(64*k)<2^(64*k):=Nat.mod_lt _ (Nat.two_pow_pos _);rw[Nat.pow_add];have h3:(zZ N k+1)*2^(64*k)<=2^Lib.bitLen (zZ N k)*2^(64*k):=Nat.mul_le_mul h1 (Nat.le_refl _);rw[Nat.add_mul,Nat.mul_comm (2^Lib.bitLen (zZ N k))] at h3;omega
theorem zbZ (N n b:Nat) (t:TypeId) (w:World) (hn:n<=8) (hN:N<2^(64*n)) (hr:w.rowIs b t n (zu (za N))):
  Calls prog 169 #[.slice (some ⟨b,0,none⟩) n n] w fun e w'=>∃L:Nat,L<=64*n/\N<2^L/\e=.returned (.int .i64 (L:Int))/\w'=w:=by
 go_enter func169,ntmps169;go_wp2
 go_loop [3] (fun t3=>∃k:Nat,k<=n/\t3=.int .i64 ((k:Int) - 1)/\N<2^(64*k)) (fun t3=>(intOf t3+1).toNat)
 case atStart=>exact⟨n,Nat.le_refl _,by go_num,hN⟩
 case round=>
  obtain⟨k,hk,rfl,hNk⟩:=hrel;rcases Nat.eq_zero_or_pos k with rfl|hpos
  ·go_wp2;go_ret;exact⟨0,by omega,by simpa using hNk,rfl,rfl⟩
  ·obtain⟨k,rfl⟩:∃k',k=k'+1:=⟨k - 1,by omega⟩;clear hpos;have ek:((k+1:Nat):Int) - 1=(k:Int):=by omega
   rw[ek];have c:=hr.cell (i:=k) (by omega);have l1:=zbM N k;have l2:=zeo N k;simp only[zu] at c;by_cases hz:za N k=0
   ·have hb:(za N k !=0)=false:=by rw[hz];rfl
    have HZ:Hid (za N k=0):=hz;clear hz;go_wp2
    go_round
    case rel=>exact⟨k,by omega,by go_num,znW HZ.out hNk⟩
    case measure=>simp[intOf]
   ·have hb:(za N k !=0)=true:=by simpa using hz
    clear hz;go_wp2_with fail
    refine(zmv (za N k) _ l1 (by omega)).mono ?_;rintro e w' ⟨rfl,rfl⟩;obtain⟨L,hL,hl1,hl2⟩:=len_up hNk;rw[hL];have hx:L<=64:=hl1;clear hL;go_wp2;go_ret;exact⟨64*k+L,by omega,hl2,ret_int (by omega),rfl⟩
theorem zjC:prog.cellsOf 22=1:=by kernel_rfl
theorem part0 (x0 x1 x2 x3:Int) (w:World):(part 22 #[.int .u64 x0,.int .u64 x1,.int .u64 x2,.int .u64 x3] 0).run prog w=.ok (.int .u64 x0) w:=by simp[part,isAgg,run_underlying underlying22]
theorem part1 (x0 x1 x2 x3:Int) (w:World):(part 22 #[.int .u64 x0,.int .u64 x1,.int .u64 x2,.int .u64 x3] 1).run prog w=.ok (.int .u64 x1) w:=by simp[part,isAgg,run_underlying underlying22]
theorem part2 (x0 x1 x2 x3:Int) (w:World):(part 22 #[.int .u64 x0,.int .u64 x1,.int .u64 x2,.int .u64 x3] 2).run prog w=.ok (.int .u64 x2) w:=by simp[part,isAgg,run_underlying underlying22]
theorem part3 (x0 x1 x2 x3:Int) (w:World):(part 22 #[.int .u64 x0,.int .u64 x1,.int .u64 x2,.int .u64 x3] 3).run prog w=.ok (.int .u64 x3) w:=by simp[part,isAgg,run_underlying underlying22]
theorem eqInt (x y:Int) (w:World):(Op.equalIn 9999 22 (.int .u64 x) (.int .u64 y)).run prog w=.ok (x==y) w:=run_equalIn_int w 9998 22 .u64 .u64 x y underlying22
theorem eq4 (x0 x1 x2 x3 y0 y1 y2 y3:Int) (w:World):(Op.equalIn 10000 24 (.agg #[.int .u64 x0,.int .u64 x1,.int .u64 x2,.int .u64 x3]) (.agg #[.int .u64 y0,.int .u64 y1,.int .u64 y2,.int .u64 y3])).run prog w=.ok (x0==y0&&(x1==y1&&(x2==y2&&x3==y3))) w:=by
 obtain⟨i,hi, -⟩:=Option.map_eq_some_iff.1 (show(prog.info? 22).map (fun i=>i.size)=some 1 by kernel_rfl);rw[run_equalIn_array w 9999 _ _ underlying24 hi,show List.range 4=[0,1,2,3] from rfl,zjC];simp only[Op.eqItems,Sem.run_bind,Nat.mul_one,part0,part1,part2,part3,Result.andThen_ok,eqInt,Sem.run_ite,Sem.run_pure];cases h0:(x0==y0)<;>cases h1:(x1==y1)<;>cases h2:(x2==y2)<;>cases h3:(x3==y3)<;>rfl
def eqw (a b:Nat):Bool:=decide (a%M=b%M)
theorem zdC (a b:Nat):(za a 0==za b 0&&(za a 1==za b 1&&(za a 2==za b 2&&za a 3==za b 3)))=eqw a b:=by
 unfold eqw M;rw[Bool.eq_iff_iff];simp only[Bool.and_eq_true,beq_iff_eq,decide_eq_true_eq];unfold za;rw[pw0,pw1,pw2,pw3];omega
theorem zaL (a b:Nat) (w:World):(Op.equalIn 10000 24 (wv a) (wv b)).run prog w=.ok (eqw a b) w:=by
 rw[eq4,zdC]
theorem Z5 (a:Nat) (w:World):(Op.equalIn 10000 24 (wv a) (.agg #[.int .u64 0,.int .u64 0,.int .u64 0,.int .u64 0])).run prog w=.ok (eqw a 0) w:=by
 have e:=zaL a 0 w;unfold wv at e⊢;simp only[zs] at e;exact e
theorem zaA {a b:Nat} (h:a=b):eqw a b=true:=by subst h;simp[eqw]
theorem zgr {a b:Nat} (ha:a<M) (hb:b<M) (h:a≠b):eqw a b=false:=by
 unfold eqw;rw[Nat.mod_eq_of_lt ha,Nat.mod_eq_of_lt hb];simpa using h
def Qk (a b k:Nat):Nat:=a/2^k/b*2^k
def Rk (a b k:Nat):Nat:=a/2^k%b
def za7 (a i:Nat):Nat:=a/2^i%2
def dk (a b i:Nat):Nat:=2*Rk a b (i+1)+za7 a i
theorem zhq (a i:Nat):za7 a i<=1:=by unfold za7;omega
theorem zbD (a i:Nat):a/2^i=2*(a/2^(i+1))+za7 a i:=by
 unfold za7;rw[Nat.pow_succ,<-Nat.div_div_eq_div_mul];omega
theorem Rk_lt (a b k:Nat) (_hb:b≠0):Rk a b k<b:=Nat.mod_lt _ (by omega)
theorem div_lo (a b i:Nat) (hb:b≠0) (h:dk a b i<b):Rk a b i=dk a b i/\Qk a b i=Qk a b (i+1):=by
 unfold Rk Qk dk at*;unfold Rk at*;rw[zbD a i];generalize hn:a/2^(i+1)=n at*
 have e:2*n+za7 a i=b*(2*(n/b))+(2*(n%b)+za7 a i):=by
  have:=Nat.div_add_mod n b;rw[Nat.mul_left_comm];omega
 rw[e,Nat.mul_add_mod,Nat.mod_eq_of_lt h];refine⟨rfl, ?_⟩;rw[Nat.mul_add_div (by omega),Nat.div_eq_of_lt h,Nat.pow_succ,Nat.add_zero,Nat.mul_comm 2,Nat.mul_assoc,Nat.mul_comm 2]
theorem div_hi (a b i:Nat) (hb:b≠0) (h:¬dk a b i<b):Rk a b i=dk a b i - b/\Qk a b i=Qk a b (i+1)+2^i:=by
 have hl:=Rk_lt a b (i+1) hb;have hbit:=zhq a i;unfold Rk Qk dk at*;unfold Rk at*;rw[zbD a i];generalize hn:a/2^(i+1)=n at*
 have e:2*n+za7 a i=b*(2*(n/b)+1)+(2*(n%b)+za7 a i - b):=by
  have:=Nat.div_add_mod n b;rw[Nat.mul_add,Nat.mul_left_comm];omega
 have h2:2*(n%b)+za7 a i - b<b:=by omega
 rw[e,Nat.mul_add_mod,Nat.mod_eq_of_lt h2];refine⟨rfl, ?_⟩;rw[Nat.mul_add_div (by omega),Nat.div_eq_of_lt h2,Nat.pow_succ,Nat.add_zero,Nat.add_mul,Nat.one_mul,Nat.mul_comm 2,Nat.mul_assoc,Nat.mul_comm 2]
theorem zjl (x:Nat):2*x ||| 1=2*x+1:=by
 have:=Nat.two_pow_add_eq_or_of_lt (i:=1) (b:=1) (by omega) x;simpa using this.symm
theorem twice0 (R bit:Nat) (h:bit<=1):bits .or .u64 (za (R+R) 0) (bit:Int)=za (2*R+bit) 0:=by
 rw[Zw,Zw,bits_or_u64_nat _ _ (Yi _ _) (by omega)];congr 1;unfold zZ;rw[pw0,Nat.div_one,Nat.div_one];have e:(R+R)%18446744073709551616=2*(R%9223372036854775808):=by omega
 rw[e];have hb:bit=0\/bit=1:=by omega
 rcases hb with rfl|rfl
 ·rw[Nat.or_zero];omega
 ·rw[zjl];omega
theorem zho (R bit j:Nat) (h:bit<=1) (hj:j<4) (h0:j≠0):za (R+R) j=za (2*R+bit) j:=by
 unfold za;rcases k4 hj with rfl|rfl|rfl|rfl
 ·omega
 all_goals (simp only[pw1,pw2,pw3];omega)
theorem zks (R b bit:Nat) (h:bit<=1) (hR:R<b) (hb:b<M):
  ((cy R R 4:Int)==0&&(bw (2*R+bit) b 4:Int)==1)=decide (2*R+bit<b):=by
 unfold cy bw M at*;rw[pw4];rw[Bool.eq_iff_iff];simp only[Bool.and_eq_true,beq_iff_eq,decide_eq_true_eq];split<;>omega
theorem Yc (d b j:Nat) (hb:b<M) (h:¬d<b) (hj:j<4):za (zbY d b) j=za (d - b) j:=by
 unfold za zbY M at*;rcases k4 hj with rfl|rfl|rfl|rfl<;>simp only[pw0,pw1,pw2,pw3]<;>omega
theorem q_limb (Q i j:Nat) (hq:Q%2^(i+1)=0):zZ (Q+2^i) j=if j=i/64 then zZ Q j ||| 2^(i%64) else zZ Q j:=by
 have e:Q+2^i=Q ||| 2^i:=by
  obtain⟨c,hc⟩:=Nat.dvd_of_mod_eq_zero hq;rw[hc];exact Nat.two_pow_add_eq_or_of_lt (Nat.pow_lt_pow_right (by omega) (by omega)) c
 rw[e];apply Nat.eq_of_testBit_eq;intro t;rw[yD,Nat.testBit_or,Nat.testBit_two_pow];split
 ·rename_i hj;rw[Nat.testBit_or,yD,Nat.testBit_two_pow];by_cases ht:t<64
  ·simp only[ht,decide_true,Bool.true_and];congr 1;rw[Bool.eq_iff_iff];simp only[decide_eq_true_eq];omega
  ·have:¬i%64=t:=by omega
   simp[ht,this]
 ·rename_i hj;rw[yD];by_cases ht:t<64
  ·have:¬i=t+64*j:=by omega
   simp[ht,this]
  ·simp[ht]
theorem zod (a b k:Nat):Qk a b k%2^k=0:=by unfold Qk;exact Nat.mul_mod_left _ _
theorem Qk_zero (a b:Nat):Qk a b 0=a/b:=by unfold Qk;simp
theorem Rk_zero (a b:Nat):Rk a b 0=a%b:=by unfold Rk;simp
theorem Qk_top (a b L:Nat) (h:a<2^L):Qk a b L=0:=by unfold Qk;rw[Nat.div_eq_of_lt h,Nat.zero_div,Nat.zero_mul]
theorem Rk_top (a b L:Nat) (h:a<2^L):Rk a b L=0:=by unfold Rk;rw[Nat.div_eq_of_lt h,Nat.zero_mod]
theorem ziN (a b:Nat) (hb:eqw b 0=true) (w:World):
  Calls prog 164 #[wv8 a,wv b] w fun e w'=>e=.returned (.tuple #[wv8 0,wv 0])/\Below w.heap.size w w':=by
 have he:=Z5 b;rw[hb] at he;go_enter func164,ntmps164;go_wp2
 go_region
 all_goals go_wp2
 all_goals (refine bodyPost_ret (v:=.tuple #[wv8 0,wv 0]) (by simp[results,results164,go_sem,zs]) rfl ⟨rfl, ?_⟩;exact Below.drew (bal (bal (bal (bal (Below.refl _ _) _) _) _) _))
theorem zR {w:World} {b c:Nat} {t:TypeId} {n:Nat} {f:Nat->Value} (h:w.rowIs b t n f) (hne:b≠c) (v0 v1 v2 v3:Value):
  ((((w.setCell ⟨c,0,none⟩ v0).setCell ⟨c,1,none⟩ v1).setCell ⟨c,2,none⟩ v2).setCell ⟨c,3,none⟩ v3).rowIs b t n f:=
 (((h.setOther hne _).setOther hne _).setOther hne _).setOther hne _
theorem zy {w:World} {b:Nat} {t:TypeId} {g:Nat->Value} (h:w.rowIs b t 4 g) (f:Nat->Int) {x0 x1 x2 x3:Int} (h0:x0=f 0) (h1:x1=f 1) (h2:x2=f 2) (h3:x3=f 3):
  ((((w.setCell ⟨b,0,none⟩ (.int .u64 x0)).setCell ⟨b,1,none⟩ (.int .u64 x1)).setCell ⟨b,2,none⟩ (.int .u64 x2)).setCell ⟨b,3,none⟩ (.int .u64 x3)).rowIs b t 4 (zu f):=by
 subst h0 h1 h2 h3;refine(ym h _ _ _ _).congr fun i hi=> ?_
 rcases k4 hi with rfl|rfl|rfl|rfl<;>rfl
theorem Yv {w:World} {b c:Nat} {t:TypeId} {n:Nat} {f:Nat->Value} (h:w.rowIs b t n f) (hne:b≠c) (v0 v1 v2 v3 v4 v5 v6 v7:Value):
  ((((((((w.setCell ⟨c,0,none⟩ v0).setCell ⟨c,1,none⟩ v1).setCell ⟨c,2,none⟩ v2).setCell ⟨c,3,none⟩ v3).setCell ⟨c,4,none⟩ v4).setCell ⟨c,5,none⟩ v5).setCell ⟨c,6,none⟩ v6).setCell ⟨c,7,none⟩ v7).rowIs b t n f:=
 (((((((h.setOther hne _).setOther hne _).setOther hne _).setOther hne _).setOther hne _).setOther hne _).setOther hne _).setOther hne _
theorem zae {w:World} {b:Nat} {t:TypeId} {g:Nat->Value} (h:w.rowIs b t 8 g) (f:Nat->Int):
  ((((((((w.setCell ⟨b,0,none⟩ (.int .u64 (f 0))).setCell ⟨b,1,none⟩ (.int .u64 (f 1))).setCell ⟨b,2,none⟩ (.int .u64 (f 2))).setCell ⟨b,3,none⟩ (.int .u64 (f 3))).setCell ⟨b,4,none⟩ (.int .u64 (f 4))).setCell ⟨b,5,none⟩ (.int .u64 (f 5))).setCell ⟨b,6,none⟩ (.int .u64 (f 6))).setCell ⟨b,7,none⟩ (.int .u64 (f 7))).rowIs b t 8 (zu f):=by
 refine(zh5 h _ _ _ _ _ _ _ _).congr fun i hi=> ?_
 rcases k8 hi with rfl|rfl|rfl|rfl|rfl|rfl|rfl|rfl<;>rfl
theorem zkx {w w':World} (h:Below w.heap.size w w') {c:Nat} (hc:w.heap.size<=c) (v0 v1 v2 v3 v4 v5 v6 v7:Value):
  Below w.heap.size w ((((((((w'.setCell ⟨c,0,none⟩ v0).setCell ⟨c,1,none⟩ v1).setCell ⟨c,2,none⟩ v2).setCell ⟨c,3,none⟩ v3).setCell ⟨c,4,none⟩ v4).setCell ⟨c,5,none⟩ v5).setCell ⟨c,6,none⟩ v6).setCell ⟨c,7,none⟩ v7):=
 (((((((h.setCell hc _).setCell hc _).setCell hc _).setCell hc _).setCell hc _).setCell hc _).setCell hc _).setCell hc _
theorem zC {w w':World} (h:Below w.heap.size w w') {c:Nat} (hc:w.heap.size<=c) (v0 v1 v2 v3:Value):
  Below w.heap.size w ((((w'.setCell ⟨c,0,none⟩ v0).setCell ⟨c,1,none⟩ v1).setCell ⟨c,2,none⟩ v2).setCell ⟨c,3,none⟩ v3):=
 (((h.setCell hc _).setCell hc _).setCell hc _).setCell hc _
theorem zhM {w W:World} {a b i Q R':Nat} (hi:i<=512) (hra:W.rowIs w.heap.size 224 8 (zu (za a))) (hrb:W.rowIs (w.heap.size+1) 24 4 (zu (za b)))
  (hrq:W.rowIs (w.heap.size+1+1) 224 8 (zu (za Q))) (hrr:W.rowIs (w.heap.size+1+1+1) 24 4 (zu (za R'))) (hbel:Below w.heap.size w W) (h:Rk a b i=R'/\Qk a b i=Q):
  ∃k:Nat,k<=512/\Value.int .i64 ((i:Int) - 1)=.int .i64 ((k:Int) - 1)/\W.rowIs w.heap.size 224 8 (zu (za a))/\W.rowIs (w.heap.size+1) 24 4 (zu (za b))/\
   W.rowIs (w.heap.size+1+1) 224 8 (zu (za (Qk a b k)))/\W.rowIs (w.heap.size+1+1+1) 24 4 (zu (za (Rk a b k)))/\Below w.heap.size w W:=by
 obtain⟨rfl,rfl⟩:=h;exact⟨i,hi,rfl,hra,hrb,hrq,hrr,hbel⟩
theorem dk_eq {a b i R d:Nat} (hd:d=2*R+za7 a i) (hR:Rk a b (i+1)=R):dk a b i=d:=by unfold dk;rw[hd,hR]
theorem div_lo' {a b i R d:Nat} (hb:b≠0) (hd:d=2*R+za7 a i) (hR:Rk a b (i+1)=R) (h:d<b):Rk a b i=d/\Qk a b i=Qk a b (i+1):=by
 have e:=dk_eq hd hR;have:=div_lo a b i hb (by rw[e];exact h);rwa[e] at this
theorem zk4 {a b i R d:Nat} (hb:b≠0) (hd:d=2*R+za7 a i) (hR:Rk a b (i+1)=R) (h:¬d<b):Rk a b i=d - b/\Qk a b i=Qk a b (i+1)+2^i:=by
 have e:=dk_eq hd hR;have:=div_hi a b i hb (by rw[e];exact h);rwa[e] at this
theorem zoW (e:Nat) (h:e<64):IntKind.u64.wrap (2^e)=((2^e:Nat):Int):=by
 have hp:2^e<2^64:=Nat.pow_lt_pow_right (by omega) h;rw[IntKind.wrap_u64];have e1:(2:Int)^e=((2^e:Nat):Int):=by rw[Int.natCast_pow];rfl
 rw[e1];generalize 2^e=p at*;omega
theorem zgc {w:World} {b:Nat} {t:TypeId} {n Q i:Nat} (h:w.rowIs b t n (zu (za Q))) (hq:Q%2^(i+1)=0):
  (w.setCell ⟨b,i/64,none⟩ (.int .u64 (bits .or .u64 (za Q (i/64)) (IntKind.u64.wrap (2^(i%64)))))).rowIs b t n (zu (za (Q+2^i))):=by
 refine(h.set (i/64) _).congr fun j _=> ?_
 have hp:2^(i%64)<2^64:=Nat.pow_lt_pow_right (by omega) (by omega);have e:=q_limb Q i j hq;rw[zoW _ (by omega),Zw,bits_or_u64_nat _ _ (Yi _ _) hp];simp only[zu];by_cases hj:j=i/64
 ·rw[if_pos hj,Zw,e,if_pos hj,hj]
 ·rw[if_neg hj,Zw,Zw,e,if_neg hj]
theorem zbu (a b:Nat) (w:World):
  Calls prog 160 #[wv a,wv b] w fun e w'=>∃s c:Nat,Hid (s=a+b)/\Hid (c=cy a b 4)/\e=.returned (.tuple #[wv s,.int .u64 (c:Int)])/\Below w.heap.size w w':=
 (zgy a b w).mono fun _ _ h=>⟨_,_,rfl,rfl,h.1,h.2⟩
theorem zcE (a b:Nat) (w:World):
  Calls prog 163 #[wv a,wv b] w fun e w'=>∃s c:Nat,Hid (s=zbY a b)/\Hid (c=bw a b 4)/\e=.returned (.tuple #[wv s,.int .u64 (c:Int)])/\Below w.heap.size w w':=
 (zb0 a b w).mono fun _ _ h=>⟨_,_,rfl,rfl,h.1,h.2⟩
theorem zlx (N n i b:Nat) (t:TypeId) (w:World) (hi:i<64*n) (hn:n<=8) (hr:w.rowIs b t n (zu (za N))):
  Calls prog 170 #[.slice (some ⟨b,0,none⟩) n n,.int .i64 (i:Int)] w fun e w'=>e=.returned (.int .u64 (za7 N i:Int))/\w'=w:=zl6 N n i b t w hi hn hr
theorem zkd (a b:Nat) (ha:a<2^(64*8)) (hb:b<M) (hb0:b≠0) (w:World):
  Calls prog 164 #[wv8 a,wv b] w fun e w'=>e=.returned (.tuple #[wv8 (a/b),wv (a%b)])/\Below w.heap.size w w':=by
 have he:=Z5 b;rw[zgr hb (by unfold M;omega) hb0] at he;have HB:Hid (b<M):=hb;have HB0:Hid (b≠0):=hb0;have HA:Hid (a<2^(64*8)):=ha;clear hb hb0 ha;go_enter func164,ntmps164;go_wp2_with fail
 refine(zbZ a 8 w.heap.size 224 _ (by omega) HA.out ?_).mono ?_
 ·exact YH (za a) rfl rfl rfl rfl rfl rfl rfl rfl rfl |>.alloc _ |>.alloc _ |>.alloc _
 rintro e w' ⟨L,hL,hLa,rfl,rfl⟩;have HL:Hid (a<2^L):=hLa;clear hLa he;go_wp2
 go_loopw [6] (fun t6 wr=>∃k:Nat,k<=512/\t6=.int .i64 ((k:Int) - 1)/\wr.rowIs w.heap.size 224 8 (zu (za a))/\wr.rowIs (w.heap.size+1) 24 4 (zu (za b))/\
   wr.rowIs (w.heap.size+1+1) 224 8 (zu (za (Qk a b k)))/\wr.rowIs (w.heap.size+1+1+1) 24 4 (zu (za (Rk a b k)))/\Below w.heap.size w wr)
   (fun t6 _=>(intOf t6+1).toNat)
 case atStart=>
  refine⟨L,by omega,by go_num, ?_, ?_, ?_, ?_, ?_⟩
  ·exact YH (za a) rfl rfl rfl rfl rfl rfl rfl rfl rfl |>.alloc _ |>.alloc _ |>.alloc _
  ·exact zj (za b) (by simp) rfl rfl rfl rfl |>.alloc _ |>.alloc _
  ·rw[Qk_top a b L HL.out];exact YH (za 0) (by simp) (zs _).symm (zs _).symm (zs _).symm (zs _).symm (zs _).symm (zs _).symm (zs _).symm (zs _).symm |>.alloc _
  ·rw[Rk_top a b L HL.out];exact zj (za 0) (by simp) (zs _).symm (zs _).symm (zs _).symm (zs _).symm
  ·exact bal (bal (bal (bal (Below.refl _ _) _) _) _) _
 case round=>
  clear HL hL;obtain⟨k,hk,rfl,hra,hrb,hrq,hrr,hbel⟩:=hrel;rcases Nat.eq_zero_or_pos k with rfl|hpos
  ·rw[Qk_zero] at hrq;rw[Rk_zero] at hrr;obtain⟨q,HQ⟩:∃q,Hid (a/b=q):=⟨_,rfl⟩;obtain⟨r,HR⟩:∃r,Hid (a%b=r):=⟨_,rfl⟩;rw[HQ.out] at hrq;rw[HR.out] at hrr;obtain⟨r0,r1,r2,r3⟩:=ze hrr;obtain⟨q0,q1,q2,q3,q4,q5,q6,q7⟩:=yc hrq;have fr:=hrr.frozen;have fq:=hrq.frozen;go_wp2
   go_region
   all_goals go_wp2
   have hR':=zy (Yv hrr (b:=w.heap.size+1+1+1) (c:=w.heap.size+1+1) (by omega) (.int .u64 (za q 0)) (.int .u64 (za q 1)) (.int .u64 (za q 2)) (.int .u64 (za q 3)) (.int .u64 (za q 4)) (.int .u64 (za q 5)) (.int .u64 (za q 6)) (.int .u64 (za q 7))) (za r) rfl rfl rfl rfl;have hQ':=zR (zae hrq (za q)) (b:=w.heap.size+1+1) (c:=w.heap.size+1+1+1) (by omega) (.int .u64 (za r 0)) (.int .u64 (za r 1)) (.int .u64 (za r 2)) (.int .u64 (za r 3));obtain⟨s0,s1,s2,s3⟩:=ze hR';obtain⟨p0,p1,p2,p3,p4,p5,p6,p7⟩:=yc hQ';rw[HQ.out,HR.out];refine bodyPost_ret (v:=.tuple #[wv8 q,wv r]) (by simp[results,results164,go_sem,s0,s1,s2,s3,p0,p1,p2,p3,p4,p5,p6,p7]) rfl ⟨rfl, ?_⟩;exact(zC (zkx hbel (by omega) _ _ _ _ _ _ _ _) (by omega) _ _ _ _).drew
  ·obtain⟨i,rfl⟩:∃i,k=i+1:=⟨k - 1,by omega⟩;clear hpos;have ek:((i+1:Nat):Int) - 1=(i:Int):=by omega
   rw[ek];generalize hR:Rk a b (i+1)=R at*;have HR:Hid (Rk a b (i+1)=R):=hR;generalize hQ:Qk a b (i+1)=Q at*;have HQ:Hid (Qk a b (i+1)=Q):=hQ;clear hR hQ;obtain⟨r0,r1,r2,r3⟩:=ze hrr;go_wp2_with fail
   refine(zbu R R _).mono ?_;rintro e w1 ⟨s,c,HS,HC,rfl,hb1⟩;replace hra:=zg hra hb1;replace hrb:=zg hrb hb1;replace hrq:=zg hrq hb1;replace hrr:=zg hrr hb1;replace hbel:=ZE hbel hb1;clear hb1 r0 r1 r2 r3;obtain⟨bit,HBT⟩:∃bit,Hid (bit=za7 a i):=⟨_,rfl⟩;obtain⟨d,HD⟩:∃d,Hid (d=2*R+bit):=⟨_,rfl⟩;have hbl:bit<=1:=by rw[HBT.out];exact zhq a i
   have e0:bits .or .u64 (za s 0) (bit:Int)=za d 0:=by rw[HD.out,HS.out];exact twice0 R _ hbl
   have e1:za s 1=za d 1:=by rw[HD.out,HS.out];exact zho R _ 1 hbl (by omega) (by omega)
   have e2:za s 2=za d 2:=by rw[HD.out,HS.out];exact zho R _ 2 hbl (by omega) (by omega)
   have e3:za s 3=za d 3:=by rw[HD.out,HS.out];exact zho R _ 3 hbl (by omega) (by omega)
   obtain⟨b0,b1,b2,b3⟩:=ze hrb;have z1:=hrb.lt;go_wp2
   go_region_with (go_at_call 170;refine(zlx a 8 i w.heap.size 224 _ (by omega) (by omega) ?_).mono ?_;exact(hra.alloc _);rintro e w' ⟨rfl,rfl⟩;rw[<-HBT.out])
   all_goals
    go_wp2_with fail
    refine(zcE d b _).mono ?_;rintro e w2 ⟨r,c2,HSB,HC2,rfl,hb2⟩;have hrt:=zg (zj (n:=w1.heap.size) (za d) rfl rfl rfl rfl rfl).drew hb2;have hra2:=zg (hra.alloc _).drew hb2;have hrb2:=zg (hrb.alloc _).drew hb2;have hrq2:=zg (hrq.alloc _).drew hb2;have hrr2:=zg (hrr.alloc _).drew hb2;have hbel2:=ZE (bal hbel _).drew hb2;have z5:w.heap.size+1+1+1<w1.heap.size:=hrr.lt;clear hb2 hra hrb hrq hrr hbel e0 e1 e2 e3 b0 b1 b2 b3 z1;have hob:=zks R b bit hbl (by rw[<-HR.out];exact Rk_lt a b _ HB0.out) HB.out;rw[<-HD.out,<-HC.out,<-HC2.out] at hob;have HOB:Hid (((c:Int)==0&&(c2:Int)==1)=decide (d<b)):=hob;clear hob;have HD':Hid (d=2*R+za7 a i):=by rw[<-HBT.out];exact HD
    obtain⟨t0,t1,t2,t3⟩:=ze hrt;obtain⟨x0,x1,x2,x3⟩:=ze hrr2;have fr:=hrr2.frozen;have z2:=hrt.lt;have z3:=hrr2.lt;have z4:=hrq2.lt;by_cases hlt:d<b
    ·have g1:((c:Int)==0)=true:=by have:=HOB.out;simp[hlt] at this;simp[this]
     have g2:((c2:Int)==1)=true:=by have:=HOB.out;simp[hlt] at this;simp[this]
     go_wp2
     go_roundw
     case rel=>
      clear t0 t1 t2 t3 x0 x1 x2 x3 fr g1 g2;exact zhM (by omega) ((zR hra2 (by omega) _ _ _ _).alloc _) ((zR hrb2 (by omega) _ _ _ _).alloc _) ((zR hrq2 (by omega) _ _ _ _).alloc _) ((zy hrr2 (za d) rfl rfl rfl rfl).alloc _) (bal (zC hbel2 (by omega) _ _ _ _) _) (by rw[<-HQ.out];exact div_lo' HB0.out HD'.out HR.out hlt)
     case measure=>simp[intOf]
    ·have cq:=hrq2.cell (i:=i/64) (by omega);have fq:=hrq2.frozen (i/64);simp only[zu] at cq;cases ho:((c:Int)==0)
     ·go_wp2
      go_region
      go_wp2
      go_roundw
      case rel=>
       clear t0 t1 t2 t3 x0 x1 x2 x3 fr cq fq;exact zhM (by omega) (((zR hra2 (by omega) _ _ _ _).setOther (by simp;omega) _).alloc _).drew (((zR hrb2 (by omega) _ _ _ _).setOther (by simp) _).alloc _).drew ((zgc (zR hrq2 (by omega) _ _ _ _) (by rw[<-HQ.out];exact zod a b (i+1))).alloc _).drew (((zy hrr2 (za (d - b)) (by rw[HSB.out];exact Yc d b 0 HB.out hlt (by omega)) (by rw[HSB.out];exact Yc d b 1 HB.out hlt (by omega)) (by rw[HSB.out];exact Yc d b 2 HB.out hlt (by omega)) (by rw[HSB.out];exact Yc d b 3 HB.out hlt (by omega))).setOther (by simp) _).alloc _).drew (bal ((zC hbel2 (by omega) _ _ _ _).setCell (by simp;omega) _) _).drew (by rw[<-HQ.out];exact zk4 HB0.out HD'.out HR.out hlt)
      case measure=>simp[intOf]
     ·have g2:((c2:Int)==1)=false:=by have:=HOB.out;rw[ho] at this;simpa[hlt] using this
      go_wp2
      go_region
      go_wp2
      go_roundw
      case rel=>
       clear t0 t1 t2 t3 x0 x1 x2 x3 fr cq fq;exact zhM (by omega) (((zR hra2 (by omega) _ _ _ _).setOther (by simp;omega) _).alloc _).drew (((zR hrb2 (by omega) _ _ _ _).setOther (by simp) _).alloc _).drew ((zgc (zR hrq2 (by omega) _ _ _ _) (by rw[<-HQ.out];exact zod a b (i+1))).alloc _).drew (((zy hrr2 (za (d - b)) (by rw[HSB.out];exact Yc d b 0 HB.out hlt (by omega)) (by rw[HSB.out];exact Yc d b 1 HB.out hlt (by omega)) (by rw[HSB.out];exact Yc d b 2 HB.out hlt (by omega)) (by rw[HSB.out];exact Yc d b 3 HB.out hlt (by omega))).setOther (by simp) _).alloc _).drew (bal ((zC hbel2 (by omega) _ _ _ _).setCell (by simp;omega) _) _).drew (by rw[<-HQ.out];exact zk4 HB0.out HD'.out HR.out hlt)
      case measure=>simp[intOf]
theorem zcn (n i:Nat) (hi:i<4):za (n%M) i=za n i:=by
 unfold za M;rcases k4 hi with rfl|rfl|rfl|rfl<;>simp only[pw0,pw1,pw2,pw3]<;>omega
theorem zdk (n:Nat):wv (n%M)=wv n:=by
 unfold wv;rw[zcn n 0 (by omega),zcn n 1 (by omega),zcn n 2 (by omega),zcn n 3 (by omega)]
theorem yl {m n:Nat} (h:m%M=n%M):wv m=wv n:=by rw[<-zdk m,<-zdk n,h]
def zfD (a b:Nat):Nat:=(a+b)%M
def zfo (a b:Nat):Nat:=(a+(M - b))%M
def zdB (a b:Nat):Nat:=a*b%M
def zfO (a b:Nat):Nat:=a/b
def zbi (a b:Nat):Nat:=if b=0 then 0 else a%b
def zha (a:Nat):Nat:=(M - a)%M
def yM (a:Nat):Nat:=if neg a then zha a else a
def zgl (a b:Nat):Nat:=if neg a !=neg b then zha (zfO (yM a) (yM b)) else zfO (yM a) (yM b)
def zfY (a b:Nat):Nat:=if neg a then zha (zbi (yM a) (yM b)) else zbi (yM a) (yM b)
def zlm (a b c:Nat):Nat:=zbi (a+b) c
def zkJ (a b c:Nat):Nat:=zbi (a*b) c
def zg0 (a b:Nat):Nat:=a^b%M
def zfF (a:Nat):Nat:=M - 1 - a
def zbX (a b:Nat):Nat:=if a<256 then b*2^a%M else 0
def zd0 (a b:Nat):Nat:=if a<256 then b/2^a else 0
def zjr (a b:Nat):Nat:=if neg b then zfF (zd0 a (zfF b)) else zd0 a b
def zgx (a b:Nat):Nat:=if a<31 then zjr (248 - 8*a) (zbX (248 - 8*a) b) else b
def zf9 (a b:Nat):Nat:=if a<32 then zd0 (8*(31 - a)) b%256 else 0
def zeZ (a b:Nat):Bool:=if neg a !=neg b then neg a else decide (a<b)
def zcf (h:Bool):Nat:=if h then 1 else 0
theorem Yx:0<M:=by unfold M;omega
theorem fneg_lt (a:Nat):zha a<M:=Nat.mod_lt _ Yx
theorem zkC (a b:Nat) (ha:a<M):zfO a b<M:=Nat.lt_of_le_of_lt (Nat.div_le_self _ _) ha
theorem fmod_lt (a b:Nat) (hb:b<M):zbi a b<M:=by
 unfold zbi;split
 ·exact Yx
 ·exact Nat.lt_trans (Nat.mod_lt _ (by omega)) hb
theorem zee (a:Nat) (ha:a<M):yM a<M:=by unfold yM;split;exact fneg_lt a;exact ha
theorem fexp_lt (a b:Nat):zg0 a b<M:=Nat.mod_lt _ Yx
theorem zlj (a:Nat):zfF a<M:=by unfold zfF M;omega
theorem fshl_lt (a b:Nat):zbX a b<M:=by unfold zbX;split;exact Nat.mod_lt _ Yx;exact Yx
theorem fshr_lt (a b:Nat) (hb:b<M):zd0 a b<M:=by
 unfold zd0;split
 ·exact Nat.lt_of_le_of_lt (Nat.div_le_self _ _) hb
 ·exact Yx
theorem shlw_eq (a b:Nat) (ha:a<M):zgP a b%M=zbX a b:=by
 unfold zgP zbX;rw[Nat.mod_eq_of_lt ha];split;rfl;rfl
theorem shrw_eq (a b:Nat) (ha:a<M):zgH a b=zd0 a b:=by
 unfold zgH zd0;rw[Nat.mod_eq_of_lt ha]
theorem zlI:M=2^256:=rfl
def Ret (w:World) (n:Nat) (e:Ending) (w':World):Prop:=∃r:Nat,Hid (r=n)/\e=.returned (wv r)/\Below w.heap.size w w'
theorem Zo {w w':World} {n r:Nat} (h:r%M=n%M) (hb:Below w.heap.size w w'):Ret w n (.returned (wv r)) w':=
 ⟨n,rfl,congrArg Ending.returned (yl h),hb⟩
theorem zcR:Value.agg #[.int .u64 0,.int .u64 0,.int .u64 0,.int .u64 0]=wv 0:=by unfold wv;simp only[zs]
theorem wv_one:Value.agg #[.int .u64 1,.int .u64 0,.int .u64 0,.int .u64 0]=wv 1:=zeV 1 (by omega)
theorem ze2 (a b:Nat) (w:World):
  Calls prog 161 #[wv a,wv b] w fun e w'=>∃p:Nat,Hid (p=Yo a b)/\e=.returned (wv8 p)/\Below w.heap.size w w':=
 (zhX a b w).mono fun _ _ h=>⟨_,rfl,h.1,h.2⟩
theorem zc8 (a j:Nat) (ha:a<M) (hj:4<=j):za a j=0:=by
 rw[Zw];unfold zZ;rw[Nat.div_eq_of_lt]
 ·rfl
 ·refine Nat.lt_of_lt_of_le ha ?_;show 2^256<=_;exact Nat.pow_le_pow_right (by omega) (by omega)
theorem zlP (a:Nat) (ha:a<M):Value.agg #[.int .u64 (za a 0),.int .u64 (za a 1),.int .u64 (za a 2),.int .u64 (za a 3),.int .u64 0,.int .u64 0,.int .u64 0,.int .u64 0]=wv8 a:=by
 unfold wv8;rw[zc8 a 4 ha (by omega),zc8 a 5 ha (by omega),zc8 a 6 ha (by omega),zc8 a 7 ha (by omega)]
theorem zlH (a:Nat) (w:World):
  Calls prog 165 #[wv a] w fun e w'=>∃r:Nat,Hid (r=a%M)/\e=.returned (wv8 r)/\Below w.heap.size w w':=by
 rw[<-zdk a];refine(zgv _ _ _ _ w).mono ?_;rintro e w' ⟨rfl,hb⟩;exact⟨_,rfl,congrArg Ending.returned (zlP _ (Nat.mod_lt _ Yx)),hb⟩
theorem zbO (a b:Nat) (ha:a<2^(64*8)) (w:World):
  Calls prog 164 #[wv8 a,wv b] w fun e w'=>∃q r:Nat,Hid (q=a/(b%M))/\Hid (r=zbi a (b%M))/\e=.returned (.tuple #[wv8 q,wv r])/\Below w.heap.size w w':=by
 rw[<-zdk b];have hb:=Nat.mod_lt b Yx;generalize b%M=b at*;by_cases h0:b=0
 ·subst h0;refine(ziN a 0 (zaA rfl) w).mono ?_;rintro e w' ⟨rfl,hb⟩;exact⟨0,0,by show _=_;rw[Nat.div_zero],rfl,rfl,hb⟩
 ·refine(zkd a b ha hb h0 w).mono ?_;rintro e w' ⟨rfl,hb⟩;exact⟨_,_,rfl,by show _=_;unfold zbi;rw[if_neg h0],rfl,hb⟩
theorem low_w (p:Nat) (w:World):
  Calls prog 162 #[wv8 p] w fun e w'=>e=.returned (wv p)/\Below w.heap.size w w':=low_any _ _ _ _ _ _ _ _ w
theorem zcK (n:Nat) (h:256<=n):M<=2^n:=by rw[zlI];exact Nat.pow_le_pow_right (by omega) h
theorem lt_pow (a n:Nat) (h:256<=n):a%M<2^n:=Nat.lt_of_lt_of_le (Nat.mod_lt _ Yx) (zcK n h)
theorem lt512 (a:Nat):a%M<2^(64*8):=by have h:=lt_pow a (64*8) (by omega);exact h
theorem sub_rel (a b:Nat):zbY a b%M=zfo a (b%M)%M:=by
 unfold zbY zfo;rw[Nat.mod_mod,Nat.add_sub_assoc (Nat.le_of_lt (Nat.mod_lt _ Yx))]
theorem neg_rel (a:Nat):zfo 0 (a%M)%M=zha (a%M)%M:=by
 unfold zfo zha;rw[Nat.zero_add]
theorem ZY (a:Nat):neg (a%M)=neg a:=by unfold neg;rw[Nat.mod_mod]
theorem mul_rel (a b:Nat):Yo a b%M=zdB a b%M:=by
 unfold Yo zdB;rw[Nat.mod_mod,<-Nat.mul_mod]
theorem add_any (a b:Nat) (w:World):Calls prog 97 #[wv a,wv b] w (Ret w (zfD a b)):=by
 go_enter func97,ntmps97;go_wp2_with fail
 refine(zbu a b _).mono ?_;rintro e w1 ⟨s,c,HS,HC,rfl,hb⟩;have hrz:=zg (zj (n:=w.heap.size+1+1) (fun _=>0) (by simp) rfl rfl rfl rfl) hb;have hbel:=ZE (bal (bal (bal (Below.refl _ _) _) _) _) hb;have z:=hrz.lt;have z':=hbel.size;obtain⟨x0,x1,x2,x3⟩:=ze hrz;have fz:=hrz.frozen;clear hb;go_wp2;obtain⟨q0,q1,q2,q3⟩:=ze (zy hrz (za s) rfl rfl rfl rfl);refine bodyPost_ret (v:=wv s) (by simp[results,results97,go_sem,q0,q1,q2,q3,z]) rfl (Zo (by rw[HS.out];unfold zfD;rw[Nat.mod_mod]) ?_);exact bal (zC hbel (by omega) _ _ _ _) _
theorem zk6 (a b:Nat) (w:World):Calls prog 99 #[wv a,wv b] w (Ret w (zfo a (b%M))):=by
 go_enter func99,ntmps99;go_wp2_with fail
 refine(zcE a b _).mono ?_;rintro e w1 ⟨s,c,HS,HC,rfl,hb⟩;have hrz:=zg (zj (n:=w.heap.size+1+1) (fun _=>0) (by simp) rfl rfl rfl rfl) hb;have hbel:=ZE (bal (bal (bal (Below.refl _ _) _) _) _) hb;have z:=hrz.lt;have z':=hbel.size;obtain⟨x0,x1,x2,x3⟩:=ze hrz;have fz:=hrz.frozen;clear hb;go_wp2;obtain⟨q0,q1,q2,q3⟩:=ze (zy hrz (za s) rfl rfl rfl rfl);refine bodyPost_ret (v:=wv s) (by simp[results,results99,go_sem,q0,q1,q2,q3,z]) rfl (Zo (by rw[HS.out];exact sub_rel a b) ?_);exact bal (zC hbel (by omega) _ _ _ _) _
theorem za5 (a:Nat) (w:World):Calls prog 168 #[wv a] w (Ret w (zha (a%M))):=by
 go_enter func168,ntmps168;go_wp2_with fail
 rw[zcR];refine(zk6 0 a _).mono ?_;rintro e w1 ⟨s,HS,rfl,hb⟩;have hrz:=zg (zj (n:=w.heap.size+1) (fun _=>0) (by simp) rfl rfl rfl rfl) hb;have hbel:=ZE (bal (bal (Below.refl _ _) _) _) hb;have z:=hrz.lt;have z':=hbel.size;obtain⟨x0,x1,x2,x3⟩:=ze hrz;have fz:=hrz.frozen;clear hb;go_wp2;obtain⟨q0,q1,q2,q3⟩:=ze (zy hrz (za s) rfl rfl rfl rfl);refine bodyPost_ret (v:=wv s) (by simp[results,results168,go_sem,q0,q1,q2,q3,z]) rfl (Zo (by rw[HS.out];exact neg_rel a) ?_);exact zC hbel (by omega) _ _ _ _
theorem YD (a:Nat) (w:World):Calls prog 166 #[wv a] w (Ret w (yM (a%M))):=by
 go_enter func166,ntmps166;go_wp2_with fail
 refine(zba a _).mono ?_;rintro e w1 ⟨rfl,hb⟩;have hra:=zg (zj (n:=w.heap.size) (za a) rfl rfl rfl rfl rfl |>.alloc _) hb;have hrz:=zg (zj (n:=w.heap.size+1) (fun _=>0) (by simp) rfl rfl rfl rfl) hb;have hbel:=ZE (bal (bal (Below.refl _ _) _) _) hb;have z:=hrz.lt;have z':=hbel.size;obtain⟨x0,x1,x2,x3⟩:=ze hrz;have fz:=hrz.frozen;clear hb;obtain⟨y0,y1,y2,y3⟩:=ze hra;cases hn:neg a
 ·have HN:Hid (neg a=false):=hn;go_wp2;obtain⟨q0,q1,q2,q3⟩:=ze (zy hrz (za a) rfl rfl rfl rfl);refine bodyPost_ret (v:=wv a) (by simp[results,results166,go_sem,q0,q1,q2,q3,z]) rfl (Zo (by unfold yM;rw[ZY,HN.out,if_neg (by decide),Nat.mod_mod]) ?_);exact zC hbel (by omega) _ _ _ _
 ·have HN:Hid (neg a=true):=hn;go_wp2_with fail
  refine(za5 a _).mono ?_;rintro e w2 ⟨s,HS,rfl,hb⟩;replace hrz:=zg hrz hb;replace hbel:=ZE hbel hb;replace z:=hrz.lt;replace z':=hbel.size;clear x0 x1 x2 x3 fz hb;obtain⟨x0,x1,x2,x3⟩:=ze hrz;have fz:=hrz.frozen;go_wp2;obtain⟨q0,q1,q2,q3⟩:=ze (zy hrz (za s) rfl rfl rfl rfl);refine bodyPost_ret (v:=wv s) (by simp[results,results166,go_sem,q0,q1,q2,q3,z]) rfl (Zo (by rw[HS.out];unfold yM;rw[ZY,HN.out,if_pos rfl]) ?_);exact zC hbel (by omega) _ _ _ _
theorem zhd (a b:Nat) (w:World):Calls prog 98 #[wv a,wv b] w (Ret w (zdB a b)):=by
 go_enter func98,ntmps98;go_wp2_with fail
 refine(ze2 a b _).mono ?_;rintro e w1 ⟨p,HP,rfl,hb⟩;have hrz:=zg (zj (n:=w.heap.size+1+1) (fun _=>0) (by simp) rfl rfl rfl rfl) hb;have hbel:=ZE (bal (bal (bal (Below.refl _ _) _) _) _) hb;have z:=hrz.lt;have z':=hbel.size;obtain⟨x0,x1,x2,x3⟩:=ze hrz;have fz:=hrz.frozen;clear hb;go_wp2_with fail
 refine(low_w p _).mono ?_;rintro e w2 ⟨rfl,hb⟩;replace hrz:=zg hrz hb;replace hbel:=ZE hbel hb;replace z:=hrz.lt;replace z':=hbel.size;clear x0 x1 x2 x3 fz hb;obtain⟨x0,x1,x2,x3⟩:=ze hrz;have fz:=hrz.frozen;go_wp2;obtain⟨q0,q1,q2,q3⟩:=ze (zy hrz (za p) rfl rfl rfl rfl);refine bodyPost_ret (v:=wv p) (by simp[results,results98,go_sem,q0,q1,q2,q3,z]) rfl (Zo (by rw[HP.out];exact mul_rel a b) ?_);exact zC hbel (by omega) _ _ _ _
section
theorem zdq {p p':Nat->Bool} (h:∀j,p' j=true->p j=true):∀(l:List Nat) (i:Nat),i∈l->p i=true->p' i=false->l.countP p'<l.countP p
 |[],i,hi,_,_=>by cases hi
 |x::l,i,hi,h1,h2=>by
  have mono:l.countP p'<=l.countP p:=List.countP_mono_left fun j _ hj=>h j hj
  rcases List.mem_cons.1 hi with rfl|hi
  ·rw[List.countP_cons,List.countP_cons,h1,h2];simp;omega
  ·have ih:=zdq h l i hi h1 h2;rw[List.countP_cons,List.countP_cons];by_cases hx:p' x=true
   ·rw[if_pos hx,if_pos (h x hx)];omega
   ·rw[if_neg hx];split<;>omega
def YZ (ops:Array Oper) (j i:Nat):Bool:=((ops[j]?).map fun o=>o.after.any fun e=>Region.binds .any e&&e.on==i).getD false
variable {P:Program} {ops:Array Oper} {Q:Exit->Act->World->Prop}
theorem zl4 (G:Act->World->Prop) (F:Nat->Act->World->Prop)
  (hstep:∀(i:Nat) (o:Oper),ops[i]? =some o->∀a w,G a w->(∀e∈o.after,Region.binds .any e=true->F e.on a w)->
   wpOp P ops Q i (fun a' w'=>G a' w'/\F i a' w'/\∀j,j≠i->YZ ops j i=false->F j a w->F j a' w') a w)
  (hdone:∀a w,G a w->(∀i,i<ops.size->F i a w)->Q .normal a w):
  ∀(fuel:Nat) (listed:Array Bool) (a:Act) (w:World),(List.range ops.size).countP (fun i=> !listed.getD i true)<=fuel->listed.size=ops.size->
   G a w->(∀i,listed.getD i false=true->F i a w)->(Region.ready .any ops listed=[]->∀i,i<ops.size->listed.getD i false=true)->
   (∀l:Array Bool,l.size=ops.size->Region.ready .any ops l=[]->∀i,i<ops.size->l.getD i false=true)->
   (∀j i,listed.getD j false=true->YZ ops j i=true->listed.getD i false=true)->wpAny P .any ops Q fuel listed a w:=by
 intro fuel
 induction fuel with
 |zero=>
  intro listed a w hc hs hG hF hr hall hcl
  have h0:Region.ready .any ops listed=[]:=by
   apply List.eq_nil_iff_forall_not_mem.2;intro i hi;simp only[Region.ready,List.mem_filter,Bool.and_eq_true] at hi;have hz:(List.range ops.size).countP (fun i=> !listed.getD i true)=0:=by omega
   rw[List.countP_eq_zero] at hz;exact hz i hi.1 hi.2.1
  exact⟨h0,hdone a w hG fun i hi=>hF i (hr h0 i hi)⟩
 |succ fuel ih=>
  intro listed a w hc hs hG hF hr hall hcl;refine⟨fun h0=>hdone a w hG fun i hi=>hF i (hr h0 i hi),fun i hi=> ?_⟩;have hi':=hi;simp only[Region.ready,List.mem_filter,Bool.and_eq_true,List.mem_range] at hi;obtain⟨hlt,hl,haft⟩:=hi;have ho:ops[i]? =some ops[i]:=getElem?_pos ops i hlt;rw[ho] at haft;simp only[Option.map_some,Option.getD_some,Array.all_eq_true',Bool.or_eq_true,Bool.not_eq_true'] at haft;have hli:i<listed.size:=by omega
  refine wpOp_mono ?_ (hstep i _ ho a w hG fun e he hb=> ?_)
  ·rintro a' w' ⟨hG',hFi,hkeep⟩
   have hnf:listed.getD i false=false:=by
    simp only[Array.getD_eq_getD_getElem?,getElem?_pos listed i hli,Option.getD_some] at hl⊢;simpa using hl
   refine ih _ a' w' ?_ (by simp[hs]) hG' ?_ (hall _ (by simp[hs])) hall ?_
   ·have:=zdq (p:=fun i=> !listed.getD i true) (p':=fun j=> !(listed.setIfInBounds i true).getD j true) ?_ (List.range ops.size) i (by simpa using hlt) (by simpa using hl) ?_
    ·omega
    ·intro j hj;simp only[Array.getD_eq_getD_getElem?,Array.getElem?_setIfInBounds] at hj⊢;by_cases e:i=j
     ·subst e;simp[hli] at hj
     ·simpa[e] using hj
    ·simp[Array.getD_eq_getD_getElem?,hli]
   ·intro j hj;by_cases e:i=j
    ·subst e;exact hFi
    ·have hjl:listed.getD j false=true:=by simpa[Array.getD_eq_getD_getElem?,Array.getElem?_setIfInBounds,e] using hj
     refine hkeep j (fun h=>e h.symm) ?_ (hF j hjl);cases hd:YZ ops j i
     ·rfl
     ·rw[hcl j i hjl hd] at hnf;cases hnf
   ·intro j k hj hd
    have up:listed.getD k false=true->(listed.setIfInBounds i true).getD k false=true:=by
     intro h;by_cases e:i=k
     ·subst e;rw[h] at hnf;cases hnf
     ·simpa[Array.getD_eq_getD_getElem?,Array.getElem?_setIfInBounds,e] using h
    by_cases e:i=j
    ·subst e;refine up ?_;unfold YZ at hd;rw[ho] at hd;simp only[Option.map_some,Option.getD_some,Array.any_eq_true',Bool.and_eq_true,beq_iff_eq] at hd;obtain⟨x,hx,hb,rfl⟩:=hd;exact(haft x hx).resolve_left (by rw[hb];simp)
    ·refine up (hcl j k ?_ hd);simpa[Array.getD_eq_getD_getElem?,Array.getElem?_setIfInBounds,e] using hj
  ·exact hF _ ((haft e he).resolve_left (by rw[hb];simp))
def zeX (ops:Array Oper):Bool:=(List.range ops.size).all fun i=>((ops[i]?).map fun o=>o.after.all fun e=> !Region.binds .any e||decide (e.on<i)).getD true
theorem YF (h:zeX ops=true):∀l:Array Bool,l.size=ops.size->Region.ready .any ops l=[]->∀i,i<ops.size->l.getD i false=true:=by
 intro l hl hr i
 induction i using Nat.strongRecOn with
 |_ i ih=>
  intro hi;unfold zeX at h;have hd:=List.all_eq_true.1 h i (by simpa using hi);have ho:ops[i]? =some ops[i]:=getElem?_pos ops i hi;rw[ho] at hd;simp only[Option.map_some,Option.getD_some,Array.all_eq_true',Bool.or_eq_true,Bool.not_eq_true',decide_eq_true_eq] at hd;cases hc:l.getD i false
  ·exfalso
   have hm:i∈Region.ready .any ops l:=by
    simp only[Region.ready,List.mem_filter,Bool.and_eq_true,List.mem_range];refine⟨hi, ?_, ?_⟩
    ·have hli:i<l.size:=by omega
     simp only[Array.getD_eq_getD_getElem?,getElem?_pos l i hli,Option.getD_some] at hc⊢;simp[hc]
    ·rw[ho];simp only[Option.map_some,Option.getD_some,Array.all_eq_true',Bool.or_eq_true,Bool.not_eq_true'];intro e he;rcases hd e he with hb|hlt
     ·exact Or.inl hb
     ·exact Or.inr (ih e.on hlt (by omega))
   rw[hr] at hm;cases hm
  ·rfl
theorem ZK {id:Nat} {a:Act} {w:World} (hm:P.follows .mixedOrders=true) (G:Act->World->Prop) (F:Nat->Act->World->Prop)
  (hall:∀l:Array Bool,l.size=ops.size->Region.ready .any ops l=[]->∀i,i<ops.size->l.getD i false=true) (h0:G a w.drew)
  (hstep:∀(i:Nat) (o:Oper),ops[i]? =some o->∀a w,G a w->(∀e∈o.after,Region.binds .any e=true->F e.on a w)->
   wpOp P ops Q i (fun a' w'=>G a' w'/\F i a' w'/\∀j,j≠i->YZ ops j i=false->F j a w->F j a' w') a w)
  (hdone:∀a w,G a w->(∀i,i<ops.size->F i a w)->Q .normal a w):(Code.region id ops true).wp P Q a w:=by
 refine wp_region_any hm (zl4 G F hstep hdone _ _ a _ ?_ (by simp) h0 ?_ (hall _ (by simp)) hall ?_)
 ·refine Nat.le_trans List.countP_le_length (by simp)
 ·intro i hi;simp[Array.getD_eq_getD_getElem?,Array.getElem?_replicate] at hi;split at hi<;>simp at hi
 ·intro i _ hi;simp[Array.getD_eq_getD_getElem?,Array.getElem?_replicate] at hi;split at hi<;>simp at hi
end
end cin
end Go.Proofs.YtohoajjdoihekaaGreatDoor
