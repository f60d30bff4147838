import Derived.Test.YtohoajjdoihekaaGreatDoorRows
import Derived.WalkKit
import Derived.Deep.OwnRows
import Derived.WalkSpells
import Derived.WalkLawsBesides
import Derived.BigRegion
import Derived.Deep.RegionWith
import Derived.Deep.QuietTactic
import Derived.BigQuiet
import Derived.Shelf.Spec.BitsCarry
import Derived.Lib.Mul64
import Derived.Lib.BitFns
import Derived.ChangeKeysEq
set_option linter.unusedVariables false
set_option linter.unusedSimpArgs false
namespace Go.Proofs.YtohoajjdoihekaaGreatDoor
namespace cin
open Go.RowKit Go.Proofs.Tryz Tryz
set_option maxRecDepth 100000
set_option maxHeartbeats 8000000
theorem pk {α : Type _} {β : Type _} {a c : α} {b d : β} (h : some (a, b) = some (c, d)) : a = c ∧ b = d := Prod.mk.inj (Option.some.inj h)
theorem nn1 {α : Type _} {d : α} {p : Prop} (h : some d = none) : p := by cases h
theorem sx9 {α : Type _} : (∀ (l : List α) (i : Nat) (v : α), l.toArray.setIfInBounds i v = (l.set i v).toArray) ∧ (∀ (a v : α) (l : List α), (a :: l).set 0 v = v :: l) ∧ ∀ (a v : α) (l : List α) (n : Nat), (a :: l).set (n + 1) v = a :: l.set n v := ⟨fun l i v => List.setIfInBounds_toArray .., fun _ _ _ => rfl, fun _ _ _ _ => rfl⟩
theorem sj {α : Type _} {a b : α} (h : some a = some b) : a = b := Option.some.inj h
def za (n i:Nat):Int:=((n/2^(64*i)%18446744073709551616:Nat):Int)
abbrev wv (n:Nat):Value:=.agg #[.int .u64 (za n 0),.int .u64 (za n 1),.int .u64 (za n 2),.int .u64 (za n 3)]
theorem YY (n i:Nat):0<=za n i:=Int.natCast_nonneg _
theorem zb8 (n i:Nat):za n i<18446744073709551616:=by unfold za;omega
def cy (a b k:Nat):Nat:=(a%2^(64*k)+b%2^(64*k))/2^(64*k)
theorem pw0:2^(64*0)=1:=rfl
theorem pw1:2^(64*1)=18446744073709551616:=rfl
theorem pw2:2^(64*2)=340282366920938463463374607431768211456:=rfl
theorem pw3:2^(64*3)=6277101735386680763835789423207666416102355444464034512896:=rfl
theorem pw4:2^(64*4)=115792089237316195423570985008687907853269984665640564039457584007913129639936:=rfl
theorem cy_le (a b k:Nat):cy a b k<=1:=by
 unfold cy;have h1:a%2^(64*k)<2^(64*k):=Nat.mod_lt _ (Nat.two_pow_pos _);have h2:b%2^(64*k)<2^(64*k):=Nat.mod_lt _ (Nat.two_pow_pos _)
 have:(a%2^(64*k)+b%2^(64*k))/2^(64*k)<2:=by
  rw[Nat.div_lt_iff_lt_mul (Nat.two_pow_pos _)];omega
 omega
theorem k4 {k:Nat} (h:k<4):k=0\/k=1\/k=2\/k=3:=by omega
theorem zlk (a b k:Nat) (hk:k<4):(za a k+za b k+cy a b k)%18446744073709551616=za (a+b) k:=by
 unfold za cy;rcases k4 hk with rfl|rfl|rfl|rfl<;>simp only[pw0,pw1,pw2,pw3]<;>omega
theorem add_cy (a b k:Nat) (hk:k<4):(za a k+za b k+cy a b k)/18446744073709551616=cy a b (k+1):=by
 unfold za cy;rcases k4 hk with rfl|rfl|rfl|rfl<;>simp only[pw0,pw1,pw2,pw3,pw4,Nat.zero_add,Nat.reduceAdd]<;>omega
abbrev M:Nat:=115792089237316195423570985008687907853269984665640564039457584007913129639936
def bw (a b k:Nat):Nat:=if a%2^(64*k)<b%2^(64*k) then 1 else 0
def zaj (a b:Nat):Nat:=a+M - b%M
theorem bw_le (a b k:Nat):bw a b k<=1:=by unfold bw;split<;>omega
theorem zk5 (a b k:Nat) (hk:k<4):(za a k+18446744073709551616 - za b k - bw a b k)%18446744073709551616=za (zaj a b) k:=by
 unfold za bw zaj M;rcases k4 hk with rfl|rfl|rfl|rfl<;>simp only[pw0,pw1,pw2,pw3]<;>split<;>omega
theorem sub_bw (a b k:Nat) (hk:k<4):(if za a k<za b k+bw a b k then(1:Int) else 0)=bw a b (k+1):=by
 unfold za bw;rcases k4 hk with rfl|rfl|rfl|rfl<;>simp only[pw0,pw1,pw2,pw3,pw4,Nat.zero_add,Nat.reduceAdd]<;>split<;>split<;>split<;>omega
theorem zeg:(18446744073709551616:Nat)=2^64:=rfl
theorem zme (a b k:Nat):((a/2^(64*k)%18446744073709551616) &&& (b/2^(64*k)%18446744073709551616))=(a &&& b)/2^(64*k)%18446744073709551616:=by
 apply Nat.eq_of_testBit_eq;intro i;rw[zeg];simp only[Nat.testBit_and,Nat.testBit_mod_two_pow,Nat.testBit_div_two_pow];cases decide (i<64)<;>simp
theorem limb_or (a b k:Nat):((a/2^(64*k)%18446744073709551616) ||| (b/2^(64*k)%18446744073709551616))=(a ||| b)/2^(64*k)%18446744073709551616:=by
 apply Nat.eq_of_testBit_eq;intro i;rw[zeg];simp only[Nat.testBit_or,Nat.testBit_mod_two_pow,Nat.testBit_div_two_pow];cases decide (i<64)<;>simp
theorem zlv (a b k:Nat):((a/2^(64*k)%18446744073709551616) ^^^ (b/2^(64*k)%18446744073709551616))=(a ^^^ b)/2^(64*k)%18446744073709551616:=by
 apply Nat.eq_of_testBit_eq;intro i;rw[zeg];simp only[Nat.testBit_xor,Nat.testBit_mod_two_pow,Nat.testBit_div_two_pow];cases decide (i<64)<;>simp
def zcI (a:Nat):Nat:=M - 1 - a%M
theorem zmK (a k:Nat) (hk:k<4):18446744073709551615 - za a k=za (zcI a) k:=by
 unfold za zcI M;rcases k4 hk with rfl|rfl|rfl|rfl<;>simp only[pw0,pw1,pw2,pw3]<;>omega
def neg (a:Nat):Bool:=decide (57896044618658097711785492504343953926634992332820282019728792003956564819968<=a%M)
theorem zlG (a:Nat):(za a 3/9223372036854775808==1)=neg a:=by
 unfold za neg M;rw[pw3,Bool.eq_iff_iff];simp only[beq_iff_eq,decide_eq_true_eq];omega
def zy (n i:Nat):Nat:=n/2^(64*i)%18446744073709551616
theorem zO (n i:Nat):za n i=(zy n i:Int):=rfl
theorem ZD (n i:Nat):zy n i<18446744073709551616:=Nat.mod_lt _ (by omega)
def val (f:Nat->Nat):Nat->Nat
 |0=>0
 |n+1=>val f n+f n*2^(64*n)
def upd (f:Nat->Nat) (p v:Nat):Nat->Nat:=fun i=>if i=p then v else f i
theorem pwS (n:Nat):2^(64*(n+1))=2^(64*n)*18446744073709551616:=by
 rw[show 64*(n+1)=64*n+64 by omega,Nat.pow_add]
theorem pwA (n m:Nat):2^(64*(n+m))=2^(64*n)*2^(64*m):=by
 rw[show 64*(n+m)=64*n+64*m by omega,Nat.pow_add]
theorem val_lt {f:Nat->Nat} (h:∀i,f i<18446744073709551616) (n:Nat):val f n<2^(64*n):=by
 induction n with
 |zero=>simp[val]
 |succ n ih=>
  simp only[val];rw[pwS];have h1:f n*2^(64*n)<=18446744073709551615*2^(64*n):=Nat.mul_le_mul (by have:=h n;omega) (Nat.le_refl _);omega
theorem zkW {f:Nat->Nat} (h:∀i,f i<18446744073709551616) (n i:Nat) (hi:i<n):zy (val f n) i=f i:=by
 induction n with
 |zero=>omega
 |succ n ih=>
  simp only[val];by_cases e:i=n
  ·subst e;unfold zy;have h2:=val_lt h i
   have h3:(val f i+f i*2^(64*i))/2^(64*i)=f i:=by
    rw[Nat.add_mul_div_right _ _ (Nat.two_pow_pos _),Nat.div_eq_of_lt h2];omega
   rw[h3];exact Nat.mod_eq_of_lt (h i)
  ·have hin:i<n:=by omega
   rw[<-ih hin];unfold zy;obtain⟨d,rfl⟩:∃d,n=(i+1)+d:=⟨n - (i+1),by omega⟩;rw[pwA (i+1) d,pwS i]
   have e2:f (i+1+d)*(2^(64*i)*18446744073709551616*2^(64*d))=(f (i+1+d)*2^(64*d)*18446744073709551616)*2^(64*i):=by
    rw[Nat.mul_comm (2^(64*i)) 18446744073709551616,Nat.mul_assoc 18446744073709551616,Nat.mul_comm (2^(64*i)) (2^(64*d)),<-Nat.mul_assoc,<-Nat.mul_assoc,Nat.mul_right_comm (f (i+1+d)) 18446744073709551616 (2^(64*d))]
   rw[e2,Nat.add_mul_div_right _ _ (Nat.two_pow_pos _),Nat.add_mul_mod_self_right]
theorem zeO (f:Nat->Nat) (p v n:Nat) (h:n<=p):val (upd f p v) n=val f n:=by
 induction n with
 |zero=>rfl
 |succ n ih=>
  simp only[val];rw[ih (by omega)];simp[upd,show n≠p by omega]
theorem ziE (f:Nat->Nat) (p v n:Nat) (h:p<n):val (upd f p v) n+f p*2^(64*p)=val f n+v*2^(64*p):=by
 induction n with
 |zero=>omega
 |succ n ih=>
  simp only[val];by_cases e:p=n
  ·subst e;rw[zeO f p v p (Nat.le_refl _)];simp only[upd,if_true];omega
  ·have:=ih (by omega);simp only[upd,show n≠p by omega,if_false] at this⊢;omega
theorem zfF (b n:Nat):val (zy b) n=b%2^(64*n):=by
 induction n with
 |zero=>simp[val,Nat.mod_one]
 |succ n ih=>
  simp only[val];rw[ih,pwS,Nat.mod_mul,Nat.mul_comm (2^(64*n))];rfl
theorem zbf (b n:Nat):b%2^(64*(n+1))=b%2^(64*n)+zy b n*2^(64*n):=by
 rw[<-zfF,<-zfF];rfl
theorem zli (n:Nat):val (fun _=>0) n=0:=by
 induction n with
 |zero=>rfl
 |succ n ih=>simp only[val];rw[ih,Nat.zero_mul]
theorem zmC {f:Nat->Nat} (h:∀i,f i<18446744073709551616) {p v:Nat} (hv:v<18446744073709551616):∀i,upd f p v i<18446744073709551616:=by
 intro i;unfold upd;split
 ·exact hv
 ·exact h i
theorem zid {g:Nat->Nat} {S x y b c i j:Nat} (hij:i+j<8) (hy:y=zy b j)
  (h:val g 8+c*2^(64*(i+j))=S+x*(b%2^(64*j))*2^(64*i)):
  val (upd g (i+j) ((x*y+g (i+j)+c)%18446744073709551616)) 8+(x*y+g (i+j)+c)/18446744073709551616*2^(64*(i+(j+1)))=S+x*(b%2^(64*(j+1)))*2^(64*i):=by
 have hu:=ziE g (i+j) ((x*y+g (i+j)+c)%18446744073709551616) 8 hij;rw[zbf b j,<-hy,show i+(j+1)=(i+j)+1 by omega,pwS (i+j)]
 have e1:x*(b%2^(64*j)+y*2^(64*j))*2^(64*i)=x*(b%2^(64*j))*2^(64*i)+x*y*2^(64*(i+j)):=by
  rw[pwA i j,Nat.mul_add,Nat.add_mul,<-Nat.mul_assoc x y,Nat.mul_assoc (x*y),Nat.mul_comm (2^(64*j))]
 rw[e1,<-Nat.add_assoc,<-h];generalize 2^(64*(i+j))=P at*
 have e2:(x*y+g (i+j)+c)/18446744073709551616*(P*18446744073709551616)+(x*y+g (i+j)+c)%18446744073709551616*P=(x*y+g (i+j)+c)*P:=by
  rw[Nat.mul_comm P,<-Nat.mul_assoc,<-Nat.add_mul];congr 1;omega
 have e3:(x*y+g (i+j)+c)*P=x*y*P+g (i+j)*P+c*P:=by rw[Nat.add_mul,Nat.add_mul]
 omega
abbrev wv8 (n:Nat):Value:=.agg #[.int .u64 (za n 0),.int .u64 (za n 1),.int .u64 (za n 2),.int .u64 (za n 3),.int .u64 (za n 4),.int .u64 (za n 5),.int .u64 (za n 6),.int .u64 (za n 7)]
theorem k8 {k:Nat} (h:k<8):k=0\/k=1\/k=2\/k=3\/k=4\/k=5\/k=6\/k=7:=by omega
theorem zh4 {g:Nat->Nat} {a b x c i:Nat} (hi:i<4) (hx:x=zy a i) (hz:g (i+4)=0)
  (h:val g 8+c*2^(64*(i+4))=a%2^(64*i)*(b%2^(64*4))+x*(b%2^(64*4))*2^(64*i)):
  val (upd g (i+4) c) 8=a%2^(64*(i+1))*(b%2^(64*4)):=by
 have hu:=ziE g (i+4) c 8 (by omega);rw[hz,Nat.zero_mul,Nat.add_zero,h] at hu;rw[hu,zbf a i,<-hx,Nat.add_mul,Nat.mul_right_comm x]
def Z7 (a b:Nat):Nat:=a%M*(b%M)
theorem zmH (a b:Nat):a%2^(64*4)*(b%2^(64*4))=Z7 a b:=rfl
theorem zfn {f:Nat->Nat} (h:∀i,f i<18446744073709551616) {n:Nat} (hn:val f 8=n) (i:Nat) (hi:i<8):((f i:Nat):Int)=za n i:=by
 rw[zO,<-hn,zkW h 8 i hi]
theorem zht {x y m s:Nat} (hx:x<18446744073709551616) (hy:y<18446744073709551616) (hm:m<18446744073709551616) (hs:s<18446744073709551616):(x*y+m+s)/18446744073709551616<18446744073709551616:=by
 have h:x*y<=18446744073709551615*18446744073709551615:=Nat.mul_le_mul (by omega) (by omega);omega
def zj (f:Nat->Int):Nat->Value:=fun i=>.int .u64 (f i)
theorem zh {w:World} {n:Nat} {t:TypeId} (f:Nat->Int) {x0 x1 x2 x3:Int} (hn:n=w.heap.size) (h0:x0=f 0) (h1:x1=f 1) (h2:x2=f 2) (h3:x3=f 3):
  (w.alloc (.cells #[.int .u64 x0,.int .u64 x1,.int .u64 x2,.int .u64 x3] t)).rowIs n t 4 (zj f):=by
 subst hn;refine World.rowIs_alloc w _ t _ fun i hi=> ?_
 subst h0 h1 h2 h3;rcases k4 hi with rfl|rfl|rfl|rfl<;>rfl
theorem Z0 {w:World} {b:Nat} {t:TypeId} {n k:Nat} {f g:Nat->Int} (h:w.rowIs b t n (zj fun i=>if i<k then f i else g i)) {x:Int} (hx:x=f k):
  (w.setCell ⟨b,k,none⟩ (.int .u64 x)).rowIs b t n (zj fun i=>if i<k+1 then f i else g i):=by
 subst hx;refine(h.set k _).congr fun i _=> ?_
 simp only[zj];by_cases e:i=k
 ·subst e;simp
 ·by_cases l:i<k
  ·simp[e,l,Nat.lt_succ_of_lt l]
  ·simp[e,l,show¬i<k+1 by omega]
theorem zb {w:World} {b:Nat} {t:TypeId} {f:Nat->Int} (h:w.rowIs b t 4 (zj f)):
  w.cell? ⟨b,0,none⟩=some (.int .u64 (f 0))/\w.cell? ⟨b,1,none⟩=some (.int .u64 (f 1))/\w.cell? ⟨b,2,none⟩=some (.int .u64 (f 2))/\w.cell? ⟨b,3,none⟩=some (.int .u64 (f 3)):=
 ⟨h.cell (by omega),h.cell (by omega),h.cell (by omega),h.cell (by omega)⟩
theorem zf {w w':World} {b:Nat} {t:TypeId} {n:Nat} {f:Nat->Value} (h:w.rowIs b t n f) (hb:Below w.heap.size w w'):w'.rowIs b t n f:=
 h.of_block (hb.block b h.lt)
def Yy (x0 x1 x2 x3:Int):Nat->Int:=fun i=>if i=0 then x0 else if i=1 then x1 else if i=2 then x2 else x3
theorem Zw {w:World} {b:Nat} {t:TypeId} {f:Nat->Value} (h:w.rowIs b t 4 f) (x0 x1 x2 x3:Int):
  ((((w.setCell ⟨b,0,none⟩ (.int .u64 x0)).setCell ⟨b,1,none⟩ (.int .u64 x1)).setCell ⟨b,2,none⟩ (.int .u64 x2)).setCell ⟨b,3,none⟩ (.int .u64 x3)).rowIs b t 4 (zj (Yy x0 x1 x2 x3)):=by
 refine((((h.set 0 _).set 1 _).set 2 _).set 3 _).congr fun i hi=> ?_
 rcases k4 hi with rfl|rfl|rfl|rfl<;>rfl
theorem yr {w:World} {n:Nat} {t:TypeId} (f:Nat->Int) {x0 x1 x2 x3 x4 x5 x6 x7:Int} (hn:n=w.heap.size) (h0:x0=f 0) (h1:x1=f 1) (h2:x2=f 2) (h3:x3=f 3) (h4:x4=f 4) (h5:x5=f 5) (h6:x6=f 6) (h7:x7=f 7):
  (w.alloc (.cells #[.int .u64 x0,.int .u64 x1,.int .u64 x2,.int .u64 x3,.int .u64 x4,.int .u64 x5,.int .u64 x6,.int .u64 x7] t)).rowIs n t 8 (zj f):=by
 subst hn;refine World.rowIs_alloc w _ t _ fun i hi=> ?_
 subst h0 h1 h2 h3 h4 h5 h6 h7;rcases k8 hi with rfl|rfl|rfl|rfl|rfl|rfl|rfl|rfl<;>rfl
theorem Zu {w:World} {b:Nat} {t:TypeId} {f:Nat->Int} (h:w.rowIs b t 8 (zj f)):
  w.cell? ⟨b,0,none⟩=some (.int .u64 (f 0))/\w.cell? ⟨b,1,none⟩=some (.int .u64 (f 1))/\w.cell? ⟨b,2,none⟩=some (.int .u64 (f 2))/\w.cell? ⟨b,3,none⟩=some (.int .u64 (f 3))/\
  w.cell? ⟨b,4,none⟩=some (.int .u64 (f 4))/\w.cell? ⟨b,5,none⟩=some (.int .u64 (f 5))/\w.cell? ⟨b,6,none⟩=some (.int .u64 (f 6))/\w.cell? ⟨b,7,none⟩=some (.int .u64 (f 7)):=
 ⟨h.cell (by omega),h.cell (by omega),h.cell (by omega),h.cell (by omega),h.cell (by omega),h.cell (by omega),h.cell (by omega),h.cell (by omega)⟩
def pick8 (x0 x1 x2 x3 x4 x5 x6 x7:Int):Nat->Int:=fun i=>if i=0 then x0 else if i=1 then x1 else if i=2 then x2 else if i=3 then x3 else if i=4 then x4 else if i=5 then x5 else if i=6 then x6 else x7
theorem zfX {w:World} {b:Nat} {t:TypeId} {f:Nat->Value} (h:w.rowIs b t 8 f) (x0 x1 x2 x3 x4 x5 x6 x7:Int):
  ((((((((w.setCell ⟨b,0,none⟩ (.int .u64 x0)).setCell ⟨b,1,none⟩ (.int .u64 x1)).setCell ⟨b,2,none⟩ (.int .u64 x2)).setCell ⟨b,3,none⟩ (.int .u64 x3)).setCell ⟨b,4,none⟩ (.int .u64 x4)).setCell ⟨b,5,none⟩ (.int .u64 x5)).setCell ⟨b,6,none⟩ (.int .u64 x6)).setCell ⟨b,7,none⟩ (.int .u64 x7)).rowIs b t 8 (zj (pick8 x0 x1 x2 x3 x4 x5 x6 x7)):=by
 refine((((((((h.set 0 _).set 1 _).set 2 _).set 3 _).set 4 _).set 5 _).set 6 _).set 7 _).congr fun i hi=> ?_
 rcases k8 hi with rfl|rfl|rfl|rfl|rfl|rfl|rfl|rfl<;>rfl
def zgb (f:Nat->Nat):Nat->Int:=fun i=>(f i:Int)
theorem zi6 {w:World} {b:Nat} {t:TypeId} {n:Nat} {f:Nat->Nat} (h:w.rowIs b t n (zj (zgb f))) (p v:Nat):
  (w.setCell ⟨b,p,none⟩ (.int .u64 (v:Int))).rowIs b t n (zj (zgb (upd f p v))):=by
 refine(h.set p _).congr fun i _=> ?_
 simp only[zj,zgb,upd];by_cases e:i=p<;>simp[e]
theorem bal {w w':World} (h:Below w.heap.size w w') (o:Obj):Below w.heap.size w (w'.alloc o):=h.alloc h.size o
theorem zD {w W w':World} (h:Below w.heap.size w W) (hb:Below W.heap.size W w'):Below w.heap.size w w':=h.trans (hb.mono h.size)
theorem bset {w w':World} (h:Below w.heap.size w w') {p:Addr} (hp:w.heap.size<=p.block) (u:Value):Below w.heap.size w (w'.setCell p u):=h.setCell hp u
theorem zdr (a b k:Nat):bits .and .u64 (za a k) (za b k)=za (a &&& b) k:=by
 unfold za;rw[bits_and_u64_nat _ _ (Nat.mod_lt _ (by omega)) (Nat.mod_lt _ (by omega)),zme a b k]
theorem zaL (a b k:Nat):bits .or .u64 (za a k) (za b k)=za (a ||| b) k:=by
 unfold za;rw[bits_or_u64_nat _ _ (Nat.mod_lt _ (by omega)) (Nat.mod_lt _ (by omega)),limb_or a b k]
theorem zdl (a b k:Nat):bits .xor .u64 (za a k) (za b k)=za (a ^^^ b) k:=by
 unfold za;rw[bits_xor_u64_nat _ _ (Nat.mod_lt _ (by omega)) (Nat.mod_lt _ (by omega)),zlv a b k]
theorem and_any (a b:Nat) (w:World):
  Calls prog 111 #[wv a,wv b] w fun e w'=>e=.returned (wv (a &&& b))/\Below w.heap.size w w':=by
 go_enter func111,ntmps111;go_wp2
 go_loopw [6] (fun t6 wr=>∃k:Nat,k<=4/\t6=.int .i64 k/\
   wr.rowIs w.heap.size 24 4 (zj fun i=>if i<k then za (a &&& b) i else za a i)/\wr.rowIs (w.heap.size+1) 24 4 (zj (za b))/\wr.rowIs (w.heap.size+1+1) 24 4 (zj fun _=>0)/\
   Below w.heap.size w wr)
   (fun t6 _=>4 - (intOf t6).toNat)
 case atStart=>
  refine⟨0,by omega,rfl, ?_, ?_, ?_, ?_⟩
  ·exact(((zh _ rfl rfl rfl rfl rfl).alloc _).alloc _)
  ·exact((zh (za b) (by simp) rfl rfl rfl rfl).alloc _)
  ·exact(zh (fun _=>0) (by simp) rfl rfl rfl rfl)
  ·exact(((Below.refl _ _).alloc (Nat.le_refl _) _).alloc (by simp) _).alloc (by simp;omega) _
 case round=>
  obtain⟨k,hk,rfl,hra,hrb,hrz,hbel⟩:=hrel;by_cases hlt:k<4
  ·have c1:=hra.cell hlt;have c2:=hrb.cell hlt;have c4:=hra.frozen k;simp only[zj,Nat.lt_irrefl,if_false] at c1 c2;go_wp2
   go_region
   all_goals go_wp2
   all_goals go_roundw
   case rel=>
    exact⟨k+1,by omega,by go_num,(Z0 hra (zdr a b k)).drew,(hrb.setOther (by simp) _).drew,(hrz.setOther (by simp;omega) _).drew,(hbel.setCell (by simp) _).drew⟩
   case measure=>simp[intOf];omega
  ·obtain rfl:k=4:=by omega
   obtain⟨c0,c1,c2,c3⟩:=zb hra;obtain⟨z0,z1,z2,z3⟩:=zb hrz;have f0:=hrz.frozen;go_wp2;obtain⟨q0,q1,q2,q3⟩:=zb (Zw hrz (za (a &&& b) 0) (za (a &&& b) 1) (za (a &&& b) 2) (za (a &&& b) 3));simp only[Yy] at q0 q1 q2 q3;refine bodyPost_ret (v:=wv (a &&& b)) (by simp[results,results111,go_sem,q0,q1,q2,q3]) rfl ⟨rfl, ?_⟩;exact(((hbel.setCell (by simp;omega) _).setCell (by simp;omega) _).setCell (by simp;omega) _).setCell (by simp;omega) _
theorem or_any (a b:Nat) (w:World):
  Calls prog 112 #[wv a,wv b] w fun e w'=>e=.returned (wv (a ||| b))/\Below w.heap.size w w':=by
 go_enter func112,ntmps112;go_wp2
 go_loopw [6] (fun t6 wr=>∃k:Nat,k<=4/\t6=.int .i64 k/\
   wr.rowIs w.heap.size 24 4 (zj fun i=>if i<k then za (a ||| b) i else za a i)/\wr.rowIs (w.heap.size+1) 24 4 (zj (za b))/\wr.rowIs (w.heap.size+1+1) 24 4 (zj fun _=>0)/\
   Below w.heap.size w wr)
   (fun t6 _=>4 - (intOf t6).toNat)
 case atStart=>
  refine⟨0,by omega,rfl, ?_, ?_, ?_, ?_⟩
  ·exact(((zh _ rfl rfl rfl rfl rfl).alloc _).alloc _)
  ·exact((zh (za b) (by simp) rfl rfl rfl rfl).alloc _)
  ·exact(zh (fun _=>0) (by simp) rfl rfl rfl rfl)
  ·exact(((Below.refl _ _).alloc (Nat.le_refl _) _).alloc (by simp) _).alloc (by simp;omega) _
 case round=>
  obtain⟨k,hk,rfl,hra,hrb,hrz,hbel⟩:=hrel;by_cases hlt:k<4
  ·have c1:=hra.cell hlt;have c2:=hrb.cell hlt;have c4:=hra.frozen k;simp only[zj,Nat.lt_irrefl,if_false] at c1 c2;go_wp2
   go_region
   all_goals go_wp2
   all_goals go_roundw
   case rel=>
    exact⟨k+1,by omega,by go_num,(Z0 hra (zaL a b k)).drew,(hrb.setOther (by simp) _).drew,(hrz.setOther (by simp;omega) _).drew,(hbel.setCell (by simp) _).drew⟩
   case measure=>simp[intOf];omega
  ·obtain rfl:k=4:=by omega
   obtain⟨c0,c1,c2,c3⟩:=zb hra;obtain⟨z0,z1,z2,z3⟩:=zb hrz;have f0:=hrz.frozen;go_wp2;obtain⟨q0,q1,q2,q3⟩:=zb (Zw hrz (za (a ||| b) 0) (za (a ||| b) 1) (za (a ||| b) 2) (za (a ||| b) 3));simp only[Yy] at q0 q1 q2 q3;refine bodyPost_ret (v:=wv (a ||| b)) (by simp[results,results112,go_sem,q0,q1,q2,q3]) rfl ⟨rfl, ?_⟩;exact(((hbel.setCell (by simp;omega) _).setCell (by simp;omega) _).setCell (by simp;omega) _).setCell (by simp;omega) _
theorem xor_any (a b:Nat) (w:World):
  Calls prog 113 #[wv a,wv b] w fun e w'=>e=.returned (wv (a ^^^ b))/\Below w.heap.size w w':=by
 go_enter func113,ntmps113;go_wp2
 go_loopw [6] (fun t6 wr=>∃k:Nat,k<=4/\t6=.int .i64 k/\
   wr.rowIs w.heap.size 24 4 (zj fun i=>if i<k then za (a ^^^ b) i else za a i)/\wr.rowIs (w.heap.size+1) 24 4 (zj (za b))/\wr.rowIs (w.heap.size+1+1) 24 4 (zj fun _=>0)/\
   Below w.heap.size w wr)
   (fun t6 _=>4 - (intOf t6).toNat)
 case atStart=>
  refine⟨0,by omega,rfl, ?_, ?_, ?_, ?_⟩
  ·exact(((zh _ rfl rfl rfl rfl rfl).alloc _).alloc _)
  ·exact((zh (za b) (by simp) rfl rfl rfl rfl).alloc _)
  ·exact(zh (fun _=>0) (by simp) rfl rfl rfl rfl)
  ·exact(((Below.refl _ _).alloc (Nat.le_refl _) _).alloc (by simp) _).alloc (by simp;omega) _
 case round=>
  obtain⟨k,hk,rfl,hra,hrb,hrz,hbel⟩:=hrel;by_cases hlt:k<4
  ·have c1:=hra.cell hlt;have c2:=hrb.cell hlt;have c4:=hra.frozen k;simp only[zj,Nat.lt_irrefl,if_false] at c1 c2;go_wp2
   go_region
   all_goals go_wp2
   all_goals go_roundw
   case rel=>
    exact⟨k+1,by omega,by go_num,(Z0 hra (zdl a b k)).drew,(hrb.setOther (by simp) _).drew,(hrz.setOther (by simp;omega) _).drew,(hbel.setCell (by simp) _).drew⟩
   case measure=>simp[intOf];omega
  ·obtain rfl:k=4:=by omega
   obtain⟨c0,c1,c2,c3⟩:=zb hra;obtain⟨z0,z1,z2,z3⟩:=zb hrz;have f0:=hrz.frozen;go_wp2;obtain⟨q0,q1,q2,q3⟩:=zb (Zw hrz (za (a ^^^ b) 0) (za (a ^^^ b) 1) (za (a ^^^ b) 2) (za (a ^^^ b) 3));simp only[Yy] at q0 q1 q2 q3;refine bodyPost_ret (v:=wv (a ^^^ b)) (by simp[results,results113,go_sem,q0,q1,q2,q3]) rfl ⟨rfl, ?_⟩;exact(((hbel.setCell (by simp;omega) _).setCell (by simp;omega) _).setCell (by simp;omega) _).setCell (by simp;omega) _
theorem zev (x:Nat) (h:x<18446744073709551616):18446744073709551615 ^^^ x=18446744073709551615 - x:=by
 apply Nat.eq_of_testBit_eq;intro i;have e:(18446744073709551615:Nat) - x=2^64 - (x+1):=by omega
 rw[e,Nat.testBit_two_pow_sub_succ (by omega),Nat.testBit_xor,show(18446744073709551615:Nat)=2^64 - 1 from rfl,Nat.testBit_two_pow_sub_one];by_cases hi:i<64
 ·simp[hi]
 ·have:x.testBit i=false:=Nat.testBit_lt_two_pow (Nat.lt_of_lt_of_le h (by rw[zeg];exact Nat.pow_le_pow_right (by omega) (by omega)));simp[hi,this]
theorem zcb (a k:Nat) (hk:k<4):Op.unary .xor (.int .u64 (za a k))=pure (.int .u64 (za (zcI a) k)):=by
 have e:(if IntKind.u64.signed then -1 else IntKind.u64.max)=(((18446744073709551615:Nat)):Int):=by rfl
 rw[unary_xor,e,intBits_xor,<-zmK a k hk];unfold za;rw[bits_xor_u64_nat _ _ (by omega) (Nat.mod_lt _ (by omega)),zev _ (Nat.mod_lt _ (by omega))];congr 2;omega
theorem not_any (a:Nat) (w:World):
  Calls prog 114 #[wv a] w fun e w'=>e=.returned (wv (zcI a))/\Below w.heap.size w w':=by
 go_enter func114,ntmps114;go_wp2
 go_loopw [4] (fun t6 wr=>∃k:Nat,k<=4/\t6=.int .i64 k/\
   wr.rowIs w.heap.size 24 4 (zj fun i=>if i<k then za (zcI a) i else za a i)/\wr.rowIs (w.heap.size+1) 24 4 (zj fun _=>0)/\
   Below w.heap.size w wr)
   (fun t6 _=>4 - (intOf t6).toNat)
 case atStart=>
  refine⟨0,by omega,rfl, ?_, ?_, ?_⟩
  ·exact((zh _ rfl rfl rfl rfl rfl).alloc _)
  ·exact(zh (fun _=>0) (by simp) rfl rfl rfl rfl)
  ·exact((Below.refl _ _).alloc (Nat.le_refl _) _).alloc (by simp) _
 case round=>
  obtain⟨k,hk,rfl,hra,hrz,hbel⟩:=hrel;by_cases hlt:k<4
  ·have c1:=hra.cell hlt;have c4:=hra.frozen k;have hun:=zcb a k hlt;simp only[zj,Nat.lt_irrefl,if_false] at c1;go_wp2
   all_goals go_roundw
   case rel=>
    exact⟨k+1,by omega,by go_num,Z0 hra rfl,hrz.setOther (by simp) _,hbel.setCell (by simp) _⟩
   case measure=>simp[intOf];omega
  ·obtain rfl:k=4:=by omega
   obtain⟨c0,c1,c2,c3⟩:=zb hra;obtain⟨z0,z1,z2,z3⟩:=zb hrz;have f0:=hrz.frozen;go_wp2;obtain⟨q0,q1,q2,q3⟩:=zb (Zw hrz (za (zcI a) 0) (za (zcI a) 1) (za (zcI a) 2) (za (zcI a) 3));simp only[Yy] at q0 q1 q2 q3;refine bodyPost_ret (v:=wv (zcI a)) (by simp[results,results114,go_sem,q0,q1,q2,q3]) rfl ⟨rfl, ?_⟩;exact(((hbel.setCell (by simp) _).setCell (by simp) _).setCell (by simp) _).setCell (by simp) _
theorem zd1 (a0 a1 a2 a3:Int) (w:World):
  Calls prog 165 #[.agg #[.int .u64 a0,.int .u64 a1,.int .u64 a2,.int .u64 a3]] w fun e w'=>e=.returned (.agg #[.int .u64 a0,.int .u64 a1,.int .u64 a2,.int .u64 a3,.int .u64 0,.int .u64 0,.int .u64 0,.int .u64 0])/\Below w.heap.size w w':=by
 go_enter func165,ntmps165;go_wp2;refine bodyPost_ret (v:=.agg #[.int .u64 a0,.int .u64 a1,.int .u64 a2,.int .u64 a3,.int .u64 0,.int .u64 0,.int .u64 0,.int .u64 0]) (by simp[results,results165,go_sem]) rfl ⟨rfl, ?_⟩;exact((Below.refl _ _).alloc (Nat.le_refl _) _).alloc (by simp) _
theorem low_any (a0 a1 a2 a3 a4 a5 a6 a7:Int) (w:World):
  Calls prog 162 #[.agg #[.int .u64 a0,.int .u64 a1,.int .u64 a2,.int .u64 a3,.int .u64 a4,.int .u64 a5,.int .u64 a6,.int .u64 a7]] w fun e w'=>e=.returned (.agg #[.int .u64 a0,.int .u64 a1,.int .u64 a2,.int .u64 a3])/\Below w.heap.size w w':=by
 go_enter func162,ntmps162;go_wp2;refine bodyPost_ret (v:=.agg #[.int .u64 a0,.int .u64 a1,.int .u64 a2,.int .u64 a3]) (by simp[results,results162,go_sem]) rfl ⟨rfl, ?_⟩;exact((Below.refl _ _).alloc (Nat.le_refl _) _).alloc (by simp) _
theorem Yj (a:Nat) (w:World):
  Calls prog 167 #[wv a] w fun e w'=>e=.returned (.bool (neg a))/\Below w.heap.size w w':=by
 have h1:=YY a 3;have h2:=zb8 a 3;go_enter func167,ntmps167;go_wp2;go_ret;exact⟨by rw[zlG];rfl,(Below.refl _ _).alloc (Nat.le_refl _) _⟩
theorem zcH (x y c:Int) (hx:0<=x) (hy:0<=y) (hc0:0<=c) (hc:c<=1) (w:World):
  (callFunc 208 #[.int .u64 x,.int .u64 y,.int .u64 c]).run prog w=
   .ok (.value (.tuple #[.int .u64 ((x+y+c)%18446744073709551616),.int .u64 ((x+y+c)/18446744073709551616)])) w:=by
 rw[run_callFunc_extern func208 (by kernel_rfl) (by kernel_rfl) (by kernel_rfl) (e:=add64Entry) (by kernel_rfl),run_add64 x y c hx hy hc0 hc];rfl
theorem zh9 (a b k:Nat) (hk:k<4) (w:World):(callFunc 208 #[.int .u64 (za a k),.int .u64 (za b k),.int .u64 (cy a b k)]).run prog w=.ok (.value (.tuple #[.int .u64 (za (a+b) k),.int .u64 (cy a b (k+1):Int)])) w:=by
 have h:=cy_le a b k;rw[zcH _ _ _ (YY _ _) (YY _ _) (by omega) (by omega),zlk a b k hk,add_cy a b k hk]
theorem zhL (x y b:Nat) (hb:b<=1) (w:World):
  (callFunc 210 #[.int .u64 x,.int .u64 y,.int .u64 b]).run prog w=
   .ok (.value (.tuple #[.int .u64 (((x+18446744073709551616 - y - b)%18446744073709551616:Nat):Int),.int .u64 ((if x<y+b then 1 else 0:Nat):Int)])) w:=by
 rw[run_callFunc_extern func210 (by kernel_rfl) (by kernel_rfl) (by kernel_rfl) (e:=sub64Entry) (by kernel_rfl),run_sub64 x y b hb];rfl
theorem zia (a b k:Nat) (hk:k<4) (w:World):(callFunc 210 #[.int .u64 (za a k),.int .u64 (za b k),.int .u64 (bw a b k)]).run prog w=.ok (.value (.tuple #[.int .u64 (za (zaj a b) k),.int .u64 (bw a b (k+1):Int)])) w:=by
 have h:=bw_le a b k;have e:=zk5 a b k hk;have e2:=sub_bw a b k hk;unfold za at e e2⊢;have c:=zhL (a/2^(64*k)%18446744073709551616) (b/2^(64*k)%18446744073709551616) (bw a b k) h w;rw[c];generalize a/2^(64*k)%18446744073709551616=x at*;have hy:b/2^(64*k)%18446744073709551616<18446744073709551616:=Nat.mod_lt _ (by omega);generalize b/2^(64*k)%18446744073709551616=y at*;have e3:((x+18446744073709551616 - y - bw a b k:Nat):Int)=(x:Int)+18446744073709551616 - y - bw a b k:=by omega
 have e4:(((x+18446744073709551616 - y - bw a b k)%18446744073709551616:Nat):Int)=((zaj a b/2^(64*k)%18446744073709551616:Nat):Int):=by rw[<-e,Int.natCast_emod,e3];rfl
 have e5:((if x<y+bw a b k then 1 else 0:Nat):Int)=(bw a b (k+1):Int):=by rw[<-e2];split<;>split<;>omega
 rw[e4,e5]
theorem zeT (a b:Nat) (w:World):
  Calls prog 160 #[wv a,wv b] w fun e w'=>e=.returned (.tuple #[wv (a+b),.int .u64 (cy a b 4:Int)])/\Below w.heap.size w w':=by
 go_enter func160,ntmps160;go_wp2
 go_loopw [7,9] (fun t7 t9 wr=>∃k:Nat,k<=4/\t9=.int .i64 k/\t7=.int .u64 (cy a b k:Int)/\
   wr.rowIs w.heap.size 24 4 (zj (za a))/\wr.rowIs (w.heap.size+1) 24 4 (zj (za b))/\wr.rowIs (w.heap.size+1+1) 24 4 (zj fun _=>0)/\
   wr.rowIs (w.heap.size+1+1+1) 24 4 (zj fun i=>if i<k then za (a+b) i else 0)/\Below w.heap.size w wr)
   (fun _ t9 _=>4 - (intOf t9).toNat)
 case atStart=>
  refine⟨0,by omega,rfl,by simp[cy], ?_, ?_, ?_, ?_, ?_⟩
  ·exact((((zh (za a) rfl rfl rfl rfl rfl).alloc _).alloc _).alloc _)
  ·exact(((zh (za b) (by simp) rfl rfl rfl rfl).alloc _).alloc _)
  ·exact(((zh (fun _=>0) (by simp) rfl rfl rfl rfl)).alloc _)
  ·exact(zh _ (by simp) rfl rfl rfl rfl)
  ·exact((((Below.refl _ _).alloc (Nat.le_refl _) _).alloc (by simp) _).alloc (by simp;omega) _).alloc (by simp;omega) _
 case round=>
  obtain⟨k,hk,rfl,rfl,hra,hrb,hrz,hrs,hbel⟩:=hrel;by_cases hlt:k<4
  ·have c1:=hra.cell hlt;have c2:=hrb.cell hlt;have c3:=hrs.cell hlt;have c4:=hrs.frozen k;have hcall:=zh9 a b k hlt;simp only[zj] at c1 c2 c3;go_wp2
   go_region_with (simp only[hcall])
   all_goals go_wp2
   all_goals go_roundw
   case rel|rel=>
    exact⟨k+1,by omega,by go_num,rfl,(hra.setOther (by simp;omega) _).drew,(hrb.setOther (by simp) _).drew,(hrz.setOther (by simp) _).drew,(Z0 hrs rfl).drew,(hbel.setCell (by simp;omega) _).drew⟩
   case measure|measure=>simp[intOf];omega
  ·obtain rfl:k=4:=by omega
   obtain⟨c0,c1,c2,c3⟩:=zb hrs;obtain⟨z0,z1,z2,z3⟩:=zb hrz;have f0:=hrz.frozen;go_wp2;obtain⟨q0,q1,q2,q3⟩:=zb (Zw hrz (za (a+b) 0) (za (a+b) 1) (za (a+b) 2) (za (a+b) 3));simp only[Yy] at q0 q1 q2 q3;refine bodyPost_ret (v:=.tuple #[wv (a+b),.int .u64 (cy a b 4:Int)]) (by simp[results,results160,go_sem,q0,q1,q2,q3]) rfl ⟨rfl, ?_⟩;exact(((hbel.setCell (by simp;omega) _).setCell (by simp;omega) _).setCell (by simp;omega) _).setCell (by simp;omega) _
theorem zau (a b:Nat) (w:World):
  Calls prog 163 #[wv a,wv b] w fun e w'=>e=.returned (.tuple #[wv (zaj a b),.int .u64 (bw a b 4:Int)])/\Below w.heap.size w w':=by
 go_enter func163,ntmps163;go_wp2
 go_loopw [7,9] (fun t7 t9 wr=>∃k:Nat,k<=4/\t9=.int .i64 k/\t7=.int .u64 (bw a b k:Int)/\
   wr.rowIs w.heap.size 24 4 (zj (za a))/\wr.rowIs (w.heap.size+1) 24 4 (zj (za b))/\wr.rowIs (w.heap.size+1+1) 24 4 (zj fun _=>0)/\
   wr.rowIs (w.heap.size+1+1+1) 24 4 (zj fun i=>if i<k then za (zaj a b) i else 0)/\Below w.heap.size w wr)
   (fun _ t9 _=>4 - (intOf t9).toNat)
 case atStart=>
  refine⟨0,by omega,rfl,by simp[bw,Nat.mod_one], ?_, ?_, ?_, ?_, ?_⟩
  ·exact((((zh (za a) rfl rfl rfl rfl rfl).alloc _).alloc _).alloc _)
  ·exact(((zh (za b) (by simp) rfl rfl rfl rfl).alloc _).alloc _)
  ·exact(((zh (fun _=>0) (by simp) rfl rfl rfl rfl)).alloc _)
  ·exact(zh _ (by simp) rfl rfl rfl rfl)
  ·exact((((Below.refl _ _).alloc (Nat.le_refl _) _).alloc (by simp) _).alloc (by simp;omega) _).alloc (by simp;omega) _
 case round=>
  obtain⟨k,hk,rfl,rfl,hra,hrb,hrz,hrs,hbel⟩:=hrel;by_cases hlt:k<4
  ·have c1:=hra.cell hlt;have c2:=hrb.cell hlt;have c3:=hrs.cell hlt;have c4:=hrs.frozen k;have hcall:=zia a b k hlt;simp only[zj] at c1 c2 c3;go_wp2
   go_region_with (simp only[hcall])
   all_goals go_wp2
   all_goals go_roundw
   case rel|rel=>
    exact⟨k+1,by omega,by go_num,rfl,(hra.setOther (by simp;omega) _).drew,(hrb.setOther (by simp) _).drew,(hrz.setOther (by simp) _).drew,(Z0 hrs rfl).drew,(hbel.setCell (by simp;omega) _).drew⟩
   case measure|measure=>simp[intOf];omega
  ·obtain rfl:k=4:=by omega
   obtain⟨c0,c1,c2,c3⟩:=zb hrs;obtain⟨z0,z1,z2,z3⟩:=zb hrz;have f0:=hrz.frozen;go_wp2;obtain⟨q0,q1,q2,q3⟩:=zb (Zw hrz (za (zaj a b) 0) (za (zaj a b) 1) (za (zaj a b) 2) (za (zaj a b) 3));simp only[Yy] at q0 q1 q2 q3;refine bodyPost_ret (v:=.tuple #[wv (zaj a b),.int .u64 (bw a b 4:Int)]) (by simp[results,results163,go_sem,q0,q1,q2,q3]) rfl ⟨rfl, ?_⟩;exact(((hbel.setCell (by simp;omega) _).setCell (by simp;omega) _).setCell (by simp;omega) _).setCell (by simp;omega) _
theorem maskN (a:Nat) (ha:a<18446744073709551616):bits .and .u64 (a:Int) 4294967295=((a%4294967296:Nat):Int):=by
 have h:=bits_and_u64_nat a 4294967295 ha (by omega);have e:a &&& 4294967295=a%4294967296:=Nat.and_two_pow_sub_one_eq_mod a 32;rw[e] at h;exact h
theorem divN (a:Nat):(a:Int)/4294967296=((a/4294967296:Nat):Int):=by omega
theorem mulN (a b:Nat):(a:Int)*(b:Int)=((a*b:Nat):Int):=(Int.natCast_mul a b).symm
theorem addN (a b:Nat):(a:Int)+(b:Int)=((a+b:Nat):Int):=(Int.natCast_add a b).symm
theorem zbD (a:Nat) (ha:a<18446744073709551616):IntKind.u64.wrap (a:Int)=(a:Int):=by rw[IntKind.wrap_u64];omega
theorem wrapM (a:Nat):IntKind.u64.wrap (a:Int)=((a%18446744073709551616:Nat):Int):=by rw[IntKind.wrap_u64];omega
theorem zjC (x y:Nat) (hx:x<18446744073709551616) (hy:y<18446744073709551616) (w:World):
  Calls prog 229 #[.int .u64 x,.int .u64 y] w fun e w'=>e=.returned (.tuple #[.int .u64 ((x*y/18446744073709551616:Nat):Int),.int .u64 ((x*y%18446744073709551616:Nat):Int)])/\w'=w:=by
 obtain⟨bd,bt,bw,hhi⟩:=Lib.mul64_hi x y hx hy;have ba:=Lib.half_mul_le (a:=x/4294967296) (b:=y/4294967296) (by omega) (by omega);have bb:=Lib.half_mul_le (a:=x/4294967296) (b:=y%4294967296) (by omega) (by omega);have bc:=Lib.half_mul_le (a:=x%4294967296) (b:=y/4294967296) (by omega) (by omega);have ba':x/4294967296*(y/4294967296)<18446744073709551616:=by omega
 have bb':x/4294967296*(y%4294967296)<18446744073709551616:=by omega
 have bc':x%4294967296*(y/4294967296)<18446744073709551616:=by omega
 have bh1:x/4294967296*(y/4294967296)+(x/4294967296*(y%4294967296)+x%4294967296*(y%4294967296)/4294967296)/4294967296<18446744073709551616:=by omega
 have bh:x/4294967296*(y/4294967296)+(x/4294967296*(y%4294967296)+x%4294967296*(y%4294967296)/4294967296)/4294967296+((x/4294967296*(y%4294967296)+x%4294967296*(y%4294967296)/4294967296)%4294967296+x%4294967296*(y/4294967296))/4294967296<18446744073709551616:=by omega
 go_enter func229,ntmps229;go_wp2;simp only[maskN x hx,maskN y hy,divN,mulN,addN,zbD _ bd,zbD _ bb',zbD _ bt,maskN _ bt,zbD _ bc',zbD _ bw,zbD _ ba',zbD _ bh1,zbD _ bh,wrapM (x*y)];rw[hhi];go_ret2;exact⟨rfl,rfl⟩
theorem zg0 (x y:Nat) (hx:x<18446744073709551616) (hy:y<18446744073709551616) (w:World):
  Calls prog 229 #[.int .u64 x,.int .u64 y] w fun e w'=>∃hi lo:Nat,Hid (hi*18446744073709551616+lo=x*y)/\lo<18446744073709551616/\hi<=18446744073709551614/\e=.returned (.tuple #[.int .u64 hi,.int .u64 lo])/\w'=w:=by
 refine(zjC x y hx hy w).mono ?_;rintro e w' ⟨rfl,rfl⟩;have h:x*y<=18446744073709551615*18446744073709551615:=Nat.mul_le_mul (by omega) (by omega);generalize x*y=p at*;exact⟨_,_,by show _=_;omega,Nat.mod_lt _ (by omega),by omega,rfl,rfl⟩
theorem zcl (x y:Nat):∃s c:Nat,Hid (s+c*18446744073709551616=x+y)/\s<18446744073709551616/\(x<18446744073709551616->y<18446744073709551616->c<=1)/\
  ∀w:World,(callFunc 208 #[.int .u64 x,.int .u64 y,.int .u64 0]).run prog w=.ok (.value (.tuple #[.int .u64 s,.int .u64 c])) w:=by
 refine⟨(x+y)%18446744073709551616,(x+y)/18446744073709551616,by show _=_;omega,Nat.mod_lt _ (by omega),fun _ _=>by omega,fun w=> ?_⟩;rw[zcH _ _ _ (by omega) (by omega) (by omega) (by omega)];have e1:((x:Int)+y+0)%18446744073709551616=(((x+y)%18446744073709551616:Nat):Int):=by omega
 have e2:((x:Int)+y+0)/18446744073709551616=(((x+y)/18446744073709551616:Nat):Int):=by omega
 rw[e1,e2]
theorem ziz {x y m s hi lo s1 c1 s2 c2:Nat} (h1:hi*18446744073709551616+lo=x*y) (h2:s1+c1*18446744073709551616=lo+m) (h3:s2+c2*18446744073709551616=s1+s) (h4:s2<18446744073709551616):
  hi+c1+c2=(x*y+m+s)/18446744073709551616/\s2=(x*y+m+s)%18446744073709551616:=by
 rw[<-h1];omega
theorem zkB {x y m s hi lo s1 c1 s2 c2:Nat} (hx:x<18446744073709551616) (hy:y<18446744073709551616) (hm:m<18446744073709551616) (hs:s<18446744073709551616) (h1:hi*18446744073709551616+lo=x*y) (h2:s1+c1*18446744073709551616=lo+m) (h3:s2+c2*18446744073709551616=s1+s):
  hi+c1+c2<=18446744073709551615:=by
 have h:x*y<=18446744073709551615*18446744073709551615:=Nat.mul_le_mul (by omega) (by omega);rw[<-h1] at h;omega
theorem zhG (x y m s:Nat) (hx:x<18446744073709551616) (hy:y<18446744073709551616) (hm:m<18446744073709551616) (hs:s<18446744073709551616) (w:World):
  Calls prog 209 #[.int .u64 x,.int .u64 y,.int .u64 m,.int .u64 s] w fun e w'=>e=.returned (.tuple #[.int .u64 (((x*y+m+s)/18446744073709551616:Nat):Int),.int .u64 (((x*y+m+s)%18446744073709551616:Nat):Int)])/\w'=w:=by
 go_enter func209,ntmps209;go_wp2_with fail
 refine(zg0 x y hx hy _).mono ?_;rintro e w' ⟨hi,lo,h1,l1,l2,rfl,rfl⟩;obtain⟨s1,c1,h2,l3,l4,r1⟩:=zcl lo m;obtain⟨s2,c2,h3,l5,l6,r2⟩:=zcl s1 s;have b1:=zkB hx hy hm hs h1.out h2.out h3.out;clear l4 l6;go_wp2;go_ret2;obtain⟨f1,f2⟩:=ziz h1.out h2.out h3.out l5;refine⟨?_,rfl⟩;rw[<-f1,<-f2];rfl
theorem zjT (x y m s:Nat) (hx:x<18446744073709551616) (hy:y<18446744073709551616) (hm:m<18446744073709551616) (hs:s<18446744073709551616) (w:World):
  Calls prog 209 #[.int .u64 x,.int .u64 y,.int .u64 m,.int .u64 s] w fun e w'=>∃h l:Nat,Hid (h=(x*y+m+s)/18446744073709551616)/\Hid (l=(x*y+m+s)%18446744073709551616)/\h<18446744073709551616/\l<18446744073709551616/\e=.returned (.tuple #[.int .u64 h,.int .u64 l])/\w=w':=by
 refine(zhG x y m s hx hy hm hs w).mono ?_;rintro e w' ⟨rfl,rfl⟩;exact⟨_,_,rfl,rfl,zht hx hy hm hs,Nat.mod_lt _ (by omega),rfl,rfl⟩
theorem znb (a k:Nat) (hk:k<4) (w:World):(Instr.index 24 (.agg #[.int .u64 (za a 0),.int .u64 (za a 1),.int .u64 (za a 2),.int .u64 (za a 3)]) (.int .i64 (k:Int))).run prog w=.ok (.int .u64 (zy a k:Int)) w:=by
 rcases k4 hk with rfl|rfl|rfl|rfl<;>kernel_rfl
theorem zgx (a b:Nat) (w:World):
  Calls prog 161 #[wv a,wv b] w fun e w'=>e=.returned (wv8 (Z7 a b))/\Below w.heap.size w w':=by
 go_enter func161,ntmps161;go_wp2
 go_loopw [12] (fun t12 wr=>∃(i:Nat) (f:Nat->Nat),i<=4/\t12=.int .i64 i/\
   wr.rowIs (w.heap.size+1) 24 4 (zj (za b))/\wr.rowIs (w.heap.size+1+1) 224 8 (zj fun _=>0)/\wr.rowIs (w.heap.size+1+1+1) 224 8 (zj (zgb f))/\
   (∀q,f q<18446744073709551616)/\(∀q,i+4<=q->f q=0)/\Hid (val f 8=a%2^(64*i)*(b%2^(64*4)))/\Below w.heap.size w wr)
   (fun t12 _=>4 - (intOf t12).toNat)
 case atStart=>
  refine⟨0,fun _=>0,by omega,rfl, ?_, ?_, ?_,fun _=>by show(0:Nat)<_;omega,fun _ _=>rfl, ?_, ?_⟩
  ·exact(((zh (za b) (by simp) rfl rfl rfl rfl).alloc _).alloc _)
  ·exact(yr (fun _=>0) (by simp) rfl rfl rfl rfl rfl rfl rfl rfl).alloc _
  ·exact(yr _ (by simp) rfl rfl rfl rfl rfl rfl rfl rfl)
  ·show _=_;rw[Nat.mul_zero,Nat.pow_zero,Nat.mod_one,Nat.zero_mul,zli]
  ·exact((((Below.refl _ _).alloc (Nat.le_refl _) _).alloc (by simp) _).alloc (by simp;omega) _).alloc (by simp;omega) _
 case round=>
  obtain⟨i,f,hi,rfl,hrb,hrz,hrs,hfl,hfz,hval,hbel⟩:=hrel;by_cases hlt:i<4
  ·have hix:=znb a i hlt;have hdi:decide ((i:Int)<4)=true:=by simp;omega
   obtain⟨c0,c1,c2,c3⟩:=zb hrb;go_wp2
   go_loopw [8,17] (fun t8 t17 wq=>∃(j:Nat) (g:Nat->Nat) (c:Nat),j<=4/\t17=.int .i64 j/\t8=.int .u64 c/\c<18446744073709551616/\
     wq.rowIs (w.heap.size+1) 24 4 (zj (za b))/\wq.rowIs (w.heap.size+1+1) 224 8 (zj fun _=>0)/\wq.rowIs (w.heap.size+1+1+1) 224 8 (zj (zgb g))/\
     (∀q,g q<18446744073709551616)/\(∀q,i+4<=q->g q=0)/\Hid (val g 8+c*2^(64*(i+j))=a%2^(64*i)*(b%2^(64*4))+zy a i*(b%2^(64*j))*2^(64*i))/\Below w.heap.size w wq)
     (fun _ t17 _=>4 - (intOf t17).toNat)
   case atStart=>
    refine⟨0,f,0,by omega,rfl,rfl,by omega,hrb,hrz,hrs,hfl,hfz, ?_,hbel⟩;show _=_;rw[hval.out];simp[Nat.mod_one]
   case round=>
    clear hrb hrz hrs hfl hfz hbel;obtain⟨j,g,c,hj,rfl,rfl,hc,hrb,hrz,hrs,hgl,hgz,hv2,hbel⟩:=hrel;by_cases hlj:j<4
    ·have hiy:=znb b j hlj;have cs:=hrs.cell (i:=i+j) (by omega);have fs:=hrs.frozen (i+j);simp only[zj,zgb] at cs;go_wp2_with fail
     refine(zjT (zy a i) (zy b j) (g (i+j)) c (ZD _ _) (ZD _ _) (hgl _) hc _).mono ?_;rintro e w' ⟨h,l,hh,hl,bh,bl,rfl,rfl⟩;go_wp2
     go_roundw
     case rel=>
      refine⟨j+1,upd g (i+j) l,h,by omega, ?_,rfl,bh,hrb.setOther (by simp) _,hrz.setOther (by simp) _,zi6 hrs _ _,zmC hgl bl, ?_, ?_,hbel.setCell (by simp;omega) _⟩
      ·go_num
      ·intro q hq;unfold upd;rw[if_neg (by omega)];exact hgz q hq
      ·show _=_;rw[hh.out,hl.out];exact zid (by omega) rfl hv2.out
     case measure=>simp[intOf];omega
    ·obtain rfl:j=4:=by omega
     have cs:=hrs.cell (i:=i+4) (by omega);have fs:=hrs.frozen (i+4);simp only[zj,zgb] at cs;go_wp2
     go_roundw
     case rel=>
      refine⟨i+1,upd g (i+4) c,by omega,by go_num,hrb.setOther (by simp) _,hrz.setOther (by simp) _,zi6 hrs _ _,zmC hgl hc, ?_, ?_,hbel.setCell (by simp;omega) _⟩
      ·intro q hq;unfold upd;rw[if_neg (by omega)];exact hgz q (by omega)
      ·show _=_;exact zh4 hlt rfl (hgz _ (by omega)) hv2.out
     case measure=>simp[intOf];omega
  ·obtain rfl:i=4:=by omega
   have hv:=hval.out;rw[zmH] at hv;have hrow:wr.rowIs (w.heap.size+1+1+1) 224 8 (zj (za (Z7 a b))):=hrs.congr fun i hi=>by simp only[zj,zgb];rw[zfn hfl hv i hi]
   clear hval hv hrs;obtain⟨c0,c1,c2,c3,c4,c5,c6,c7⟩:=Zu hrow;obtain⟨z0,z1,z2,z3,z4,z5,z6,z7⟩:=Zu hrz;have f0:=hrz.frozen;go_wp2;obtain⟨q0,q1,q2,q3,q4,q5,q6,q7⟩:=Zu (zfX hrz (za (Z7 a b) 0) (za (Z7 a b) 1) (za (Z7 a b) 2) (za (Z7 a b) 3) (za (Z7 a b) 4) (za (Z7 a b) 5) (za (Z7 a b) 6) (za (Z7 a b) 7));simp only[pick8] at q0 q1 q2 q3 q4 q5 q6 q7;refine bodyPost_ret (v:=wv8 (Z7 a b)) (by simp[results,results161,go_sem,q0,q1,q2,q3,q4,q5,q6,q7]) rfl ⟨rfl, ?_⟩;exact(((((((hbel.setCell (by simp;omega) _).setCell (by simp;omega) _).setCell (by simp;omega) _).setCell (by simp;omega) _).setCell (by simp;omega) _).setCell (by simp;omega) _).setCell (by simp;omega) _).setCell (by simp;omega) _
def ltw (a b:Nat):Bool:=decide (a%M<b%M)
theorem ltw_bw (a b:Nat):((bw a b 4:Int)==1)=ltw a b:=by
 unfold bw ltw M;rw[pw4];split<;>rename_i h
 ·rw[decide_eq_true h];rfl
 ·rw[decide_eq_false h];rfl
def zfm (a b:Nat):Nat:=if a%M<256 then b*2^(a%M) else 0
theorem zl (i:Nat):za 0 i=0:=by unfold za;simp
theorem zcZ (b:Nat) (hb:b<18446744073709551616):Value.agg #[.int .u64 (b:Int),.int .u64 0,.int .u64 0,.int .u64 0]=wv b:=by
 have e0:za b 0=(b:Int):=by unfold za;rw[pw0];omega
 have e1:za b 1=0:=by unfold za;rw[pw1];omega
 have e2:za b 2=0:=by unfold za;rw[pw2];omega
 have e3:za b 3=0:=by unfold za;rw[pw3];omega
 unfold wv;rw[e0,e1,e2,e3]
theorem zmg {a:Nat} (h:ltw a 256=false) (b:Nat):zfm a b=0:=by
 unfold ltw at h;unfold zfm;have h2:=of_decide_eq_false h;rw[if_neg (by unfold M at*;omega)]
theorem shlw_in {a:Nat} (h:ltw a 256=true) (b:Nat):∃s:Nat,s<256/\za a 0=(s:Int)/\zfm a b=b*2^s:=by
 unfold ltw at h;have h2:=of_decide_eq_true h;refine⟨a%M,by unfold M at*;omega, ?_, ?_⟩
 ·unfold za M at*;rw[pw0];omega
 ·unfold zfm;rw[if_pos (by unfold M at*;omega)]
theorem ZG (n k j:Nat):(zy n k).testBit j=(decide (j<64)&&n.testBit (j+64*k)):=by
 unfold zy;rw[zeg,Nat.testBit_mod_two_pow,Nat.testBit_div_two_pow]
theorem zbn (b s i:Nat):(b*2^s).testBit i=(decide (s<=i)&&b.testBit (i - s)):=by
 rw[Nat.testBit_mul_two_pow]
theorem zcF (x i:Nat):(x%18446744073709551616).testBit i=(decide (i<64)&&x.testBit i):=by
 rw[zeg,Nat.testBit_mod_two_pow]
theorem shl_lo (b s k:Nat) (h:k<s/64):za (b*2^s) k=0:=by
 rw[zO]
 have:zy (b*2^s) k=0:=by
  apply Nat.eq_of_testBit_eq;intro j;rw[ZG,zbn,Nat.zero_testBit];by_cases hj:j<64
  ·simp[hj,show¬s<=j+64*k by omega]
  ·simp[hj]
 rw[this];rfl
theorem shl_eq (b s k:Nat) (h1:s/64<=k) (h2:¬s/64<k):zy b (k - s/64)*2^(s%64)%18446744073709551616=zy (b*2^s) k:=by
 apply Nat.eq_of_testBit_eq;intro j;rw[zcF,zbn,ZG,ZG,zbn];by_cases hj:j<64
 ·by_cases hr:s%64<=j
  ·simp[hj,hr,show s<=j+64*k by omega,show j - s%64<64 by omega,show j - s%64+64*(k - s/64)=j+64*k - s by omega]
  ·simp[hj,hr,show¬s<=j+64*k by omega]
 ·simp[hj]
theorem shl_hi (b s k:Nat) (h1:s/64<k):(zy b (k - s/64)*2^(s%64)%18446744073709551616) ||| (zy b (k - s/64 - 1)/2^(64 - s%64))=zy (b*2^s) k:=by
 apply Nat.eq_of_testBit_eq;intro j;rw[Nat.testBit_or,zcF,zbn,ZG,Nat.testBit_div_two_pow,ZG,ZG,zbn];by_cases hj:j<64
 ·by_cases hr:s%64<=j
  ·simp[hj,hr,show s<=j+64*k by omega,show j - s%64<64 by omega,show j - s%64+64*(k - s/64)=j+64*k - s by omega,show¬j+(64 - s%64)<64 by omega]
  ·simp[hj,hr,show s<=j+64*k by omega,show j+(64 - s%64)<64 by omega,show j+(64 - s%64)+64*(k - s/64 - 1)=j+64*k - s by omega]
 ·simp[hj,show¬j+(64 - s%64)<64 by omega]
theorem zk1 (b s k:Nat) (h1:s/64<=k):(zy b k/2^(s%64)) ||| (zy b (k+1)*2^(64 - s%64)%18446744073709551616)=zy (b/2^s) (k - s/64):=by
 apply Nat.eq_of_testBit_eq;intro j;rw[Nat.testBit_or,zcF,zbn,ZG,Nat.testBit_div_two_pow,ZG,ZG,Nat.testBit_div_two_pow];by_cases hj:j<64
 ·by_cases hr:j+s%64<64
  ·simp[hj,hr,show¬64 - s%64<=j by omega,show j+s%64+64*k=j+64*(k - s/64)+s by omega]
  ·simp[hj,hr,show 64 - s%64<=j by omega,show j - (64 - s%64)<64 by omega,show j - (64 - s%64)+64*(k+1)=j+64*(k - s/64)+s by omega]
 ·simp[hj,show¬j+s%64<64 by omega]
theorem shr_top (b s:Nat) (hb:b<M) (h:s/64<=3):zy b 3/2^(s%64)=zy (b/2^s) (3 - s/64):=by
 have e:=zk1 b s 3 h
 have z:zy b (3+1)=0:=by
  unfold zy M at*;rw[Nat.div_eq_of_lt (by rw[show 3+1=4 from rfl,pw4];exact hb)]
 rw[z,Nat.zero_mul,Nat.zero_mod,Nat.or_zero] at e;exact e
theorem shr_out (b s k:Nat) (hb:b<M) (hk:3 - s/64<k):za (b/2^s) k=0:=by
 rw[zO]
 have:zy (b/2^s) k=0:=by
  apply Nat.eq_of_testBit_eq;intro j;rw[ZG,Nat.testBit_div_two_pow,Nat.zero_testBit]
  have h:b.testBit (j+64*k+s)=false:=by
   apply Nat.testBit_lt_two_pow;refine Nat.lt_of_lt_of_le hb ?_;show 2^256<=_;exact Nat.pow_le_pow_right (by omega) (by omega)
  rw[h,Bool.and_false]
 rw[this];rfl
theorem zbd (x e:Nat):IntKind.u64.wrap ((x:Int)*2^e)=((x*2^e%18446744073709551616:Nat):Int):=by
 rw[IntKind.wrap_u64,Int.natCast_emod,Int.natCast_mul,Int.natCast_pow];rfl
theorem zek (x e:Nat):(x:Int)/2^e=((x/2^e:Nat):Int):=by
 rw[Int.natCast_ediv,Int.natCast_pow];rfl
theorem shl_eq' (b s k:Nat) (h1:s/64<=k) (h2:¬s/64<k):IntKind.u64.wrap (za b (k - s/64)*2^(s%64))=za (b*2^s) k:=by
 rw[zO,zO,zbd,shl_eq b s k h1 h2]
theorem shl_hi' (b s k:Nat) (h1:s/64<k):bits .or .u64 (IntKind.u64.wrap (za b (k - s/64)*2^(s%64))) (za b (k - s/64 - 1)/2^(64 - s%64))=za (b*2^s) k:=by
 rw[zO,zO,zO,zbd,zek,bits_or_u64_nat _ _ (Nat.mod_lt _ (by omega)) (Nat.lt_of_le_of_lt (Nat.div_le_self _ _) (ZD _ _)),shl_hi b s k h1]
theorem shr_hi' (b s k:Nat) (h1:s/64<=k):bits .or .u64 (za b k/2^(s%64)) (IntKind.u64.wrap (za b (k+1)*2^(64 - s%64)))=za (b/2^s) (k - s/64):=by
 rw[zO,zO,zO,zbd,zek,bits_or_u64_nat _ _ (Nat.lt_of_le_of_lt (Nat.div_le_self _ _) (ZD _ _)) (Nat.mod_lt _ (by omega)),zk1 b s k h1]
theorem zmy (b s k:Nat) (hb:b<M) (h1:s/64<=k) (hk:k=3):za b k/2^(s%64)=za (b/2^s) (k - s/64):=by
 subst hk;rw[zO,zO,zek,shr_top b s hb h1]
def zfc (a b:Nat):Nat:=if a%M<256 then b/2^(a%M) else 0
theorem zl5 {a:Nat} (h:ltw a 256=false) (b:Nat):zfc a b=0:=by
 unfold ltw at h;unfold zfc;have h2:=of_decide_eq_false h;rw[if_neg (by unfold M at*;omega)]
theorem shrw_in {a:Nat} (h:ltw a 256=true) (b:Nat):∃s:Nat,s<256/\za a 0=(s:Int)/\zfc a b=b/2^s:=by
 unfold ltw at h;have h2:=of_decide_eq_true h;refine⟨a%M,by unfold M at*;omega, ?_, ?_⟩
 ·unfold za M at*;rw[pw0];omega
 ·unfold zfc;rw[if_pos (by unfold M at*;omega)]
theorem zfV (a b:Nat) (w:World):
  Calls prog 109 #[wv a,wv b] w fun e w'=>e=.returned (.bool (ltw a b))/\Below w.heap.size w w':=by
 go_enter func109,ntmps109;go_wp2_with fail
 refine(zau a b _).mono ?_;rintro e w' ⟨rfl,hb⟩;go_wp2;go_ret;exact⟨by rw[<-ltw_bw];rfl,bal (zD (bal (bal (Below.refl _ _) _) _) hb) _⟩
theorem Ya (a b:Nat) (hb:b<18446744073709551616) (w:World):
  Calls prog 171 #[wv a,.int .u64 (b:Int)] w fun e w'=>e=.returned (.bool (ltw a b))/\Below w.heap.size w w':=by
 go_enter func171,ntmps171;go_wp2_with fail
 rw[zcZ b hb];refine(zfV a b _).mono ?_;rintro e w' ⟨rfl,hb⟩;go_wp2;go_ret;exact⟨rfl,zD (bal (Below.refl _ _) _) hb⟩
theorem ZV {w:World} {b:Nat} {t:TypeId} {n:Nat} {f:Nat->Value} (h:w.rowIs b t n f) (k:Nat):(w.drewN k).rowIs b t n f:=h
theorem Ym {B:Nat} {a w:World} (h:Below B a w) (k:Nat):Below B a (w.drewN k):=⟨h.os,h.tape,h.output,h.size,h.block⟩
theorem zdD {w:World} {b:Nat} {t:TypeId} {n k:Nat} {f g:Nat->Int} (h:w.rowIs b t n (zj fun i=>if i<k then f i else g i)) {u:Value} {x:Int} (hx:x=f k):
  ((w.setCell ⟨b,k,none⟩ u).setCell ⟨b,k,none⟩ (.int .u64 x)).rowIs b t n (zj fun i=>if i<k+1 then f i else g i):=by
 subst hx;refine((h.set k u).set k _).congr fun i _=> ?_
 simp only[zj];by_cases e:i=k
 ·subst e;simp
 ·by_cases l:i<k
  ·simp[e,l,Nat.lt_succ_of_lt l]
  ·simp[e,l,show¬i<k+1 by omega]
theorem shl_any (a b:Nat) (w:World):
  Calls prog 116 #[wv a,wv b] w fun e w'=>e=.returned (wv (zfm a b))/\Below w.heap.size w w':=by
 cases hc:ltw a 256
 ·have hs:zfm a b=0:=zmg hc b;rw[hs];have HC:Hid (ltw a 256=false):=hc;clear hs hc;go_enter func116,ntmps116;go_wp2_with fail
  refine(Ya a 256 (by omega) _).mono ?_;rintro e w' ⟨rfl,hb⟩;rw[HC.out];have hrm:=zf (zh (n:=w.heap.size+1+1+1) (fun _=>0) (by simp) rfl rfl rfl rfl) hb;have hrz:=zf (zh (n:=w.heap.size+1+1) (fun _=>0) (by simp) rfl rfl rfl rfl |>.alloc _) hb;have hbel:=zD (bal (bal (bal (bal (Below.refl _ _) _) _) _) _) hb;clear hb;obtain⟨r0,r1,r2,r3⟩:=zb hrm;obtain⟨z0,z1,z2,z3⟩:=zb hrz;have f0:=hrz.frozen;go_wp2;obtain⟨q0,q1,q2,q3⟩:=zb (Zw hrz 0 0 0 0);simp only[Yy] at q0 q1 q2 q3;refine bodyPost_ret (v:=wv 0) (by simp[results,results116,go_sem,q0,q1,q2,q3,zl]) rfl ⟨rfl, ?_⟩;exact(((hbel.setCell (by simp;omega) _).setCell (by simp;omega) _).setCell (by simp;omega) _).setCell (by simp;omega) _
 ·obtain⟨s,hs,hs0,hs1⟩:=shlw_in hc b;rw[hs1];have HC:Hid (ltw a 256=true):=hc;have H0:Hid (za a 0=(s:Int)):=hs0;clear hs1 hc hs0;go_enter func116,ntmps116;go_wp2_with fail
  refine(Ya a 256 (by omega) _).mono ?_;rintro e w' ⟨rfl,hb⟩;rw[HC.out];have hra:=zf (zh (n:=w.heap.size) (za a) rfl rfl rfl rfl rfl |>.alloc _ |>.alloc _ |>.alloc _) hb;have hrb:=zf (zh (n:=w.heap.size+1) (za b) (by simp) rfl rfl rfl rfl |>.alloc _ |>.alloc _) hb;have hrm:=zf (zh (n:=w.heap.size+1+1+1) (fun _=>0) (by simp) rfl rfl rfl rfl) hb;have hrz:=zf (zh (n:=w.heap.size+1+1) (fun _=>0) (by simp) rfl rfl rfl rfl |>.alloc _) hb;have hbel:=zD (bal (bal (bal (bal (Below.refl _ _) _) _) _) _) hb;clear hb;have ca:=hra.cell (i:=0) (by omega);simp only[zj] at ca;rw[H0.out] at ca;go_wp2
  go_quiet (fail)
  go_wp2
  go_loopw [8] (fun t8 wr=>∃k:Nat,s/64<=k/\k<=4/\t8=.int .i64 k/\wr.rowIs (w.heap.size+1) 24 4 (zj (za b))/\wr.rowIs (w.heap.size+1+1) 24 4 (zj fun _=>0)/\
   wr.rowIs (w.heap.size+1+1+1) 24 4 (zj fun i=>if i<k then za (b*2^s) i else 0)/\Below w.heap.size w wr)
   (fun t8 _=>4 - (intOf t8).toNat)
  case atStart=>
   refine⟨s/64,by omega,by omega,by go_num,ZV hrb _,ZV hrz _,ZV (hrm.congr fun i hi=> ?_) _,Ym hbel _⟩;simp only[zj];by_cases hl:i<s/64
   ·rw[if_pos hl,shl_lo b s i hl]
   ·rw[if_neg hl]
  case round=>
   clear hra hrb hrm hrz hbel ca;obtain⟨k,hk1,hk2,rfl,hrb,hrz,hrm,hbel⟩:=hrel;by_cases hlt:k<4
   ·have cb:=hrb.cell (i:=k - s/64) (by omega);have cm:=hrm.cell (i:=k) (by omega);have fm:=hrm.frozen k;simp only[zj,Nat.lt_irrefl,if_false] at cb cm;by_cases hgt:s/64<k
    ·have cb1:=hrb.cell (i:=k - s/64 - 1) (by omega);simp only[zj] at cb1;have hrm2:=hrm.set k (.int .u64 (IntKind.u64.wrap (za b (k - s/64)*2^(s%64))));have cm2:=hrm2.cell (i:=k) hlt;simp only[if_true] at cm2;go_wp2
     go_region
     go_wp2
     go_roundw
     case rel=>
      refine⟨k+1,by omega,by omega,by go_num,((hrb.setOther (by simp) _).setOther (by simp) _).drew,((hrz.setOther (by simp) _).setOther (by simp) _).drew, ?_,((hbel.setCell (by simp;omega) _).setCell (by simp;omega) _).drew⟩;exact(zdD hrm (shl_hi' b s k hgt)).drew
     case measure=>simp[intOf];omega
    ·go_wp2
     go_roundw
     case rel=>
      refine⟨k+1,by omega,by omega,by go_num,hrb.setOther (by simp) _,hrz.setOther (by simp) _, ?_,hbel.setCell (by simp;omega) _⟩;exact Z0 hrm (shl_eq' b s k hk1 hgt)
     case measure=>simp[intOf];omega
   ·obtain rfl:k=4:=by omega
    obtain⟨c0,c1,c2,c3⟩:=zb hrm;obtain⟨z0,z1,z2,z3⟩:=zb hrz;have f0:=hrz.frozen;go_wp2;obtain⟨q0,q1,q2,q3⟩:=zb (Zw hrz (za (b*2^s) 0) (za (b*2^s) 1) (za (b*2^s) 2) (za (b*2^s) 3));simp only[Yy] at q0 q1 q2 q3;refine bodyPost_ret (v:=wv (b*2^s)) (by simp[results,results116,go_sem,q0,q1,q2,q3]) rfl ⟨rfl, ?_⟩;exact(((hbel.setCell (by simp;omega) _).setCell (by simp;omega) _).setCell (by simp;omega) _).setCell (by simp;omega) _
theorem shr_any (a b:Nat) (hbM:b<M) (w:World):
  Calls prog 117 #[wv a,wv b] w fun e w'=>e=.returned (wv (zfc a b))/\Below w.heap.size w w':=by
 cases hc:ltw a 256
 ·have hs:zfc a b=0:=zl5 hc b;rw[hs];have HC:Hid (ltw a 256=false):=hc;clear hs hc;go_enter func117,ntmps117;go_wp2_with fail
  refine(Ya a 256 (by omega) _).mono ?_;rintro e w' ⟨rfl,hb⟩;rw[HC.out];have hrm:=zf (zh (n:=w.heap.size+1+1+1) (fun _=>0) (by simp) rfl rfl rfl rfl) hb;have hrz:=zf (zh (n:=w.heap.size+1+1) (fun _=>0) (by simp) rfl rfl rfl rfl |>.alloc _) hb;have hbel:=zD (bal (bal (bal (bal (Below.refl _ _) _) _) _) _) hb;clear hb;obtain⟨r0,r1,r2,r3⟩:=zb hrm;obtain⟨z0,z1,z2,z3⟩:=zb hrz;have f0:=hrz.frozen;go_wp2;obtain⟨q0,q1,q2,q3⟩:=zb (Zw hrz 0 0 0 0);simp only[Yy] at q0 q1 q2 q3;refine bodyPost_ret (v:=wv 0) (by simp[results,results117,go_sem,q0,q1,q2,q3,zl]) rfl ⟨rfl, ?_⟩;exact(((hbel.setCell (by simp;omega) _).setCell (by simp;omega) _).setCell (by simp;omega) _).setCell (by simp;omega) _
 ·obtain⟨s,hs,hs0,hs1⟩:=shrw_in hc b;rw[hs1];have HC:Hid (ltw a 256=true):=hc;have HB:Hid (b<M):=hbM;clear hbM;have H0:Hid (za a 0=(s:Int)):=hs0;clear hs1 hc hs0;go_enter func117,ntmps117;go_wp2_with fail
  refine(Ya a 256 (by omega) _).mono ?_;rintro e w' ⟨rfl,hb⟩;rw[HC.out];have hra:=zf (zh (n:=w.heap.size) (za a) rfl rfl rfl rfl rfl |>.alloc _ |>.alloc _ |>.alloc _) hb;have hrb:=zf (zh (n:=w.heap.size+1) (za b) (by simp) rfl rfl rfl rfl |>.alloc _ |>.alloc _) hb;have hrm:=zf (zh (n:=w.heap.size+1+1+1) (fun _=>0) (by simp) rfl rfl rfl rfl) hb;have hrz:=zf (zh (n:=w.heap.size+1+1) (fun _=>0) (by simp) rfl rfl rfl rfl |>.alloc _) hb;have hbel:=zD (bal (bal (bal (bal (Below.refl _ _) _) _) _) _) hb;clear hb;have ca:=hra.cell (i:=0) (by omega);simp only[zj] at ca;rw[H0.out] at ca;go_wp2
  go_quiet (fail)
  go_wp2
  go_loopw [8] (fun t8 wr=>∃k:Nat,s/64<=k/\k<=4/\t8=.int .i64 k/\wr.rowIs (w.heap.size+1) 24 4 (zj (za b))/\wr.rowIs (w.heap.size+1+1) 24 4 (zj fun _=>0)/\
   wr.rowIs (w.heap.size+1+1+1) 24 4 (zj fun i=>if i<k - s/64 then za (b/2^s) i else 0)/\Below w.heap.size w wr)
   (fun t8 _=>4 - (intOf t8).toNat)
  case atStart=>
   refine⟨s/64,by omega,by omega,by go_num,ZV hrb _,ZV hrz _,ZV (hrm.congr fun i hi=> ?_) _,Ym hbel _⟩;simp only[zj];rw[if_neg (by omega)]
  case round=>
   clear hra hrb hrm hrz hbel ca;obtain⟨k,hk1,hk2,rfl,hrb,hrz,hrm,hbel⟩:=hrel;by_cases hlt:k<4
   ·have cb:=hrb.cell (i:=k) (by omega);have cm:=hrm.cell (i:=k - s/64) (by omega);have fm:=hrm.frozen (k - s/64);simp only[zj,Nat.lt_irrefl,if_false] at cb cm;by_cases hgt:k+1<4
    ·have cb1:=hrb.cell (i:=k+1) (by omega);simp only[zj] at cb1;have hrm2:=hrm.set (k - s/64) (.int .u64 (za b k/2^(s%64)));have cm2:=hrm2.cell (i:=k - s/64) (by omega);simp only[if_true] at cm2;go_wp2
     go_region
     go_wp2
     go_roundw
     case rel=>
      refine⟨k+1,by omega,by omega,by go_num,((hrb.setOther (by simp) _).setOther (by simp) _).drew,((hrz.setOther (by simp) _).setOther (by simp) _).drew, ?_,((hbel.setCell (by simp;omega) _).setCell (by simp;omega) _).drew⟩;rw[show k+1 - s/64=k - s/64+1 by omega];exact(zdD hrm (shr_hi' b s k hk1)).drew
     case measure=>simp[intOf];omega
    ·go_wp2
     go_roundw
     case rel=>
      refine⟨k+1,by omega,by omega,by go_num,hrb.setOther (by simp) _,hrz.setOther (by simp) _, ?_,hbel.setCell (by simp;omega) _⟩;rw[show k+1 - s/64=k - s/64+1 by omega];exact Z0 hrm (zmy b s k HB.out hk1 (by omega))
     case measure=>simp[intOf];omega
   ·obtain rfl:k=4:=by omega
    have hrm:=hrm.congr (g:=zj (za (b/2^s))) fun i hi=>by
     simp only[zj];by_cases hl:i<4 - s/64
     ·rw[if_pos hl]
     ·rw[if_neg hl,shr_out b s i HB.out (by omega)]
    obtain⟨c0,c1,c2,c3⟩:=zb hrm;obtain⟨z0,z1,z2,z3⟩:=zb hrz;have f0:=hrz.frozen;go_wp2;obtain⟨q0,q1,q2,q3⟩:=zb (Zw hrz (za (b/2^s) 0) (za (b/2^s) 1) (za (b/2^s) 2) (za (b/2^s) 3));simp only[Yy] at q0 q1 q2 q3;refine bodyPost_ret (v:=wv (b/2^s)) (by simp[results,results117,go_sem,q0,q1,q2,q3]) rfl ⟨rfl, ?_⟩;exact(((hbel.setCell (by simp;omega) _).setCell (by simp;omega) _).setCell (by simp;omega) _).setCell (by simp;omega) _
theorem zlw (y:Nat) (h:y<Lib.len8tab.size):(Lib.len8tab[y].toNat)=Lib.bitLen y:=by
 have hy:y<256:=by rw[Lib.len8tab_size] at h;exact h
 have e:=Lib.len8_of (y:Int) (by omega) (by omega);unfold Lib.len8 at e;rw[Int.toNat_natCast,getElem?_pos Lib.len8tab y h,Option.getD_some] at e;omega
theorem yb (s:Int) (s':Nat) (y x:Int) (h:y.toNat<Lib.len8tab.size) (hs:s=s') (hs':s'<=56) (hx:Lib.bitLen x.toNat=s'+Lib.bitLen y.toNat):
  wrap64 (s+wrap64 ((Lib.len8tab[y.toNat].toNat:Nat):Int))=(Lib.bitLen x.toNat:Int):=by
 have hy:y.toNat<256:=by rw[Lib.len8tab_size] at h;exact h
 have hl:=Lib.bitLen_le8 ⟨y.toNat,hy⟩;simp only at hl;rw[zlw _ h,hx,hs];unfold wrap64;omega
theorem zib (x:Int) (h:x.toNat<Lib.len8tab.size):
  wrap64 (wrap64 ((Lib.len8tab[x.toNat].toNat:Nat):Int))=(Lib.bitLen x.toNat:Int):=by
 have hy:x.toNat<256:=by rw[Lib.len8tab_size] at h;exact h
 have hl:=Lib.bitLen_le8 ⟨x.toNat,hy⟩;simp only at hl;rw[zlw _ h];unfold wrap64;omega
theorem zju (x:Int) (w:World) (h0:0<=x) (h1:x<=18446744073709551615):
  Calls prog 211 #[.int .u64 x] w fun e w'=>e=.returned (.int .i64 (Lib.bitLen x.toNat))/\w'=w:=by
 have hsz:Lib.len8tab.size=256:=by decide+kernel
 go_enter func211,ntmps211;go_wp2
 all_goals (go_ret;refine⟨congrArg Ending.returned (congrArg (Value.int IntKind.i64) ?_),rfl⟩)
 ·exact yb 56 56 _ x _ rfl (by omega) (by rw[Lib.bitLen_shift56 x.toNat (by omega) (by omega),show(x/4294967296/65536/256).toNat=x.toNat/72057594037927936 by omega])
 ·exact yb 48 48 _ x _ rfl (by omega) (by rw[Lib.bitLen_shift48 x.toNat (by omega) (by omega),show(x/4294967296/65536).toNat=x.toNat/281474976710656 by omega])
 ·exact yb 40 40 _ x _ rfl (by omega) (by rw[Lib.bitLen_shift40 x.toNat (by omega) (by omega),show(x/4294967296/256).toNat=x.toNat/1099511627776 by omega])
 ·exact yb 32 32 _ x _ rfl (by omega) (by rw[Lib.bitLen_shift32 x.toNat (by omega) (by omega),show(x/4294967296).toNat=x.toNat/4294967296 by omega])
 ·exact yb 24 24 _ x _ rfl (by omega) (by rw[Lib.bitLen_shift24 x.toNat (by omega) (by omega),show(x/65536/256).toNat=x.toNat/16777216 by omega])
 ·exact yb 16 16 _ x _ rfl (by omega) (by rw[Lib.bitLen_shift16 x.toNat (by omega) (by omega),show(x/65536).toNat=x.toNat/65536 by omega])
 ·exact yb 8 8 _ x _ rfl (by omega) (by rw[Lib.bitLen_shift8 x.toNat (by omega) (by omega),show(x/256).toNat=x.toNat/256 by omega])
 ·exact zib x _
theorem zcu:∀(f x:Nat),x<2^f->x<2^Lib.bitLenAux f x
 |0,x,h=>by simp at h;subst h;simp[Lib.bitLenAux]
 |f+1,x,h=>by
  unfold Lib.bitLenAux;split
  ·subst_vars;simp
  ·have:=zcu f (x/2) (by rw[Nat.pow_succ] at h;omega);rw[Nat.pow_add];omega
theorem and_one (x:Nat) (h:x<18446744073709551616):bits .and .u64 (x:Int) 1=((x%2:Nat):Int):=by
 have e:=bits_and_u64_nat x 1 h (by omega);rw[Nat.and_one_is_mod] at e;exact e
theorem zfJ (N i:Nat):zy N (i/64)/2^(i%64)%2=N/2^i%2:=by
 have h1:(zy N (i/64)/2^(i%64)%2=1)↔(N/2^i%2=1):=by
  have e1:=Nat.testBit_eq_decide_div_mod_eq (x:=zy N (i/64)) (i:=i%64);have e2:=Nat.testBit_eq_decide_div_mod_eq (x:=N) (i:=i)
  have e3:(zy N (i/64)).testBit (i%64)=N.testBit i:=by
   unfold zy;rw[zeg,Nat.testBit_mod_two_pow,Nat.testBit_div_two_pow,show i%64+64*(i/64)=i by omega];simp[Nat.mod_lt i (show 64>0 by omega)]
  rw[e1,e2] at e3;simpa using e3
 omega
theorem zla (N i:Nat) (k:Nat):(za N i)/2^k=((zy N i/2^k:Nat):Int):=by
 rw[zO,Int.natCast_ediv,Int.natCast_pow];rfl
theorem zkn (N n i b:Nat) (t:TypeId) (w:World) (hi:i<64*n) (hn:n<=8) (hr:w.rowIs b t n (zj (za N))):
  Calls prog 170 #[.slice (some ⟨b,0,none⟩) n n,.int .i64 (i:Int)] w fun e w'=>e=.returned (.int .u64 ((N/2^i%2:Nat):Int))/\w'=w:=by
 have c:=hr.cell (i:=i/64) (by omega);simp only[zj] at c;go_enter func170,ntmps170;go_wp2;go_ret;refine⟨congrArg Ending.returned (congrArg (Value.int IntKind.u64) ?_),rfl⟩;rw[zla,and_one _ (Nat.lt_of_le_of_lt (Nat.div_le_self _ _) (ZD _ _)),zfJ]
theorem ret_int {k:IntKind} {a b:Int} (h:a=b):Ending.returned (.int k a)=.returned (.int k b):=by rw[h]
theorem zmp {N k:Nat} (hz:za N k=0) (h:N<2^(64*(k+1))):N<2^(64*k):=by
 rw[zO] at hz;have e:=zbf N k;rw[Nat.mod_eq_of_lt h,show zy N k=0 by omega,Nat.zero_mul,Nat.add_zero] at e;rw[e];exact Nat.mod_lt _ (Nat.two_pow_pos _)
theorem len_up {N k:Nat} (h:N<2^(64*(k+1))):∃L:Nat,Lib.bitLen (za N k).toNat=L/\L<=64/\N<2^(64*k+L):=by
 refine⟨_,rfl,Lib.bitLen_le _ 64 (by omega) ?_, ?_⟩
 ·have:=zb8 N k;have:=YY N k;omega
 ·rw[zO,Int.toNat_natCast];have h1:zy N k<2^Lib.bitLen (zy N k):=zcu 64 _ (ZD N k);have e:=zbf N k;rw[Nat.mod_eq_of_lt h] at e;have h2:N%2^(64*k)<2^(64*k):=Nat.mod_lt _ (Nat.two_pow_pos _);rw[Nat.pow_add];have h3:(zy N k+1)*2^(64*k)<=2^Lib.bitLen (zy N k)*2^(64*k):=Nat.mul_le_mul h1 (Nat.le_refl _);rw[Nat.add_mul,Nat.mul_comm (2^Lib.bitLen (zy N k))] at h3;omega
theorem zap (N n b:Nat) (t:TypeId) (w:World) (hn:n<=8) (hN:N<2^(64*n)) (hr:w.rowIs b t n (zj (za N))):
  Calls prog 169 #[.slice (some ⟨b,0,none⟩) n n] w fun e w'=>∃L:Nat,L<=64*n/\N<2^L/\e=.returned (.int .i64 (L:Int))/\w'=w:=by
 go_enter func169,ntmps169;go_wp2
 go_loop [3] (fun t3=>∃k:Nat,k<=n/\t3=.int .i64 ((k:Int) - 1)/\N<2^(64*k)) (fun t3=>(intOf t3+1).toNat)
 case atStart=>exact⟨n,Nat.le_refl _,by go_num,hN⟩
 case round=>
  obtain⟨k,hk,rfl,hNk⟩:=hrel;rcases Nat.eq_zero_or_pos k with rfl|hpos
  ·go_wp2;go_ret;exact⟨0,by omega,by simpa using hNk,rfl,rfl⟩
  ·obtain⟨k,rfl⟩:∃k',k=k'+1:=⟨k - 1,by omega⟩;clear hpos;have ek:((k+1:Nat):Int) - 1=(k:Int):=by omega
   rw[ek];have c:=hr.cell (i:=k) (by omega);have l1:=YY N k;have l2:=zb8 N k;simp only[zj] at c;by_cases hz:za N k=0
   ·have hb:(za N k !=0)=false:=by rw[hz];rfl
    have HZ:Hid (za N k=0):=hz;clear hz;go_wp2
    go_round
    case rel=>exact⟨k,by omega,by go_num,zmp HZ.out hNk⟩
    case measure=>simp[intOf]
   ·have hb:(za N k !=0)=true:=by simpa using hz
    clear hz;go_wp2_with fail
    refine(zju (za N k) _ l1 (by omega)).mono ?_;rintro e w' ⟨rfl,rfl⟩;obtain⟨L,hL,hl1,hl2⟩:=len_up hNk;rw[hL];have hx:L<=64:=hl1;clear hL;go_wp2;go_ret;exact⟨64*k+L,by omega,hl2,ret_int (by omega),rfl⟩
theorem zlx:prog.cellsOf 22=1:=by kernel_rfl
theorem part0 (x0 x1 x2 x3:Int) (w:World):(part 22 #[.int .u64 x0,.int .u64 x1,.int .u64 x2,.int .u64 x3] 0).run prog w=.ok (.int .u64 x0) w:=by simp[part,isAgg,run_underlying underlying22]
theorem part1 (x0 x1 x2 x3:Int) (w:World):(part 22 #[.int .u64 x0,.int .u64 x1,.int .u64 x2,.int .u64 x3] 1).run prog w=.ok (.int .u64 x1) w:=by simp[part,isAgg,run_underlying underlying22]
theorem part2 (x0 x1 x2 x3:Int) (w:World):(part 22 #[.int .u64 x0,.int .u64 x1,.int .u64 x2,.int .u64 x3] 2).run prog w=.ok (.int .u64 x2) w:=by simp[part,isAgg,run_underlying underlying22]
theorem part3 (x0 x1 x2 x3:Int) (w:World):(part 22 #[.int .u64 x0,.int .u64 x1,.int .u64 x2,.int .u64 x3] 3).run prog w=.ok (.int .u64 x3) w:=by simp[part,isAgg,run_underlying underlying22]
theorem eqInt (x y:Int) (w:World):(Op.equalIn 9999 22 (.int .u64 x) (.int .u64 y)).run prog w=.ok (x==y) w:=run_equalIn_int w 9998 22 .u64 .u64 x y underlying22
theorem eq4 (x0 x1 x2 x3 y0 y1 y2 y3:Int) (w:World):(Op.equalIn 10000 24 (.agg #[.int .u64 x0,.int .u64 x1,.int .u64 x2,.int .u64 x3]) (.agg #[.int .u64 y0,.int .u64 y1,.int .u64 y2,.int .u64 y3])).run prog w=.ok (x0==y0&&(x1==y1&&(x2==y2&&x3==y3))) w:=by
 obtain⟨i,hi, -⟩:=Option.map_eq_some_iff.1 (show(prog.info? 22).map (fun i=>i.size)=some 1 by kernel_rfl);rw[run_equalIn_array w 9999 _ _ underlying24 hi,show List.range 4=[0,1,2,3] from rfl,zlx];simp only[Op.eqItems,Sem.run_bind,Nat.mul_one,part0,part1,part2,part3,Result.andThen_ok,eqInt,Sem.run_ite,Sem.run_pure];cases h0:(x0==y0)<;>cases h1:(x1==y1)<;>cases h2:(x2==y2)<;>cases h3:(x3==y3)<;>rfl
def eqw (a b:Nat):Bool:=decide (a%M=b%M)
theorem zd2 (a b:Nat):(za a 0==za b 0&&(za a 1==za b 1&&(za a 2==za b 2&&za a 3==za b 3)))=eqw a b:=by
 unfold eqw M;rw[Bool.eq_iff_iff];simp only[Bool.and_eq_true,beq_iff_eq,decide_eq_true_eq];unfold za;rw[pw0,pw1,pw2,pw3];omega
theorem zgQ (a b:Nat) (w:World):(Op.equalIn 10000 24 (wv a) (wv b)).run prog w=.ok (eqw a b) w:=by
 rw[eq4,zd2]
theorem yl (a:Nat) (w:World):(Op.equalIn 10000 24 (wv a) (.agg #[.int .u64 0,.int .u64 0,.int .u64 0,.int .u64 0])).run prog w=.ok (eqw a 0) w:=by
 have e:=zgQ a 0 w;unfold wv at e⊢;simp only[zl] at e;exact e
theorem zlo {a b:Nat} (h:a=b):eqw a b=true:=by subst h;simp[eqw]
theorem zjO {a b:Nat} (ha:a<M) (hb:b<M) (h:a≠b):eqw a b=false:=by
 unfold eqw;rw[Nat.mod_eq_of_lt ha,Nat.mod_eq_of_lt hb];simpa using h
def Qk (a b k:Nat):Nat:=a/2^k/b*2^k
def Rk (a b k:Nat):Nat:=a/2^k%b
def Yg (a i:Nat):Nat:=a/2^i%2
def dk (a b i:Nat):Nat:=2*Rk a b (i+1)+Yg a i
theorem zeo (a i:Nat):Yg a i<=1:=by unfold Yg;omega
theorem zae (a i:Nat):a/2^i=2*(a/2^(i+1))+Yg a i:=by
 unfold Yg;rw[Nat.pow_succ,<-Nat.div_div_eq_div_mul];omega
theorem Rk_lt (a b k:Nat) (_hb:b≠0):Rk a b k<b:=Nat.mod_lt _ (by omega)
theorem div_lo (a b i:Nat) (hb:b≠0) (h:dk a b i<b):Rk a b i=dk a b i/\Qk a b i=Qk a b (i+1):=by
 unfold Rk Qk dk at*;unfold Rk at*;rw[zae a i];generalize hn:a/2^(i+1)=n at*
 have e:2*n+Yg a i=b*(2*(n/b))+(2*(n%b)+Yg a i):=by
  have:=Nat.div_add_mod n b;rw[Nat.mul_left_comm];omega
 rw[e,Nat.mul_add_mod,Nat.mod_eq_of_lt h];refine⟨rfl, ?_⟩;rw[Nat.mul_add_div (by omega),Nat.div_eq_of_lt h,Nat.pow_succ,Nat.add_zero,Nat.mul_comm 2,Nat.mul_assoc,Nat.mul_comm 2]
theorem div_hi (a b i:Nat) (hb:b≠0) (h:¬dk a b i<b):Rk a b i=dk a b i - b/\Qk a b i=Qk a b (i+1)+2^i:=by
 have hl:=Rk_lt a b (i+1) hb;have hbit:=zeo a i;unfold Rk Qk dk at*;unfold Rk at*;rw[zae a i];generalize hn:a/2^(i+1)=n at*
 have e:2*n+Yg a i=b*(2*(n/b)+1)+(2*(n%b)+Yg a i - b):=by
  have:=Nat.div_add_mod n b;rw[Nat.mul_add,Nat.mul_left_comm];omega
 have h2:2*(n%b)+Yg a i - b<b:=by omega
 rw[e,Nat.mul_add_mod,Nat.mod_eq_of_lt h2];refine⟨rfl, ?_⟩;rw[Nat.mul_add_div (by omega),Nat.div_eq_of_lt h2,Nat.pow_succ,Nat.add_zero,Nat.add_mul,Nat.one_mul,Nat.mul_comm 2,Nat.mul_assoc,Nat.mul_comm 2]
theorem zgI (x:Nat):2*x ||| 1=2*x+1:=by
 have:=Nat.two_pow_add_eq_or_of_lt (i:=1) (b:=1) (by omega) x;simpa using this.symm
theorem twice0 (R bit:Nat) (h:bit<=1):bits .or .u64 (za (R+R) 0) (bit:Int)=za (2*R+bit) 0:=by
 rw[zO,zO,bits_or_u64_nat _ _ (ZD _ _) (by omega)];congr 1;unfold zy;rw[pw0,Nat.div_one,Nat.div_one];have e:(R+R)%18446744073709551616=2*(R%9223372036854775808):=by omega
 rw[e];have hb:bit=0\/bit=1:=by omega
 rcases hb with rfl|rfl
 ·rw[Nat.or_zero];omega
 ·rw[zgI];omega
theorem zef (R bit j:Nat) (h:bit<=1) (hj:j<4) (h0:j≠0):za (R+R) j=za (2*R+bit) j:=by
 unfold za;rcases k4 hj with rfl|rfl|rfl|rfl
 ·omega
 all_goals (simp only[pw1,pw2,pw3];omega)
theorem zis (R b bit:Nat) (h:bit<=1) (hR:R<b) (hb:b<M):
  ((cy R R 4:Int)==0&&(bw (2*R+bit) b 4:Int)==1)=decide (2*R+bit<b):=by
 unfold cy bw M at*;rw[pw4];rw[Bool.eq_iff_iff];simp only[Bool.and_eq_true,beq_iff_eq,decide_eq_true_eq];split<;>omega
theorem ZS (d b j:Nat) (hb:b<M) (h:¬d<b) (hj:j<4):za (zaj d b) j=za (d - b) j:=by
 unfold za zaj M at*;rcases k4 hj with rfl|rfl|rfl|rfl<;>simp only[pw0,pw1,pw2,pw3]<;>omega
theorem q_limb (Q i j:Nat) (hq:Q%2^(i+1)=0):zy (Q+2^i) j=if j=i/64 then zy Q j ||| 2^(i%64) else zy Q j:=by
 have e:Q+2^i=Q ||| 2^i:=by
  obtain⟨c,hc⟩:=Nat.dvd_of_mod_eq_zero hq;rw[hc];exact Nat.two_pow_add_eq_or_of_lt (Nat.pow_lt_pow_right (by omega) (by omega)) c
 rw[e];apply Nat.eq_of_testBit_eq;intro t;rw[ZG,Nat.testBit_or,Nat.testBit_two_pow];split
 ·rename_i hj;rw[Nat.testBit_or,ZG,Nat.testBit_two_pow];by_cases ht:t<64
  ·simp only[ht,decide_true,Bool.true_and];congr 1;rw[Bool.eq_iff_iff];simp only[decide_eq_true_eq];omega
  ·have:¬i%64=t:=by omega
   simp[ht,this]
 ·rename_i hj;rw[ZG];by_cases ht:t<64
  ·have:¬i=t+64*j:=by omega
   simp[ht,this]
  ·simp[ht]
theorem zmS (a b k:Nat):Qk a b k%2^k=0:=by unfold Qk;exact Nat.mul_mod_left _ _
theorem Qk_zero (a b:Nat):Qk a b 0=a/b:=by unfold Qk;simp
theorem Rk_zero (a b:Nat):Rk a b 0=a%b:=by unfold Rk;simp
theorem Qk_top (a b L:Nat) (h:a<2^L):Qk a b L=0:=by unfold Qk;rw[Nat.div_eq_of_lt h,Nat.zero_div,Nat.zero_mul]
theorem Rk_top (a b L:Nat) (h:a<2^L):Rk a b L=0:=by unfold Rk;rw[Nat.div_eq_of_lt h,Nat.zero_mod]
theorem zg5 (a b:Nat) (hb:eqw b 0=true) (w:World):
  Calls prog 164 #[wv8 a,wv b] w fun e w'=>e=.returned (.tuple #[wv8 0,wv 0])/\Below w.heap.size w w':=by
 have he:=yl b;rw[hb] at he;go_enter func164,ntmps164;go_wp2
 go_region
 all_goals go_wp2
 all_goals (refine bodyPost_ret (v:=.tuple #[wv8 0,wv 0]) (by simp[results,results164,go_sem,zl]) rfl ⟨rfl, ?_⟩;exact Below.drew (bal (bal (bal (bal (Below.refl _ _) _) _) _) _))
theorem zE {w:World} {b c:Nat} {t:TypeId} {n:Nat} {f:Nat->Value} (h:w.rowIs b t n f) (hne:b≠c) (v0 v1 v2 v3:Value):
  ((((w.setCell ⟨c,0,none⟩ v0).setCell ⟨c,1,none⟩ v1).setCell ⟨c,2,none⟩ v2).setCell ⟨c,3,none⟩ v3).rowIs b t n f:=
 (((h.setOther hne _).setOther hne _).setOther hne _).setOther hne _
theorem zm {w:World} {b:Nat} {t:TypeId} {g:Nat->Value} (h:w.rowIs b t 4 g) (f:Nat->Int) {x0 x1 x2 x3:Int} (h0:x0=f 0) (h1:x1=f 1) (h2:x2=f 2) (h3:x3=f 3):
  ((((w.setCell ⟨b,0,none⟩ (.int .u64 x0)).setCell ⟨b,1,none⟩ (.int .u64 x1)).setCell ⟨b,2,none⟩ (.int .u64 x2)).setCell ⟨b,3,none⟩ (.int .u64 x3)).rowIs b t 4 (zj f):=by
 subst h0 h1 h2 h3;refine(Zw h _ _ _ _).congr fun i hi=> ?_
 rcases k4 hi with rfl|rfl|rfl|rfl<;>rfl
theorem yg {w:World} {b c:Nat} {t:TypeId} {n:Nat} {f:Nat->Value} (h:w.rowIs b t n f) (hne:b≠c) (v0 v1 v2 v3 v4 v5 v6 v7:Value):
  ((((((((w.setCell ⟨c,0,none⟩ v0).setCell ⟨c,1,none⟩ v1).setCell ⟨c,2,none⟩ v2).setCell ⟨c,3,none⟩ v3).setCell ⟨c,4,none⟩ v4).setCell ⟨c,5,none⟩ v5).setCell ⟨c,6,none⟩ v6).setCell ⟨c,7,none⟩ v7).rowIs b t n f:=
 (((((((h.setOther hne _).setOther hne _).setOther hne _).setOther hne _).setOther hne _).setOther hne _).setOther hne _).setOther hne _
theorem yG {w:World} {b:Nat} {t:TypeId} {g:Nat->Value} (h:w.rowIs b t 8 g) (f:Nat->Int):
  ((((((((w.setCell ⟨b,0,none⟩ (.int .u64 (f 0))).setCell ⟨b,1,none⟩ (.int .u64 (f 1))).setCell ⟨b,2,none⟩ (.int .u64 (f 2))).setCell ⟨b,3,none⟩ (.int .u64 (f 3))).setCell ⟨b,4,none⟩ (.int .u64 (f 4))).setCell ⟨b,5,none⟩ (.int .u64 (f 5))).setCell ⟨b,6,none⟩ (.int .u64 (f 6))).setCell ⟨b,7,none⟩ (.int .u64 (f 7))).rowIs b t 8 (zj f):=by
 refine(zfX h _ _ _ _ _ _ _ _).congr fun i hi=> ?_
 rcases k8 hi with rfl|rfl|rfl|rfl|rfl|rfl|rfl|rfl<;>rfl
theorem zic {w w':World} (h:Below w.heap.size w w') {c:Nat} (hc:w.heap.size<=c) (v0 v1 v2 v3 v4 v5 v6 v7:Value):
  Below w.heap.size w ((((((((w'.setCell ⟨c,0,none⟩ v0).setCell ⟨c,1,none⟩ v1).setCell ⟨c,2,none⟩ v2).setCell ⟨c,3,none⟩ v3).setCell ⟨c,4,none⟩ v4).setCell ⟨c,5,none⟩ v5).setCell ⟨c,6,none⟩ v6).setCell ⟨c,7,none⟩ v7):=
 (((((((h.setCell hc _).setCell hc _).setCell hc _).setCell hc _).setCell hc _).setCell hc _).setCell hc _).setCell hc _
theorem zn {w w':World} (h:Below w.heap.size w w') {c:Nat} (hc:w.heap.size<=c) (v0 v1 v2 v3:Value):
  Below w.heap.size w ((((w'.setCell ⟨c,0,none⟩ v0).setCell ⟨c,1,none⟩ v1).setCell ⟨c,2,none⟩ v2).setCell ⟨c,3,none⟩ v3):=
 (((h.setCell hc _).setCell hc _).setCell hc _).setCell hc _
theorem zeV {w W:World} {a b i Q R':Nat} (hi:i<=512) (hra:W.rowIs w.heap.size 224 8 (zj (za a))) (hrb:W.rowIs (w.heap.size+1) 24 4 (zj (za b)))
  (hrq:W.rowIs (w.heap.size+1+1) 224 8 (zj (za Q))) (hrr:W.rowIs (w.heap.size+1+1+1) 24 4 (zj (za R'))) (hbel:Below w.heap.size w W) (h:Rk a b i=R'/\Qk a b i=Q):
  ∃k:Nat,k<=512/\Value.int .i64 ((i:Int) - 1)=.int .i64 ((k:Int) - 1)/\W.rowIs w.heap.size 224 8 (zj (za a))/\W.rowIs (w.heap.size+1) 24 4 (zj (za b))/\
   W.rowIs (w.heap.size+1+1) 224 8 (zj (za (Qk a b k)))/\W.rowIs (w.heap.size+1+1+1) 24 4 (zj (za (Rk a b k)))/\Below w.heap.size w W:=by
 obtain⟨rfl,rfl⟩:=h;exact⟨i,hi,rfl,hra,hrb,hrq,hrr,hbel⟩
theorem dk_eq {a b i R d:Nat} (hd:d=2*R+Yg a i) (hR:Rk a b (i+1)=R):dk a b i=d:=by unfold dk;rw[hd,hR]
theorem div_lo' {a b i R d:Nat} (hb:b≠0) (hd:d=2*R+Yg a i) (hR:Rk a b (i+1)=R) (h:d<b):Rk a b i=d/\Qk a b i=Qk a b (i+1):=by
 have e:=dk_eq hd hR;have:=div_lo a b i hb (by rw[e];exact h);rwa[e] at this
theorem zjk {a b i R d:Nat} (hb:b≠0) (hd:d=2*R+Yg a i) (hR:Rk a b (i+1)=R) (h:¬d<b):Rk a b i=d - b/\Qk a b i=Qk a b (i+1)+2^i:=by
 have e:=dk_eq hd hR;have:=div_hi a b i hb (by rw[e];exact h);rwa[e] at this
theorem zmt (e:Nat) (h:e<64):IntKind.u64.wrap (2^e)=((2^e:Nat):Int):=by
 have hp:2^e<2^64:=Nat.pow_lt_pow_right (by omega) h;rw[IntKind.wrap_u64];have e1:(2:Int)^e=((2^e:Nat):Int):=by rw[Int.natCast_pow];rfl
 rw[e1];generalize 2^e=p at*;omega
theorem zdM {w:World} {b:Nat} {t:TypeId} {n Q i:Nat} (h:w.rowIs b t n (zj (za Q))) (hq:Q%2^(i+1)=0):
  (w.setCell ⟨b,i/64,none⟩ (.int .u64 (bits .or .u64 (za Q (i/64)) (IntKind.u64.wrap (2^(i%64)))))).rowIs b t n (zj (za (Q+2^i))):=by
 refine(h.set (i/64) _).congr fun j _=> ?_
 have hp:2^(i%64)<2^64:=Nat.pow_lt_pow_right (by omega) (by omega);have e:=q_limb Q i j hq;rw[zmt _ (by omega),zO,bits_or_u64_nat _ _ (ZD _ _) hp];simp only[zj];by_cases hj:j=i/64
 ·rw[if_pos hj,zO,e,if_pos hj,hj]
 ·rw[if_neg hj,zO,zO,e,if_neg hj]
theorem YJ (a b:Nat) (w:World):
  Calls prog 160 #[wv a,wv b] w fun e w'=>∃s c:Nat,Hid (s=a+b)/\Hid (c=cy a b 4)/\e=.returned (.tuple #[wv s,.int .u64 (c:Int)])/\Below w.heap.size w w':=
 (zeT a b w).mono fun _ _ h=>⟨_,_,rfl,rfl,h.1,h.2⟩
theorem zaP (a b:Nat) (w:World):
  Calls prog 163 #[wv a,wv b] w fun e w'=>∃s c:Nat,Hid (s=zaj a b)/\Hid (c=bw a b 4)/\e=.returned (.tuple #[wv s,.int .u64 (c:Int)])/\Below w.heap.size w w':=
 (zau a b w).mono fun _ _ h=>⟨_,_,rfl,rfl,h.1,h.2⟩
theorem ziO (N n i b:Nat) (t:TypeId) (w:World) (hi:i<64*n) (hn:n<=8) (hr:w.rowIs b t n (zj (za N))):
  Calls prog 170 #[.slice (some ⟨b,0,none⟩) n n,.int .i64 (i:Int)] w fun e w'=>e=.returned (.int .u64 (Yg N i:Int))/\w'=w:=zkn N n i b t w hi hn hr
theorem zhN (a b:Nat) (ha:a<2^(64*8)) (hb:b<M) (hb0:b≠0) (w:World):
  Calls prog 164 #[wv8 a,wv b] w fun e w'=>e=.returned (.tuple #[wv8 (a/b),wv (a%b)])/\Below w.heap.size w w':=by
 have he:=yl b;rw[zjO hb (by unfold M;omega) hb0] at he;have HB:Hid (b<M):=hb;have HB0:Hid (b≠0):=hb0;have HA:Hid (a<2^(64*8)):=ha;clear hb hb0 ha;go_enter func164,ntmps164;go_wp2_with fail
 refine(zap a 8 w.heap.size 224 _ (by omega) HA.out ?_).mono ?_
 ·exact yr (za a) rfl rfl rfl rfl rfl rfl rfl rfl rfl |>.alloc _ |>.alloc _ |>.alloc _
 rintro e w' ⟨L,hL,hLa,rfl,rfl⟩;have HL:Hid (a<2^L):=hLa;clear hLa he;go_wp2
 go_loopw [6] (fun t6 wr=>∃k:Nat,k<=512/\t6=.int .i64 ((k:Int) - 1)/\wr.rowIs w.heap.size 224 8 (zj (za a))/\wr.rowIs (w.heap.size+1) 24 4 (zj (za b))/\
   wr.rowIs (w.heap.size+1+1) 224 8 (zj (za (Qk a b k)))/\wr.rowIs (w.heap.size+1+1+1) 24 4 (zj (za (Rk a b k)))/\Below w.heap.size w wr)
   (fun t6 _=>(intOf t6+1).toNat)
 case atStart=>
  refine⟨L,by omega,by go_num, ?_, ?_, ?_, ?_, ?_⟩
  ·exact yr (za a) rfl rfl rfl rfl rfl rfl rfl rfl rfl |>.alloc _ |>.alloc _ |>.alloc _
  ·exact zh (za b) (by simp) rfl rfl rfl rfl |>.alloc _ |>.alloc _
  ·rw[Qk_top a b L HL.out];exact yr (za 0) (by simp) (zl _).symm (zl _).symm (zl _).symm (zl _).symm (zl _).symm (zl _).symm (zl _).symm (zl _).symm |>.alloc _
  ·rw[Rk_top a b L HL.out];exact zh (za 0) (by simp) (zl _).symm (zl _).symm (zl _).symm (zl _).symm
  ·exact bal (bal (bal (bal (Below.refl _ _) _) _) _) _
 case round=>
  clear HL hL;obtain⟨k,hk,rfl,hra,hrb,hrq,hrr,hbel⟩:=hrel;rcases Nat.eq_zero_or_pos k with rfl|hpos
  ·rw[Qk_zero] at hrq;rw[Rk_zero] at hrr;obtain⟨q,HQ⟩:∃q,Hid (a/b=q):=⟨_,rfl⟩;obtain⟨r,HR⟩:∃r,Hid (a%b=r):=⟨_,rfl⟩;rw[HQ.out] at hrq;rw[HR.out] at hrr;obtain⟨r0,r1,r2,r3⟩:=zb hrr;obtain⟨q0,q1,q2,q3,q4,q5,q6,q7⟩:=Zu hrq;have fr:=hrr.frozen;have fq:=hrq.frozen;go_wp2
   go_region
   all_goals go_wp2
   have hR':=zm (yg hrr (b:=w.heap.size+1+1+1) (c:=w.heap.size+1+1) (by omega) (.int .u64 (za q 0)) (.int .u64 (za q 1)) (.int .u64 (za q 2)) (.int .u64 (za q 3)) (.int .u64 (za q 4)) (.int .u64 (za q 5)) (.int .u64 (za q 6)) (.int .u64 (za q 7))) (za r) rfl rfl rfl rfl;have hQ':=zE (yG hrq (za q)) (b:=w.heap.size+1+1) (c:=w.heap.size+1+1+1) (by omega) (.int .u64 (za r 0)) (.int .u64 (za r 1)) (.int .u64 (za r 2)) (.int .u64 (za r 3));obtain⟨s0,s1,s2,s3⟩:=zb hR';obtain⟨p0,p1,p2,p3,p4,p5,p6,p7⟩:=Zu hQ';rw[HQ.out,HR.out];refine bodyPost_ret (v:=.tuple #[wv8 q,wv r]) (by simp[results,results164,go_sem,s0,s1,s2,s3,p0,p1,p2,p3,p4,p5,p6,p7]) rfl ⟨rfl, ?_⟩;exact(zn (zic hbel (by omega) _ _ _ _ _ _ _ _) (by omega) _ _ _ _).drew
  ·obtain⟨i,rfl⟩:∃i,k=i+1:=⟨k - 1,by omega⟩;clear hpos;have ek:((i+1:Nat):Int) - 1=(i:Int):=by omega
   rw[ek];generalize hR:Rk a b (i+1)=R at*;have HR:Hid (Rk a b (i+1)=R):=hR;generalize hQ:Qk a b (i+1)=Q at*;have HQ:Hid (Qk a b (i+1)=Q):=hQ;clear hR hQ;obtain⟨r0,r1,r2,r3⟩:=zb hrr;go_wp2_with fail
   refine(YJ R R _).mono ?_;rintro e w1 ⟨s,c,HS,HC,rfl,hb1⟩;replace hra:=zf hra hb1;replace hrb:=zf hrb hb1;replace hrq:=zf hrq hb1;replace hrr:=zf hrr hb1;replace hbel:=zD hbel hb1;clear hb1 r0 r1 r2 r3;obtain⟨bit,HBT⟩:∃bit,Hid (bit=Yg a i):=⟨_,rfl⟩;obtain⟨d,HD⟩:∃d,Hid (d=2*R+bit):=⟨_,rfl⟩;have hbl:bit<=1:=by rw[HBT.out];exact zeo a i
   have e0:bits .or .u64 (za s 0) (bit:Int)=za d 0:=by rw[HD.out,HS.out];exact twice0 R _ hbl
   have e1:za s 1=za d 1:=by rw[HD.out,HS.out];exact zef R _ 1 hbl (by omega) (by omega)
   have e2:za s 2=za d 2:=by rw[HD.out,HS.out];exact zef R _ 2 hbl (by omega) (by omega)
   have e3:za s 3=za d 3:=by rw[HD.out,HS.out];exact zef R _ 3 hbl (by omega) (by omega)
   obtain⟨b0,b1,b2,b3⟩:=zb hrb;have z1:=hrb.lt;go_wp2
   go_region_with (go_at_call 170;refine(ziO a 8 i w.heap.size 224 _ (by omega) (by omega) ?_).mono ?_;exact(hra.alloc _);rintro e w' ⟨rfl,rfl⟩;rw[<-HBT.out])
   all_goals
    go_wp2_with fail
    refine(zaP d b _).mono ?_;rintro e w2 ⟨r,c2,HSB,HC2,rfl,hb2⟩;have hrt:=zf (zh (n:=w1.heap.size) (za d) rfl rfl rfl rfl rfl).drew hb2;have hra2:=zf (hra.alloc _).drew hb2;have hrb2:=zf (hrb.alloc _).drew hb2;have hrq2:=zf (hrq.alloc _).drew hb2;have hrr2:=zf (hrr.alloc _).drew hb2;have hbel2:=zD (bal hbel _).drew hb2;have z5:w.heap.size+1+1+1<w1.heap.size:=hrr.lt;clear hb2 hra hrb hrq hrr hbel e0 e1 e2 e3 b0 b1 b2 b3 z1;have hob:=zis R b bit hbl (by rw[<-HR.out];exact Rk_lt a b _ HB0.out) HB.out;rw[<-HD.out,<-HC.out,<-HC2.out] at hob;have HOB:Hid (((c:Int)==0&&(c2:Int)==1)=decide (d<b)):=hob;clear hob;have HD':Hid (d=2*R+Yg a i):=by rw[<-HBT.out];exact HD
    obtain⟨t0,t1,t2,t3⟩:=zb hrt;obtain⟨x0,x1,x2,x3⟩:=zb hrr2;have fr:=hrr2.frozen;have z2:=hrt.lt;have z3:=hrr2.lt;have z4:=hrq2.lt;by_cases hlt:d<b
    ·have g1:((c:Int)==0)=true:=by have:=HOB.out;simp[hlt] at this;simp[this]
     have g2:((c2:Int)==1)=true:=by have:=HOB.out;simp[hlt] at this;simp[this]
     go_wp2
     go_roundw
     case rel=>
      clear t0 t1 t2 t3 x0 x1 x2 x3 fr g1 g2;exact zeV (by omega) ((zE hra2 (by omega) _ _ _ _).alloc _) ((zE hrb2 (by omega) _ _ _ _).alloc _) ((zE hrq2 (by omega) _ _ _ _).alloc _) ((zm hrr2 (za d) rfl rfl rfl rfl).alloc _) (bal (zn hbel2 (by omega) _ _ _ _) _) (by rw[<-HQ.out];exact div_lo' HB0.out HD'.out HR.out hlt)
     case measure=>simp[intOf]
    ·have cq:=hrq2.cell (i:=i/64) (by omega);have fq:=hrq2.frozen (i/64);simp only[zj] at cq;cases ho:((c:Int)==0)
     ·go_wp2
      go_region
      go_wp2
      go_roundw
      case rel=>
       clear t0 t1 t2 t3 x0 x1 x2 x3 fr cq fq;exact zeV (by omega) (((zE hra2 (by omega) _ _ _ _).setOther (by simp;omega) _).alloc _).drew (((zE hrb2 (by omega) _ _ _ _).setOther (by simp) _).alloc _).drew ((zdM (zE hrq2 (by omega) _ _ _ _) (by rw[<-HQ.out];exact zmS a b (i+1))).alloc _).drew (((zm hrr2 (za (d - b)) (by rw[HSB.out];exact ZS d b 0 HB.out hlt (by omega)) (by rw[HSB.out];exact ZS d b 1 HB.out hlt (by omega)) (by rw[HSB.out];exact ZS d b 2 HB.out hlt (by omega)) (by rw[HSB.out];exact ZS d b 3 HB.out hlt (by omega))).setOther (by simp) _).alloc _).drew (bal ((zn hbel2 (by omega) _ _ _ _).setCell (by simp;omega) _) _).drew (by rw[<-HQ.out];exact zjk HB0.out HD'.out HR.out hlt)
      case measure=>simp[intOf]
     ·have g2:((c2:Int)==1)=false:=by have:=HOB.out;rw[ho] at this;simpa[hlt] using this
      go_wp2
      go_region
      go_wp2
      go_roundw
      case rel=>
       clear t0 t1 t2 t3 x0 x1 x2 x3 fr cq fq;exact zeV (by omega) (((zE hra2 (by omega) _ _ _ _).setOther (by simp;omega) _).alloc _).drew (((zE hrb2 (by omega) _ _ _ _).setOther (by simp) _).alloc _).drew ((zdM (zE hrq2 (by omega) _ _ _ _) (by rw[<-HQ.out];exact zmS a b (i+1))).alloc _).drew (((zm hrr2 (za (d - b)) (by rw[HSB.out];exact ZS d b 0 HB.out hlt (by omega)) (by rw[HSB.out];exact ZS d b 1 HB.out hlt (by omega)) (by rw[HSB.out];exact ZS d b 2 HB.out hlt (by omega)) (by rw[HSB.out];exact ZS d b 3 HB.out hlt (by omega))).setOther (by simp) _).alloc _).drew (bal ((zn hbel2 (by omega) _ _ _ _).setCell (by simp;omega) _) _).drew (by rw[<-HQ.out];exact zjk HB0.out HD'.out HR.out hlt)
      case measure=>simp[intOf]
theorem za9 (n i:Nat) (hi:i<4):za (n%M) i=za n i:=by
 unfold za M;rcases k4 hi with rfl|rfl|rfl|rfl<;>simp only[pw0,pw1,pw2,pw3]<;>omega
theorem zaH (n:Nat):wv (n%M)=wv n:=by
 unfold wv;rw[za9 n 0 (by omega),za9 n 1 (by omega),za9 n 2 (by omega),za9 n 3 (by omega)]
theorem yA {m n:Nat} (h:m%M=n%M):wv m=wv n:=by rw[<-zaH m,<-zaH n,h]
def fadd (a b:Nat):Nat:=(a+b)%M
def zds (a b:Nat):Nat:=(a+(M - b))%M
def zby (a b:Nat):Nat:=a*b%M
def zdm (a b:Nat):Nat:=a/b
def YC (a b:Nat):Nat:=if b=0 then 0 else a%b
def zeu (a:Nat):Nat:=(M - a)%M
def ZL (a:Nat):Nat:=if neg a then zeu a else a
def zdQ (a b:Nat):Nat:=if neg a !=neg b then zeu (zdm (ZL a) (ZL b)) else zdm (ZL a) (ZL b)
def zdP (a b:Nat):Nat:=if neg a then zeu (YC (ZL a) (ZL b)) else YC (ZL a) (ZL b)
def ziR (a b c:Nat):Nat:=YC (a+b) c
def ziM (a b c:Nat):Nat:=YC (a*b) c
def zfo (a b:Nat):Nat:=a^b%M
def zcd (a:Nat):Nat:=M - 1 - a
def zal (a b:Nat):Nat:=if a<256 then b*2^a%M else 0
def zbO (a b:Nat):Nat:=if a<256 then b/2^a else 0
def zgc (a b:Nat):Nat:=if neg b then zcd (zbO a (zcd b)) else zbO a b
def zdy (a b:Nat):Nat:=if a<31 then zgc (248 - 8*a) (zal (248 - 8*a) b) else b
def zdS (a b:Nat):Nat:=if a<32 then zbO (8*(31 - a)) b%256 else 0
def zcx (a b:Nat):Bool:=if neg a !=neg b then neg a else decide (a<b)
def zay (h:Bool):Nat:=if h then 1 else 0
theorem Z4:0<M:=by unfold M;omega
theorem fneg_lt (a:Nat):zeu a<M:=Nat.mod_lt _ Z4
theorem zjc (a b:Nat) (ha:a<M):zdm a b<M:=Nat.lt_of_le_of_lt (Nat.div_le_self _ _) ha
theorem fmod_lt (a b:Nat) (hb:b<M):YC a b<M:=by
 unfold YC;split
 ·exact Z4
 ·exact Nat.lt_trans (Nat.mod_lt _ (by omega)) hb
theorem zbV (a:Nat) (ha:a<M):ZL a<M:=by unfold ZL;split;exact fneg_lt a;exact ha
theorem fexp_lt (a b:Nat):zfo a b<M:=Nat.mod_lt _ Z4
theorem zi4 (a:Nat):zcd a<M:=by unfold zcd M;omega
theorem fshl_lt (a b:Nat):zal a b<M:=by unfold zal;split;exact Nat.mod_lt _ Z4;exact Z4
theorem fshr_lt (a b:Nat) (hb:b<M):zbO a b<M:=by
 unfold zbO;split
 ·exact Nat.lt_of_le_of_lt (Nat.div_le_self _ _) hb
 ·exact Z4
theorem shlw_eq (a b:Nat) (ha:a<M):zfm a b%M=zal a b:=by
 unfold zfm zal;rw[Nat.mod_eq_of_lt ha];split;rfl;rfl
theorem shrw_eq (a b:Nat) (ha:a<M):zfc a b=zbO a b:=by
 unfold zfc zbO;rw[Nat.mod_eq_of_lt ha]
theorem zi0:M=2^256:=rfl
end cin
end Go.Proofs.YtohoajjdoihekaaGreatDoor
