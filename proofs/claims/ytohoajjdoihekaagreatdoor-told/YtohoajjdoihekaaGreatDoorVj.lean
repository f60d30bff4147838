import Derived.Test.YtohoajjdoihekaaGreatDoorHu
import Derived.Maps.Views
set_option linter.unusedVariables false
set_option linter.unusedSimpArgs false
namespace Go.Proofs.YtohoajjdoihekaaGreatDoor
namespace cin
open Go.RowKit Go.Proofs.Tryz Tryz
set_option maxRecDepth 100000
set_option maxHeartbeats 8000000
section
open Go.RowKit Go.Lib Go.Maps Go.WideMaps
theorem und_s:prog.underlying 9=some .string:=by kernel_rfl
theorem zi3:prog.underlying 3=some (.int .i64):=by kernel_rfl
theorem und_m:prog.underlying 118=some (.map 9 3):=by kernel_rfl
theorem lawS:Keyed prog 9:=string_keyed und_s
theorem zeroI (w:World):(zeroValue 3).run prog w=.ok (.int .i64 0) w:=by kernel_rfl
def kS (t:ByteArray):Lit:=.string t.data.toList
theorem kS_inj {a b:ByteArray} (h:kS a=kS b):a=b:=zd6 (by unfold kS at h;injection h)
theorem keyS (t:ByteArray) (h:t.size<=2000):keyOf prog 9 (.string t)=some (kS t):=keyOf_string_mk und_s (by unfold maxLen;omega)
def MapL (x:World) (b n:Nat) (f:ByteArray->Option Nat):Prop:=∃D:DataW Unit,x.ownsMap prog 9 (plainElem prog 3) b n D/\
 ∀t:ByteArray,Maps.has D (kS t)=(f t).isSome/\D.atKey (kS t) (.lit (.int .i64 0))=.lit (.int .i64 (((f t).getD 0:Nat):Int))
theorem MapL.made (w:World):MapL (w.alloc (.map #[] 0)) w.heap.size 0 (fun _=>none):=⟨.map [],World.ownsMap_made _ _ _ _,fun t=>⟨rfl,rfl⟩⟩
theorem MapL.below {x y:World} {b n:Nat} {f:ByteArray->Option Nat} (h:MapL x b n f) (hb:Below x.heap.size x y):MapL y b n f:=by
 obtain⟨D,h1,h2⟩:=h;have hlt:=h1.lt;obtain⟨es,clock,hbk,F,hs,hD⟩:=h1;exact⟨D,⟨es,clock,(hb.block b hlt).trans hbk,F,hs,hD⟩,h2⟩
theorem MapL.congr {x:World} {b n:Nat} {f g:ByteArray->Option Nat} (h:MapL x b n f) (e:∀t,f t=g t):MapL x b n g:=by
 obtain⟨D,h1,h2⟩:=h;exact⟨D,h1,fun t=>by rw[<-e];exact h2 t⟩
theorem MapL.mono {x:World} {b n m:Nat} {f:ByteArray->Option Nat} (h:MapL x b n f) (hn:n<=m):MapL x b m f:=by
 obtain⟨D,h1,h2⟩:=h;exact⟨D,h1.mono hn,h2⟩
theorem MapL.look2 {x:World} {b n:Nat} {f:ByteArray->Option Nat} (h:MapL x b n f) (t:ByteArray) (ht:t.size<=2000):
  (Instr.lookup 118 (.map (some b)) (.string t) true).run prog x=.ok (.tuple #[.int .i64 (((f t).getD 0:Nat):Int),.bool (f t).isSome]) x:=by
 obtain⟨D,h1,h2⟩:=h;obtain⟨v,ps,hrun,hv⟩:=h1.look_ok (t:=118) (e:=3) lawS und_m (zeroI _) (plainElem_int (q:=.i64) zi3 (by decide)) (keyS t ht);obtain⟨c,rfl,hc,_⟩:=plainElem_int_inv (q:=.i64) zi3 hv;rw[(h2 t).2] at hc;have h5:=(Lit.int.inj (DataW.lit.inj (Prod.mk.inj hc).1)).2;rw[<-h5,(h2 t).1] at hrun;exact hrun
theorem MapL.look1 {x:World} {b n:Nat} {f:ByteArray->Option Nat} (h:MapL x b n f) (t:ByteArray) (ht:t.size<=2000):
  (Instr.lookup 118 (.map (some b)) (.string t) false).run prog x=.ok (.int .i64 (((f t).getD 0:Nat):Int)) x:=by
 obtain⟨D,h1,h2⟩:=h;obtain⟨c,hrun,hc,_⟩:=h1.lookup_int (t:=118) (e:=3) (q:=.i64) lawS und_m zi3 (zeroI _) (keyS t ht);rw[(h2 t).2] at hc;have h5:=(Lit.int.inj (DataW.lit.inj hc)).2;rw[<-h5] at hrun;exact hrun
theorem MapL.put {x:World} {b n:Nat} {f:ByteArray->Option Nat} {D:DataW Unit} (h1:IsMap D) (h2:∀t:ByteArray,Maps.has D (kS t)=(f t).isSome/\D.atKey (kS t) (.lit (.int .i64 0))=.lit (.int .i64 (((f t).getD 0:Nat):Int)))
  (t:ByteArray) (p:Nat) (ho:x.ownsMap prog 9 (plainElem prog 3) b (n+1) (D.put (kS t) (.lit (.int .i64 (p:Int))))):MapL x b (n+1) (fun u=>if u=t then some p else f u):=by
 refine⟨_,ho,fun u=> ?_⟩;show has _ (kS u)=(if u=t then some p else f u).isSome/\DataW.atKey _ (kS u) _=.lit (.int .i64 (((if u=t then some p else f u).getD 0:Nat):Int));by_cases e:u=t
 ·subst e;rw[if_pos rfl];exact⟨has_put_same h1 (k:=kS u) (show WideAt.IsKeyLit (kS u) from trivial) _,atKey_put_same h1 (k:=kS u) (show WideAt.IsKeyLit (kS u) from trivial) _ _⟩
 ·have hne:kS u≠kS t:=fun h=>e (kS_inj h)
  rw[if_neg e,has_put_other hne,atKey_put_other hne];exact h2 u
theorem zl2 (t:ByteArray) (l:List Ri) (y:Ri):lkp t (l++[y])=if (lkp t l).isSome then lkp t l else if y.i.k=1/\y.i.nm=t then some y.p else none:=by
 induction l with
 |nil=>rfl
 |cons x r ih=>
  show(if x.i.k=1/\x.i.nm=t then some x.p else lkp t (r++[y]))=_;rw[lkp];by_cases h:x.i.k=1/\x.i.nm=t
  ·rw[if_pos h,if_pos h];rfl
  ·rw[if_neg h,if_neg h,ih]
end
section
open Go.RowKit Go.Lib Go.Maps
def Okl (l:List (Ri×Value)):Prop:=l.length<=2001/\∀y∈l,y.1.i.nm.size<=2000/\y.1.p<=100000/\y.1.i.k<=2/\y.1.i.fl<=4/\y.1.i.cd.length<=33/\(y.1.i.k=2->y.1.i.cd=[97,0,0])
def lkT (l:List (Ri×Value)) (j:Nat) (t:ByteArray):Option Nat:=lkp t ((l.take j).map Prod.fst)
theorem zcY {l:List (Ri×Value)} {j:Nat} {y:Ri×Value} (hj:j<l.length) (hy:y=l[j]) (t:ByteArray):lkT l (j+1) t=if (lkT l j t).isSome then lkT l j t else if y.1.i.k=1/\y.1.i.nm=t then some y.1.p else none:=by
 unfold lkT;rw[List.take_succ_eq_append_getElem hj,List.map_append,<-hy];exact zl2 t _ y.1
theorem lkT_no {l:List (Ri×Value)} {j:Nat} {y:Ri×Value} (hj:j<l.length) (hy:y=l[j]) (h:y.1.i.k≠1) (t:ByteArray):lkT l j t=lkT l (j+1) t:=by
 rw[zcY hj hy];rw[if_neg (fun e=>h e.1:¬(y.1.i.k=1/\y.1.i.nm=t))];cases lkT l j t<;>rfl
theorem zjD {l:List (Ri×Value)} {j:Nat} {y:Ri×Value} (hj:j<l.length) (hy:y=l[j]) (h:(lkT l j y.1.i.nm).isSome=true) (t:ByteArray):lkT l j t=lkT l (j+1) t:=by
 rw[zcY hj hy];by_cases e:y.1.i.nm=t
 ·rw[<-e,h];rfl
 ·rw[if_neg (fun c=>e c.2:¬(y.1.i.k=1/\y.1.i.nm=t))];cases lkT l j t<;>rfl
theorem lkT_new {l:List (Ri×Value)} {j:Nat} {y:Ri×Value} (hj:j<l.length) (hy:y=l[j]) (hk:y.1.i.k=1) (h:(lkT l j y.1.i.nm).isSome=false) (t:ByteArray):(if t=y.1.i.nm then some y.1.p else lkT l j t)=lkT l (j+1) t:=by
 rw[zcY hj hy];by_cases e:t=y.1.i.nm
 ·rw[if_pos e,e,h,if_neg (by decide),if_pos ⟨hk,rfl⟩]
 ·rw[if_neg e,if_neg (fun c=>e c.2.symm:¬(y.1.i.k=1/\y.1.i.nm=t))];cases lkT l j t<;>rfl
theorem zc1 {base g cap:Nat} {l:List (Ri×Value)} {x:World} (h:IR base l (.slice (some ⟨g,0,none⟩) l.length cap) x) {j:Nat} (hj:j<l.length) {y:Ri×Value} (hy:y=l[j]):
  x.cell? ⟨g,j*6,none⟩=some (.int .i64 (y.1.i.k:Int))/\x.cell? ⟨g,j*6+1,none⟩=some (.string y.1.i.nm)/\x.cell? ⟨g,j*6+2,none⟩=some y.2/\x.cell? ⟨g,j*6+3,none⟩=some (.int .i64 (y.1.i.fl:Int))/\x.cell? ⟨g,j*6+4,none⟩=some (.int .i64 (y.1.a:Int))/\x.cell? ⟨g,j*6+5,none⟩=some (.int .i64 (y.1.p:Int)):=by
 have hc:=zjB l j hj;rw[<-hy] at hc;exact⟨(h.ow.cellAt (j*6) (by omega)).trans hc.1,(h.ow.cellAt (j*6+1) (by omega)).trans hc.2.1,(h.ow.cellAt (j*6+2) (by omega)).trans hc.2.2.1,(h.ow.cellAt (j*6+3) (by omega)).trans hc.2.2.2.1,(h.ow.cellAt (j*6+4) (by omega)).trans hc.2.2.2.2.1,(h.ow.cellAt (j*6+5) (by omega)).trans hc.2.2.2.2.2⟩
theorem zbQ (l:List (Ri×Value)) (base:Nat) (v:Value) (hl:Hid (Okl l)) (w:World) (ho:IR base l v w):Calls prog 52 #[v] w fun e w'=>e=.returned (.map (some w.heap.size))/\MapL w' w.heap.size l.length (fun t=>lkp t (l.map Prod.fst))/\Below w.heap.size w w':=by
 have hmm:=@run_makeMap prog;have hll:=hl.out.1;have HE:Hid (∀t,lkT l l.length t=lkp t (l.map Prod.fst)):=fun t=>by unfold lkT;rw[List.take_length]
 rcases ho.ow.2 with⟨rfl,hn⟩|⟨g,cap,cur,rfl,_⟩
 ·have HN:Hid (MapL (w.alloc (.map #[] 0)) w.heap.size l.length (fun t=>lkp t (l.map Prod.fst))):=((MapL.made w).mono (by omega)).congr fun t=>by rw[List.length_eq_zero_iff.1 hn];rfl
  have HBE:=ze (bal (Below.refl _ w) (.map #[] 0));go_enter func52,ntmps52;go_wp2
  go_loopw [11] (fun t11 wr=>t11=.int .i64 0/\Hid (wr=w.alloc (.map #[] 0))) (fun _ _=>0)
  case atStart=>exact⟨rfl,rfl⟩
  case round=>
   obtain⟨rfl,HW⟩:=hrel;go_wp2;go_ret;exact⟨rfl,by rw[HW.out];exact HN.out,by rw[HW.out];exact HBE.out⟩
 ·have HO:=ze ho;clear ho;go_enter func52,ntmps52;go_wp2
  go_loopw [11] (fun t11 wr=>∃j:Nat,t11=.int .i64 (j:Int)/\j<=l.length/\MapL wr w.heap.size j (lkT l j)/\Below w.heap.size w wr) (fun t11 _=>l.length - (RowKit.intOf t11).toNat)
  case atStart=>exact⟨0,rfl,by omega,MapL.made w,bal (Below.refl _ _) _⟩
  case round=>
   obtain⟨j,rfl,hj,hml,hbe⟩:=hrel;by_cases hlt:j<l.length
   ·obtain⟨y,HY⟩:∃y:Ri×Value,Hid (y=l[j]):=⟨l[j],ze rfl⟩;have hmem:y∈l:=by rw[HY.out];exact List.getElem_mem hlt
    have hir:=HO.out.call hbe;obtain⟨c0,c1,c2,c3,c4,c5⟩:=zc1 hir hlt HY.out;obtain⟨ad,cp,hsh⟩:=ZN (hir.cd y hmem);obtain⟨o1,o2,o3,o4,o5,o6⟩:=hl.out.2 y hmem;rw[hsh] at c2;have HML:=ze hml;have HBE:=ze hbe;have HWF:Hid ((Lit.int .i64 (y.1.p:Int)).wf=true):=WalkArith.wf_i64 (by omega);generalize y.1.i.cd.length=cl at*;by_cases hk:y.1.i.k=1
    ·have hd:((y.1.i.k:Int) !=1)=false:=by rw[hk];rfl
     have hlk:=(hml.below (bal (Below.refl _ wr) (.cells #[.int .i64 (y.1.i.k:Int),.string y.1.i.nm,.slice ad cl cp,.int .i64 (y.1.i.fl:Int),.int .i64 (y.1.a:Int),.int .i64 (y.1.p:Int)] 122))).look2 y.1.i.nm o1;cases hq:(lkT l j y.1.i.nm).isSome
     ·obtain⟨D,hD1,hD2⟩:=hml.below (bal (Below.refl _ wr) (.cells #[.int .i64 (y.1.i.k:Int),.string y.1.i.nm,.slice ad cl cp,.int .i64 (y.1.i.fl:Int),.int .i64 (y.1.a:Int),.int .i64 (y.1.p:Int)] 122));have HD:=ze (And.intro hD1 hD2);have HNEW:=ze (lkT_new hlt HY.out hk hq);rw[hq] at hlk;clear hD1 hD2 hml hbe hir hsh hq hk;have hlt2:=HML.out;go_wp2_with (first|(at_mapUpdate;refine wpList_mapUpdate_own _ rfl _ _ _ 118 rfl 9 3 lawS und_m _ w.heap.size j _ rfl HD.out.1 (by unfold maxLen;omega) _ _ _ rfl rfl (keyS y.1.i.nm o1) _ [] (plainElem_int zi3 HWF.out) ?_;intro w4 ho4 hgr;have HO4:=ze ho4;have HGR:=ze hgr;clear ho4 hgr))
      go_roundw
      case rel=>exact⟨j+1,by go_num,by omega,(MapL.put HD.out.1.isMap HD.out.2 y.1.i.nm y.1.p HO4.out).congr HNEW.out,(bal HBE.out _).grown HGR.out (by have:=HBE.out.size;simp;omega) (fun k hk=>by cases hk;exact Nat.le_refl _)⟩
      case measure=>simp[RowKit.intOf];omega
     ·have HTH:=ze (zjD hlt HY.out hq);rw[hq] at hlk;clear hml hbe hir hsh hq hk;go_wp2
      go_roundw
      case rel=>exact⟨j+1,by go_num,by omega,((HML.out.below (bal (Below.refl _ _) _)).mono (by omega)).congr HTH.out,bal HBE.out _⟩
      case measure=>simp[RowKit.intOf];omega
    ·have hd:((y.1.i.k:Int) !=1)=true:=by simp;omega
     have HNO:=ze (lkT_no hlt HY.out hk);clear hml hbe hir hsh hk;go_wp2
     go_roundw
     case rel=>exact⟨j+1,by go_num,by omega,((HML.out.below (bal (Below.refl _ _) _)).mono (by omega)).congr HNO.out,bal HBE.out _⟩
     case measure=>simp[RowKit.intOf];omega
   ·have hje:j=l.length:=by omega
    subst hje;go_wp2;go_ret;exact⟨rfl,hml.congr HE.out,hbe⟩
end
section
open Go.RowKit Go.Lib Go.Maps
def Oky (y:Ri):Prop:=y.i.nm.size<=2000/\y.p<=100000/\y.i.k<=2/\y.i.fl<=4/\y.i.cd.length<=33/\(y.i.k=2->y.i.cd=[97,0,0])
def itY (y:Ri) (v:Value):Value:=.agg #[.int .i64 (y.i.k:Int),.string y.i.nm,v,.int .i64 (y.i.fl:Int),.int .i64 (y.a:Int),.int .i64 (y.p:Int)]
theorem zc4 (y:Ri) (ad:Option Addr) (cl cp:Nat) (f:ByteArray->Option Nat) (b n:Nat) (hy:Hid (Oky y)) (hs:Hid (y.i.k=1->(f y.i.nm).isSome=true)) (w:World) (hm:MapL w b n f):
  Calls prog 53 #[itY y (.slice ad cl cp),.map (some b)] w fun e w'=>e=.returned (.int .i64 (flt f y:Int))/\Below w.heap.size w w':=by
 obtain⟨o1,o2,o3,o4,o5,o6⟩:=hy.out;have hlk:=(hm.below (bal (Below.refl _ w) (.cells #[.int .i64 (y.i.k:Int),.string y.i.nm,.slice ad cl cp,.int .i64 (y.i.fl:Int),.int .i64 (y.a:Int),.int .i64 (y.p:Int)] 122))).look2 y.i.nm o1;have HBE:=ze (bal (Below.refl _ w) (.cells #[.int .i64 (y.i.k:Int),.string y.i.nm,.slice ad cl cp,.int .i64 (y.i.fl:Int),.int .i64 (y.a:Int),.int .i64 (y.p:Int)] 122));unfold itY;clear hm o6 o5;by_cases h1:y.i.fl=0
 ·have d1:((y.i.fl:Int) !=0)=false:=by rw[h1];rfl
  by_cases h2:y.i.k=1
  ·obtain⟨q,hq⟩:∃q,f y.i.nm=some q:=Option.isSome_iff_exists.1 (hs.out h2);rw[hq] at hlk;by_cases h3:q=y.p
   ·have HR:Hid (flt f y=0):=by show _=_;unfold flt;rw[if_neg (by omega),if_neg (by rw[hq,h3];exact fun h=>h.2 rfl),if_neg (by omega)]
    have d2:((y.i.k:Int)==1)=true:=by rw[h2];rfl
    have d3:((q:Int) !=(y.p:Int))=false:=by simp;omega
    have d4:((y.i.k:Int)==2)=false:=by simp;omega
    clear h1 h2 h3 hs hq;go_enter func53,ntmps53;go_wp2;go_ret;exact⟨by rw[HR.out];rfl,HBE.out⟩
   ·have HR:Hid (flt f y=3):=by show _=_;unfold flt;rw[if_neg (by omega),if_pos ⟨h2,by rw[hq];exact fun e=>h3 (Option.some.inj e)⟩]
    have d2:((y.i.k:Int)==1)=true:=by rw[h2];rfl
    have d3:((q:Int) !=(y.p:Int))=true:=by simp;omega
    clear h1 h2 h3 hs hq;go_enter func53,ntmps53;go_wp2;go_ret;exact⟨by rw[HR.out];rfl,HBE.out⟩
  ·have d2:((y.i.k:Int)==1)=false:=by simp;omega
   by_cases h4:y.i.k=2
   ·have d4:((y.i.k:Int)==2)=true:=by rw[h4];rfl
    cases hq:f y.i.nm with
    |none=>
     have HR:Hid (flt f y=3):=by show _=_;unfold flt;rw[if_neg (by omega),if_neg (by omega),if_pos ⟨h4,hq⟩]
     rw[hq] at hlk;clear h1 h2 h4 hs hq;go_enter func53,ntmps53;go_wp2;go_ret;exact⟨by rw[HR.out];rfl,HBE.out⟩
    |some q=>
     have HR:Hid (flt f y=0):=by show _=_;unfold flt;rw[if_neg (by omega),if_neg (by omega),if_neg (by rw[hq];exact fun h=>by cases h.2)]
     rw[hq] at hlk;clear h1 h2 h4 hs hq;go_enter func53,ntmps53;go_wp2;go_ret;exact⟨by rw[HR.out];rfl,HBE.out⟩
   ·have d4:((y.i.k:Int)==2)=false:=by simp;omega
    have HR:Hid (flt f y=0):=by show _=_;unfold flt;rw[if_neg (by omega),if_neg (by omega),if_neg (by omega)]
    clear h1 h2 h4 hs;go_enter func53,ntmps53;go_wp2;go_ret;exact⟨by rw[HR.out];rfl,HBE.out⟩
 ·have d1:((y.i.fl:Int) !=0)=true:=by simp;omega
  have HR:Hid (flt f y=y.i.fl):=by show _=_;unfold flt;rw[if_pos h1]
  clear h1 hs;go_enter func53,ntmps53;go_wp2;go_ret;exact⟨by rw[HR.out];rfl,HBE.out⟩
theorem zlE {n:Nat} {z:Int} (h:z=((n%256:Nat):Int)):u8v (UInt8.ofNat n)=.int .u8 z:=by
 subst h;unfold u8v;rw[UInt8.toNat_ofNat']
theorem zeK (y:Ri) (ad:Option Addr) (cl cp:Nat) (f:ByteArray->Option Nat) (b n base:Nat) (hy:Hid (Oky y)) (hf:Hid (∀q,f y.i.nm=some q->q<=100000)) (w:World) (hm:MapL w b n f) (hb:Bys w base (.slice ad cl cp) y.i.cd) (hba:base<=w.heap.size):
  Calls prog 54 #[itY y (.slice ad cl cp),.map (some b)] w fun e w'=>∃v,e=.returned v/\Bys w' base v (cwt f y)/\Below w.heap.size w w':=by
 obtain⟨o1,o2,o3,o4,o5,o6⟩:=hy.out;have hlk:=(hm.below (bal (Below.refl _ w) (.cells #[.int .i64 (y.i.k:Int),.string y.i.nm,.slice ad cl cp,.int .i64 (y.i.fl:Int),.int .i64 (y.a:Int),.int .i64 (y.p:Int)] 122))).look1 y.i.nm o1;have HBE:=ze (bal (Below.refl _ w) (.cells #[.int .i64 (y.i.k:Int),.string y.i.nm,.slice ad cl cp,.int .i64 (y.i.fl:Int),.int .i64 (y.a:Int),.int .i64 (y.p:Int)] 122));have HBY:=ze (hb.alloc (.cells #[.int .i64 (y.i.k:Int),.string y.i.nm,.slice ad cl cp,.int .i64 (y.i.fl:Int),.int .i64 (y.a:Int),.int .i64 (y.p:Int)] 122));unfold itY;by_cases h2:y.i.k=2
 ·have hcd:=o6 h2;have d:((y.i.k:Int) !=2)=false:=by rw[h2];rfl
  obtain⟨q,HQ⟩:∃q,Hid (q=(f y.i.nm).getD 0):=⟨_,rfl⟩
  have hq:q<=100000:=by
   rw[HQ.out];cases h:f y.i.nm with
   |none=>show 0<=_;omega
   |some r=>exact hf.out r h
  have HR:Hid (cwt f y=[97,UInt8.ofNat (q/256),UInt8.ofNat (q%256)]):=by show _=_;unfold cwt;rw[if_pos h2,<-HQ.out]
  rw[<-HQ.out] at hlk;rw[hcd] at HBY;obtain⟨g,cap,e1,e2,e3,e4⟩:=zB HBY.out (by decide);injection e1 with e5 e6 e7
  subst e5 e7;obtain rfl:cl=3:=e6;have hc:=World.ownsRow.cellAt HBY.out 0 (by decide);have hc1:_=some (Value.int .u8 97):=hc;clear hc h2 hcd hm hb o6 HQ hf HBY;go_enter func54,ntmps54;go_wp2;go_ret;refine⟨_,rfl, ?_,bal HBE.out _⟩;rw[HR.out];have h:=zb6 (w.alloc (.cells #[.int .i64 (y.i.k:Int),.string y.i.nm,.slice (some ⟨g,0,none⟩) 3 cp,.int .i64 (y.i.fl:Int),.int .i64 (y.a:Int),.int .i64 (y.p:Int)] 122)) base (by simp;omega) [97,UInt8.ofNat (q/256),UInt8.ofNat (q%256)] (by show 3<=40;omega);have x1:u8v (UInt8.ofNat (q/256))=.int .u8 ((q:Int)/256%256):=zlE (by omega);have x2:u8v (UInt8.ofNat (q%256))=.int .u8 ((q:Int)%256):=zlE (by omega);simp only[List.map_cons,List.map_nil] at h;rw[x1,x2,show u8v 97=.int .u8 97 from rfl] at h;simpa using h
 ·have d:((y.i.k:Int) !=2)=true:=by simp;omega
  have HR:Hid (cwt f y=y.i.cd):=by show _=_;unfold cwt;rw[if_neg h2]
  clear h2 hm hb o6;go_enter func54,ntmps54;go_wp2;go_ret;exact⟨_,rfl,by rw[HR.out];exact HBY.out,HBE.out⟩
end
theorem cutS_le (s p:ByteArray):(zaD s p).size<=s.size:=by
 unfold zaD;split
 ·rw[ByteArray.size_extract];omega
 ·exact Nat.le_refl _
theorem cutP_le (s p:ByteArray):(Z5 s p).size<=s.size:=by
 unfold Z5;split
 ·rw[ByteArray.size_extract];omega
 ·exact Nat.le_refl _
theorem itN_ok (t:ByteArray):(itN t).nm.size=0/\(itN t).k=0/\(itN t).fl<=4/\((itN t).fl=0->(itN t).cd≠[]):=by
 unfold itN;split
 ·exact⟨rfl,rfl,by show 0<=4;omega,fun _ h=>by cases h⟩
 ·split
  ·exact⟨rfl,rfl,by show 2<=4;omega,fun h=>by cases h⟩
  ·split
   ·exact⟨rfl,rfl,by show 4<=4;omega,fun h=>by cases h⟩
   ·exact⟨rfl,rfl,by show 0<=4;omega,fun _ h=>by unfold zo pcs at h;cases h⟩
theorem itm_ok (t:ByteArray) (ht:t.size<=2000):(itm t).nm.size<=2000/\(itm t).k<=2/\(itm t).fl<=4/\((itm t).k=2->(itm t).cd=[97,0,0])/\((itm t).fl=0->(itm t).cd≠[]):=by
 have h1:=cutS_le t col;have h2:=cutP_le t att;unfold itm;split
 ·exact⟨by show(zaD t col).size<=_;omega,by show 1<=2;omega,by show 0<=4;omega,fun h=>(by cases h),fun _ h=>(by cases h)⟩
 ·split
  ·exact⟨by show(Z5 t att).size<=_;omega,by show 2<=2;omega,by show 0<=4;omega,fun h=>rfl,fun _ h=>(by cases h)⟩
  ·obtain⟨a,b,c,d⟩:=itN_ok t;exact⟨by omega,by omega,c,fun h=>by omega,d⟩
theorem zi1 {y:Ri}:∀(L:List (ByteArray×Nat)) (p:Nat),y∈rit L p->∃x∈L,y.i=itm x.1/\y.a=x.2/\y.p<=p+33*L.length
 |[],p,h=>by cases h
 |x::r,p,h=>by
  have hl:=zeZ x.1;rcases List.mem_cons.1 h with rfl|h
  ·exact⟨x,List.mem_cons_self,rfl,rfl,by show p<=_;omega⟩
  ·obtain⟨z,hz,h1,h2,h3⟩:=zi1 r _ h;exact⟨z,List.mem_cons_of_mem _ hz,h1,h2,by rw[List.length_cons];omega⟩
theorem zgo {t:ByteArray} {q:Nat}:∀{l:List Ri},lkp t l=some q->∃y∈l,y.p=q
 |[],h=>by cases h
 |y::r,h=>by
  rw[lkp] at h;split at h
  ·exact⟨y,List.mem_cons_self,Option.some.inj h⟩
  ·obtain⟨z,hz,h2⟩:=zgo h;exact⟨z,List.mem_cons_of_mem _ hz,h2⟩
theorem zdF {y:Ri}:∀{l:List Ri},y∈l->y.i.k=1->(lkp y.i.nm l).isSome=true
 |[],h,_=>by cases h
 |z::r,h,hk=>by
  rw[lkp];split
  ·rfl
  ·rename_i hn;rcases List.mem_cons.1 h with rfl|h
   ·exact absurd ⟨hk,rfl⟩ hn
   ·exact zdF h hk
theorem rl_ok {s:ByteArray} (hs:s.size<=2000) (hv:Whole s) {y:Ri} (hy:y∈ZM s):Oky y/\(y.i.fl=0->y.i.cd≠[])/\y.a<=2000:=by
 obtain⟨x,hx,h1,h2,h3⟩:=zi1 (spl s) 0 hy;obtain⟨f1,f2,f3,f4⟩:=ziZ hv x hx;have hl:=zfg s;obtain⟨a,b,c,d,e⟩:=itm_ok x.1 (Nat.le_trans f3 hs);have g:=zeZ x.1;rw[<-h1] at a b c d e g;exact⟨⟨a,by omega,b,c,g,d⟩,e,by omega⟩
theorem okl_of {s:ByteArray} (hs:s.size<=2000) (hv:Whole s) {l:List (Ri×Value)} (h:l.map Prod.fst=ZM s):Okl l:=by
 refine⟨?_,fun y hy=> ?_⟩
 ·have h2:=congrArg List.length h;rw[List.length_map] at h2;have h3:=rit_len (spl s) 0;have h4:=zfg s;unfold ZM at h2;omega
 ·have h2:y.1∈ZM s:=by rw[<-h];exact List.mem_map_of_mem hy
  exact(rl_ok hs hv h2).1
theorem labs_le {s:ByteArray} (hs:s.size<=2000) (hv:Whole s) (t:ByteArray) (q:Nat) (h:yu s t=some q):q<=100000:=by
 obtain⟨y,hy,rfl⟩:=zgo h;exact(rl_ok hs hv hy).1.2.1
theorem ziK {f:ByteArray->Option Nat} {y:Ri} (h:Oky y):(cwt f y).length=y.i.cd.length:=by
 unfold cwt;split
 ·rename_i hk;rw[h.2.2.2.2.2 hk];rfl
 ·rfl
theorem zmo {f:ByteArray->Option Nat} {l:List Ri} {j:Nat} {c:List UInt8} {R:List UInt8 ⊕ (Nat×Nat)} {y:Ri} (hj:j<l.length) (hy:y=l[j]) (hf:flt f y=0) (h:rn2 f (l.drop j) c=R):rn2 f (l.drop (j+1)) (c++cwt f y)=R:=by
 rw[List.drop_eq_getElem_cons hj,<-hy,rn2,if_pos hf] at h;exact h
theorem rn2_bad {f:ByteArray->Option Nat} {l:List Ri} {j:Nat} {c:List UInt8} {R:List UInt8 ⊕ (Nat×Nat)} {y:Ri} (hj:j<l.length) (hy:y=l[j]) (hf:flt f y≠0) (h:rn2 f (l.drop j) c=R):R=.inr (flt f y,y.a):=by
 rw[List.drop_eq_getElem_cons hj,<-hy,rn2,if_neg hf] at h;exact h.symm
theorem zlM {s:ByteArray} (h:2000<s.size):asm s=(⟨#[]⟩,2,0):=by unfold asm;rw[if_pos h]
theorem zmX {s:ByteArray} (h:s.size<=2000) (hc:(cnt s).2=false):asm s=(⟨#[]⟩,2,(cnt s).1):=by unfold asm;rw[if_neg (by omega),if_pos hc]
theorem zjt {s:ByteArray} (h:s.size<=2000) (hc:(cnt s).2=true) {e a:Nat} (hr:rn2 (yu s) (ZM s) []=.inr (e,a)):asm s=(⟨#[]⟩,e,a):=by unfold asm;rw[if_neg (by omega),if_neg (by rw[hc];decide),hr]
theorem asm_big {s:ByteArray} (h:s.size<=2000) (hc:(cnt s).2=true) {c:List UInt8} (hr:rn2 (yu s) (ZM s) []=.inl c) (hb:1000<c.length):asm s=(⟨#[]⟩,4,(cnt s).1):=by unfold asm;rw[if_neg (by omega),if_neg (by rw[hc];decide),hr];exact if_pos hb
theorem zmc {s:ByteArray} (h:s.size<=2000) (hc:(cnt s).2=true) {c:List UInt8} (hr:rn2 (yu s) (ZM s) []=.inl c) (hb:¬1000<c.length):asm s=(⟨c.toArray⟩,0,0):=by unfold asm;rw[if_neg (by omega),if_neg (by rw[hc];decide),hr];exact if_neg hb
theorem ziN (s:ByteArray):∀(f p k:Nat),p<=s.size->k<=p->(ZJ s f p k).1<=k+f
 |0,p,k,_,_=>by rw[ZJ];exact Nat.le_refl _
 |f+1,p,k,hp,hk=>by
  rw[ZJ];split
  ·split
   ·show k<=_;omega
   ·rename_i h1 h2;have:=ziN s f (p+nx s p) (k+1) (zch s p h1 h2) (by have:=Nat.pos_of_ne_zero h2;omega);omega
  ·show k<=_;omega
theorem cnt_le (s:ByteArray):(cnt s).1<=s.size:=by have:=ziN s s.size 0 0 (by omega) (by omega);unfold cnt;omega
theorem zj2 (l:List UInt8):bl ⟨l.toArray⟩=l:=rfl
theorem Zt {s:ByteArray} {l:List UInt8} (h:bl s=l):s.size=l.length:=by rw[<-h];rfl
theorem yU {s t:ByteArray} {pre:List UInt8} (h:bl s=pre++bl t) (p:Nat):byt s (pre.length+p)=byt t p:=by
 rw[ZO,ZO,h,List.getD_eq_getElem?_getD,List.getD_eq_getElem?_getD,List.getElem?_append_right (by omega),Nat.add_sub_cancel_left]
theorem zkv (a z i b0 b1 b2 b3:Nat):wid (a+z) (a+i) b0 b1 b2 b3=wid z i b0 b1 b2 b3:=by
 have e1:(a+i+1<a+z)=(i+1<z):=by apply propext;omega
 have e2:(a+i+2<a+z)=(i+2<z):=by apply propext;omega
 have e3:(a+i+3<a+z)=(i+3<z):=by apply propext;omega
 unfold wid dec;simp only[e1,e2,e3]
theorem zgU {s t:ByteArray} {pre:List UInt8} (h:bl s=pre++bl t) (p:Nat):nx s (pre.length+p)=nx t p:=by
 have hz:s.size=pre.length+t.size:=by rw[Zt h,List.length_append];rfl
 rw[Ye,Ye,hz,yU h p,show pre.length+p+1=pre.length+(p+1) by omega,show pre.length+p+2=pre.length+(p+2) by omega,show pre.length+p+3=pre.length+(p+3) by omega,yU h (p+1),yU h (p+2),yU h (p+3),zkv]
theorem zku {s t:ByteArray} {pre:List UInt8} (h:bl s=pre++bl t) (b p:Nat):s.extract (pre.length+b) (pre.length+p)=t.extract b p:=by
 apply zd6;rw[yz,yz,h,List.drop_append,List.drop_of_length_le (by omega),List.nil_append,show pre.length+b - pre.length=b by omega,show pre.length+p - (pre.length+b)=p - b by omega]
theorem zih {s t:ByteArray} {pre:List UInt8} (h:bl s=pre++bl t) (k0:Nat):∀(f p k:Nat) (rm:Bool) (cur:Option (Nat×Nat)),
  ZY s f (pre.length+p) (k0+k) rm (cur.map fun x=>(pre.length+x.1,k0+x.2))=(ZY t f p k rm cur).map fun x=>(x.1,k0+x.2):=by
 have hz:s.size=pre.length+t.size:=by rw[Zt h,List.length_append];rfl
 have hfin:∀p (cur:Option (Nat×Nat)),fin s (pre.length+p) (cur.map fun x=>(pre.length+x.1,k0+x.2))=(fin t p cur).map fun x=>(x.1,k0+x.2):=fun p cur=>by
  cases cur with
  |none=>rfl
  |some x=>show[(s.extract (pre.length+x.1) (pre.length+p),k0+x.2)]=_;rw[zku h];rfl
 intro f
 induction f with
 |zero=>intro p k rm cur;exact hfin p cur
 |succ f ih=>
  intro p k rm cur;rw[ZY,ZY,yU h,zgU h,hz];by_cases hlt:p<t.size
  ·rw[if_pos (by omega),if_pos hlt];by_cases hs:(rm||yW (byt t p))=true
   ·rw[if_pos hs,if_pos hs,List.map_append,hfin,show pre.length+p+nx t p=pre.length+(p+nx t p) by omega,show k0+k+1=k0+(k+1) by omega];congr 1;exact ih (p+nx t p) (k+1) _ none
   ·rw[if_neg hs,if_neg hs,show pre.length+p+nx t p=pre.length+(p+nx t p) by omega,show k0+k+1=k0+(k+1) by omega,<-ih];congr 1;cases cur<;>rfl
  ·rw[if_neg (by omega),if_neg hlt,hfin]
theorem zhv {s t:ByteArray} {pre:List UInt8} (h:bl s=pre++bl t) (k0:Nat):∀(f p k:Nat),ZJ s f (pre.length+p) (k0+k)=(k0+(ZJ t f p k).1,(ZJ t f p k).2):=by
 have hz:s.size=pre.length+t.size:=by rw[Zt h,List.length_append];rfl
 intro f
 induction f with
 |zero=>intro p k;rfl
 |succ f ih=>
  intro p k;rw[ZJ,ZJ,zgU h,hz];by_cases hlt:p<t.size
  ·rw[if_pos (by omega),if_pos hlt];by_cases hn:nx t p=0
   ·rw[if_pos hn,if_pos hn]
   ·rw[if_neg hn,if_neg hn,show pre.length+p+nx t p=pre.length+(p+nx t p) by omega,show k0+k+1=k0+(k+1) by omega,ih]
  ·rw[if_neg (by omega),if_neg hlt]
def Plain (l:List UInt8):Prop:=∀b∈l,b.toNat<128/\yW b.toNat=false
theorem zeq {s:ByteArray} {pre suf:List UInt8} {b:UInt8} (h:bl s=pre++(b::suf)):byt s pre.length=b.toNat:=by
 rw[ZO,h,List.getD_eq_getElem?_getD,List.getElem?_append_right (by omega),Nat.sub_self];rfl
theorem zgB {s:ByteArray}:∀(l pre suf:List UInt8),bl s=pre++(l++suf)->Plain l->∀(f k:Nat) (cur:Option (Nat×Nat)),
  ZY s (f+l.length) pre.length k false cur=ZY s f (pre.length+l.length) (k+l.length) false (if l=[] then cur else some (cur.getD (pre.length,k)))
 |[],pre,suf,h,hp,f,k,cur=>by simp
 |b::l,pre,suf,h,hp,f,k,cur=>by
  have hb:=zeq (s:=s) (pre:=pre) (b:=b) (suf:=l++suf) h;obtain⟨h1,h2⟩:=hp b List.mem_cons_self;have hsz:pre.length<s.size:=by rw[Zt h,List.length_append,List.cons_append,List.length_cons];omega
  have hrm:rmk false b.toNat=false:=by
   unfold yW at h2;unfold rmk;rw[decide_eq_false_iff_not] at h2;rw[Bool.false_and,Bool.or_false,decide_eq_false_iff_not];exact fun e=>h2 (Or.inr (Or.inr (Or.inr e)))
  have ih:=zgB (s:=s) l (pre++[b]) suf (by rw[h];simp) (fun x hx=>hp x (List.mem_cons_of_mem _ hx)) f (k+1) (some (cur.getD (pre.length,k)));rw[List.length_cons,<-Nat.add_assoc,ZY,if_pos hsz,hb,h2,Bool.or_false,if_neg (by decide),hrm,YT s _ (by rw[hb];exact h1)];rw[List.length_append,List.length_singleton] at ih;rw[ih,if_neg (List.cons_ne_nil b l),show pre.length+1+l.length=pre.length+(l.length+1) by omega,show k+1+l.length=k+(l.length+1) by omega];congr 1;by_cases e:l=[]
  ·rw[if_pos e]
  ·rw[if_neg e];rfl
theorem zkN {s:ByteArray} {pre suf:List UInt8} {b:UInt8} (h:bl s=pre++(b::suf)) (hs:yW b.toNat=true) (h1:b.toNat<128) (hn:b.toNat≠59) (f k:Nat) (cur:Option (Nat×Nat)):
  ZY s (f+1) pre.length k false cur=fin s pre.length cur++ZY s f (pre.length+1) (k+1) false none:=by
 have hb:=zeq (s:=s) (pre:=pre) (b:=b) (suf:=suf) h;have hsz:pre.length<s.size:=by rw[Zt h,List.length_append,List.length_cons];omega
 have hrm:rmk false b.toNat=false:=by unfold rmk;rw[Bool.false_and,Bool.or_false];exact decide_eq_false hn
 rw[ZY,if_pos hsz,hb,hs,Bool.or_true,if_pos rfl,hrm,YT s _ (by rw[hb];exact h1)]
theorem zbk {s:ByteArray} {l pre suf:List UInt8} {b:UInt8} (h:bl s=pre++(l++b::suf)) (hl:l≠[]) (hp:Plain l) (hs:yW b.toNat=true) (h1:b.toNat<128) (hn:b.toNat≠59) (f k:Nat):
  ZY s (f+(l.length+1)) pre.length k false none=(⟨l.toArray⟩,k)::ZY s f (pre.length+(l.length+1)) (k+(l.length+1)) false none:=by
 have e:=zgB (s:=s) l pre (b::suf) h hp (f+1) k none;have h':bl s=(pre++l)++(b::suf):=by rw[h,List.append_assoc]
 have e2:=zkN (s:=s) h' hs h1 hn f (k+l.length) (some (pre.length,k));rw[List.length_append] at e2;rw[show f+(l.length+1)=f+1+l.length by omega,e,if_neg hl];show ZY s (f+1) (pre.length+l.length) (k+l.length) false (some (pre.length,k))=_;rw[e2]
 have hx:s.extract pre.length (pre.length+l.length)=⟨l.toArray⟩:=by
  apply zd6;rw[yz,h,List.drop_append,List.drop_of_length_le (by omega),Nat.sub_self,List.nil_append,List.drop_zero,Nat.add_sub_cancel_left,List.take_append_of_le_length (by omega),List.take_of_length_le (by omega)];rfl
 show(s.extract pre.length (pre.length+l.length),k)::_=_;rw[hx];rfl
theorem zho {s:ByteArray}:∀(l pre suf:List UInt8),bl s=pre++(l++suf)->(∀b∈l,b.toNat<128)->∀(f k:Nat),
  ZJ s (f+l.length) pre.length k=ZJ s f (pre.length+l.length) (k+l.length)
 |[],pre,suf,h,hp,f,k=>by simp
 |b::l,pre,suf,h,hp,f,k=>by
  have hb:=zeq (s:=s) (pre:=pre) (b:=b) (suf:=l++suf) h;have h1:=hp b List.mem_cons_self;have hsz:pre.length<s.size:=by rw[Zt h,List.length_append,List.cons_append,List.length_cons];omega
  have ih:=zho (s:=s) l (pre++[b]) suf (by rw[h];simp) (fun x hx=>hp x (List.mem_cons_of_mem _ hx)) f (k+1);have hnx:=YT s pre.length (by rw[hb];exact h1);rw[List.length_cons,<-Nat.add_assoc,ZJ,if_pos hsz,hnx,if_neg (by omega)];rw[List.length_append,List.length_singleton] at ih;rw[ih,show pre.length+1+l.length=pre.length+(l.length+1) by omega,show k+1+l.length=k+(l.length+1) by omega]
theorem zeQ (n:Nat) (w:World):Calls prog 15 #[wv n] w fun e w'=>e=.returned (.string ⟨(bys n 0).toArray⟩)/\Below w.heap.size w w':=by
 have hmk:∀w,(Instr.makeSlice 26 (.int .i64 32) (.int .i64 32)).run prog w=.ok (.slice (some ⟨w.heap.size,0,none⟩) 32 32) (w.alloc (.cells (madeCells #[.int .u8 0] 32) 5)):=fun w=>zaE 32 (by omega) w
 go_enter func15,ntmps15;go_wp2
 go_loopw [4] (fun t4 wr=>∃i:Nat,i<=32/\t4=.int .i64 i/\wr.rowIs w.heap.size 24 4 (zj (za n))/\
   wr.rowIs (w.heap.size+1) 5 32 (u8s fun j=>if 32<=j+i then byn n (31 - j) else 0)/\Below w.heap.size w wr)
   (fun t4 _=>32 - (RowKit.intOf t4).toNat)
 case atStart=>
  refine⟨0,by omega,rfl,(zh (za n) rfl rfl rfl rfl rfl).alloc _,zjs (by simp) (fun j hj=>if_neg (by omega)),bal (bal (Below.refl _ _) _) _⟩
 case round=>
  obtain⟨i,hi,rfl,hrw,hra,hbel⟩:=hrel;by_cases hlt:i<32
  ·have d:decide ((i:Int)<32)=true:=decide_eq_true (by omega);obtain⟨u,hu⟩:∃u:Nat,(31:Int) - (i:Int)=(u:Int):=⟨31 - i,by omega⟩;have hu32:u<32:=by omega
   have cw:=hrw.cell (i:=i/8) (by omega);have ca:=hra.cell hu32;have fa:=hra.frozen u;have hby:=ziA n (i/8) (i%8) (by omega);rw[show 8*(i/8)+i%8=i by omega] at hby;simp only[zj,yo] at cw;simp only[u8s] at ca;go_wp2;have hby2:(lb n (i/8):Int)/2^(8*(i%8))%256=(byn n i:Int):=by rw[<-hby];simp
   refine⟨⟨i+1,by omega,by go_num,hrw.setOther (by simp) _,(hra.set u _).congr fun j hj=> ?_,hbel.setCell (by simp) _⟩,by simp[RowKit.intOf];omega⟩;show(if j=u then _ else _)=_;simp only[u8s];by_cases h:j=u
   ·rw[if_pos h,if_pos (by omega),hby2,show 31 - j=i by omega]
   ·rw[if_neg h];by_cases h2:32<=j+i
    ·rw[if_pos h2,if_pos (by omega)]
    ·rw[if_neg h2,if_neg (by omega)]
  ·obtain rfl:i=32:=by omega
   have d:decide (((32:Nat):Int)<32)=false:=by decide
   have hlen:(bys n 0).length=32:=by simp[bys]
   have hrd:Rds wr (.slice (some ⟨w.heap.size+1,0,none⟩) 32 32) (bys n 0):=by
    refine⟨some ⟨w.heap.size+1,0,none⟩,32,by rw[hlen],by rw[hlen];exact Nat.le_refl _,fun _=>⟨w.heap.size+1,0,rfl,hra.lt,fun j hj=> ?_⟩⟩;rw[hlen] at hj;rw[Nat.zero_add,hra.cell hj];simp only[u8s,u8v];rw[if_pos (by omega)];simp only[bys,List.getElem_map,List.getElem_range];rw[Z9]
   have hcv:=hrd.str;have HB:=ze hbel;obtain⟨L,HL⟩:∃L,Hid (L=bys n 0):=⟨_,rfl⟩;rw[<-HL.out] at hcv;clear hrd hra hrw hbel hmk;go_wp2;go_ret;exact⟨by rw[<-HL.out];rfl,HB.out⟩
section
def yc:Nat->Nat->ByteArray
 |0,k=>⟨#[UInt8.ofNat (48+k)]⟩
 |f+1,k=>if k<10 then⟨#[UInt8.ofNat (48+k)]⟩ else yc f (k/10)++⟨#[UInt8.ofNat (48+k%10)]⟩
theorem zbj:∀f k,(yc f k).size<=f+1
 |0,k=>Nat.le_refl 1
 |f+1,k=>by
  unfold yc;split
  ·show 1<=_;omega
  ·rw[ByteArray.size_append];have:=zbj f (k/10);show _+1<=_;omega
theorem zh0 (f k:Nat) (h:k<10):yc f k=⟨#[UInt8.ofNat (48+k)]⟩:=by
 cases f with
 |zero=>rfl
 |succ f=>exact if_pos h
theorem ze6:Own 27:=fun _ _=>by kernel_rfl
section
variable {s:Act} {x:World} {pos:String} {af:Array Edge} {g:Option (Nat×Bool)} {K:Act->World->Prop} {Q:Exit->Act->World->Prop}
theorem zjw (t d k:Nat) (hk:k<=10000000) (he:s.tmps.getD t undef=.int .i64 (k:Int)) (hK:K (s.put (some d) (.int .i64 ((k/10:Nat):Int))) x) {ty:TypeId}:
  Oper.wp prog ⟨some d,.binOp .quo 3 (.tmp t) (.const (.int .i64 10)) 3,ty,pos,af,g⟩ s x K Q:=by
 have he2:s.eval (.tmp t)=.int .i64 (k:Int):=he;rw[Int.natCast_ediv] at hK;have hw:IntKind.i64.wrap ((k:Int)/10)=(k:Int)/10:=by rw[IntKind.wrap_i64];omega
 go_simp;exact hK
end
theorem zks (f k:Nat) (hf:f<=20) (h1:10<=k) (h2:k<=10000000) (w:World) (hIH:∀w,Calls prog 27 #[.int .i64 ((k/10:Nat):Int)] w fun e w'=>e=.returned (.string (yc f (k/10)))/\Below w.heap.size w w'):Calls prog 27 #[.int .i64 (k:Int)] w fun e w'=>e=.returned (.string (yc (f+1) k))/\Below w.heap.size w w':=by
 obtain⟨a,HA⟩:∃a,Hid (a=yc f (k/10)):=⟨_,rfl⟩;obtain⟨c,HC⟩:∃c:Int,Hid (c=48+((k%10:Nat):Int)):=⟨_,rfl⟩;obtain⟨b,HB⟩:∃b:ByteArray,Hid (b=⟨#[UInt8.ofNat c.toNat]⟩):=⟨_,rfl⟩
 have HR:Hid (yc (f+1) k=a++b):=by
  show _=_;rw[HA.out,HB.out,HC.out];exact(if_neg (by omega)).trans (by congr 3)
 have HDC:Hid (∀w,Calls prog 27 #[.int .i64 ((k/10:Nat):Int)] w fun e w'=>e=.returned (.string a)/\Below w.heap.size w w'):=fun w=>by rw[HA.out];exact hIH w
 have hz:a.size<=2000:=by rw[HA.out];exact Nat.le_trans (zbj f (k/10)) (by omega)
 have hz2:b.size<=2000:=by rw[HB.out];show 1<=2000;omega
 have HZ:Hid (a.size<=2000/\b.size<=2000):=⟨hz,hz2⟩;have d0:decide ((k:Int)<0)=false:=decide_eq_false (by omega);have d9:decide ((9:Int)<(k:Int))=true:=decide_eq_true (by omega);clear hz hz2 hIH;go_enter func27,ntmps27;go_wp2;refine zcW (by kernel_rfl) (fun x=>Below w.heap.size w x) (fun _ x x'=>Below x.heap.size x x') [(some 11,fun v _=>v=.int .i64 (k:Int)),(some 12,fun v _=>v=.int .i64 ((k/10:Nat):Int)),(some 13,fun v _=>v=.string a),(some 14,fun v _=>v=.int .i64 (k:Int)),(some 15,fun v _=>v=.int .i64 ((k%10:Nat):Int)),(some 16,fun v _=>v=.int .i64 (48+((k%10:Nat):Int))),(some 17,fun v _=>v=.int .u8 c),(some 18,fun v x=>One c v x),(some 19,fun v _=>v=.string b),(some 20,fun v _=>v=.string (a++b)),(some 2,fun v _=>v=.string (a++b))] (by kernel_rfl) rfl (by kernel_rfl) (by kernel_rfl) (Below.refl _ w).drew [(0,.int .i64 (k:Int))] (by intro p hp;simp only[List.mem_cons,List.not_mem_nil,or_false] at hp;rcases hp with rfl<;>rfl) (by kernel_rfl) ?_ ?_ ?_
 ·as_aux_lemma=>
  intro i j d T h hij v x x' hs hr ht;have hj:j<11:=(List.getElem?_eq_some_iff.1 h).1;rcases p11 hj with rfl|rfl|rfl|rfl|rfl|rfl|rfl|rfl|rfl|rfl|rfl<;>obtain⟨rfl,rfl⟩:=pk h<;>(first|exact ht|exact ht.below hr)
 ·as_aux_lemma=>
  intro i o d T ho ht s x hs hb hdep;have hi:i<11:=(Array.getElem?_eq_some_iff.1 ho).1;rcases p11 hi with rfl|rfl|rfl|rfl|rfl|rfl|rfl|rfl|rfl|rfl|rfl
  ·obtain rfl:=sj ho;obtain⟨rfl,rfl⟩:=pk ht;exact⟨zg rfl,fun K hK=>zbY 0 11 _ (hb _ (List.Mem.head _)) (hK _ x hs (Below.refl _ _) nn1 rfl)⟩
  ·obtain rfl:=sj ho;obtain⟨rfl,rfl⟩:=pk ht;exact⟨zg rfl,fun K hK=>zjw 11 12 k (by omega) (hdep ⟨0,.data⟩ (by simp) rfl _ _ rfl) (hK _ x hs (Below.refl _ _) nn1 rfl)⟩
  ·obtain rfl:=sj ho;obtain⟨rfl,rfl⟩:=pk ht;exact⟨zg rfl,fun K hK=>zN ze6 (ev1 (hdep ⟨1,.data⟩ (by simp) rfl _ _ rfl)) (HDC.out x) fun e x' h=>by obtain⟨rfl,hb1⟩:=h;exact⟨_,rfl,hK _ x' (zD hs hb1) hb1 nn1 rfl⟩⟩
  ·obtain rfl:=sj ho;obtain⟨rfl,rfl⟩:=pk ht;exact⟨zg rfl,fun K hK=>zbY 0 14 _ (hb _ (List.Mem.head _)) (hK _ x hs (Below.refl _ _) nn1 rfl)⟩
  ·obtain rfl:=sj ho;obtain⟨rfl,rfl⟩:=pk ht;exact⟨zg rfl,fun K hK=>zmW 14 15 k (hdep ⟨3,.data⟩ (by simp) rfl _ _ rfl) (hK _ x hs (Below.refl _ _) nn1 rfl)⟩
  ·obtain rfl:=sj ho;obtain⟨rfl,rfl⟩:=pk ht;exact⟨zg rfl,fun K hK=>zlg 15 16 (k%10) (by omega) (hdep ⟨4,.data⟩ (by simp) rfl _ _ rfl) (hK _ x hs (Below.refl _ _) nn1 rfl)⟩
  ·obtain rfl:=sj ho;obtain⟨rfl,rfl⟩:=pk ht;exact⟨zg rfl,fun K hK=>zlF 16 17 (k%10) (by omega) (hdep ⟨5,.data⟩ (by simp) rfl _ _ rfl) (hK _ x hs (Below.refl _ _) nn1 (by rw[HC.out]))⟩
  ·obtain rfl:=sj ho;obtain⟨rfl,rfl⟩:=pk ht;exact⟨zg rfl,fun K hK=>zky 17 18 c (hdep ⟨6,.data⟩ (by simp) rfl _ _ rfl) (hK _ _ (bal hs _) (bal (Below.refl _ _) _) nn1 ⟨_,rfl,World.rowIs_alloc x _ 5 _ fun i hi=>by obtain rfl:i=0:=(by simpa using hi);rfl⟩)⟩
  ·obtain rfl:=sj ho;obtain⟨rfl,rfl⟩:=pk ht;exact⟨zg rfl,fun K hK=>zkU 18 19 c (hdep ⟨7,.data⟩ (by simp) rfl _ _ rfl) (hK _ x hs (Below.refl _ _) nn1 (by rw[HB.out]))⟩
  ·obtain rfl:=sj ho;obtain⟨rfl,rfl⟩:=pk ht;exact⟨zg rfl,fun K hK=>st_cat 13 19 20 a b HZ.out.1 HZ.out.2 (hdep ⟨2,.data⟩ (by simp) rfl _ _ rfl) (hdep ⟨8,.data⟩ (by simp) rfl _ _ rfl) (hK _ x hs (Below.refl _ _) nn1 rfl)⟩
  ·obtain rfl:=sj ho;obtain⟨rfl,rfl⟩:=pk ht;exact⟨zg rfl,fun K hK=>zkm 20 2 _ (hdep ⟨9,.data⟩ (by simp) rfl _ _ rfl) (hK _ x hs (Below.refl _ _) nn1 rfl)⟩
 ·intro vs x hs hl hT;obtain⟨v0,v1,v2,v3,v4,v5,v6,v7,v8,v9,v10,rfl⟩:=len11 hl;have h0:(fun v _=>v=.int .i64 (k:Int)) v0 x:=hT 0 _ _ rfl;have h1:(fun v _=>v=.int .i64 ((k/10:Nat):Int)) v1 x:=hT 1 _ _ rfl;have h2:(fun v _=>v=.string a) v2 x:=hT 2 _ _ rfl;have h3:(fun v _=>v=.int .i64 (k:Int)) v3 x:=hT 3 _ _ rfl;have h4:(fun v _=>v=.int .i64 ((k%10:Nat):Int)) v4 x:=hT 4 _ _ rfl;have h5:(fun v _=>v=.int .i64 (48+((k%10:Nat):Int))) v5 x:=hT 5 _ _ rfl;have h6:(fun v _=>v=.int .u8 c) v6 x:=hT 6 _ _ rfl;have h7:(fun v x=>One c v x) v7 x:=hT 7 _ _ rfl;have h8:(fun v _=>v=.string b) v8 x:=hT 8 _ _ rfl;have h9:(fun v _=>v=.string (a++b)) v9 x:=hT 9 _ _ rfl;have h10:(fun v _=>v=.string (a++b)) v10 x:=hT 10 _ _ rfl;clear hl hT;simp only[zgC,zL,List.foldl,Act.put,List.setIfInBounds_toArray,List.set_cons_zero,List.set_cons_succ];subst h10;go_wp2;go_ret;exact⟨by rw[HR.out];rfl,hs⟩
theorem zdc (k:Nat) (h:k<10) (w:World):Calls prog 27 #[.int .i64 (k:Int)] w fun e w'=>e=.returned (.string ⟨#[UInt8.ofNat (48+k)]⟩)/\Below w.heap.size w w':=by
 have HD:Hid ((⟨#[UInt8.ofNat (48+k)]⟩:ByteArray)=⟨#[UInt8.ofNat (48+(k:Int)).toNat]⟩):=by
  show _=_;congr 4
 have hcv:=cvt1 (48+(k:Int));go_enter func27,ntmps27;go_wp2;go_ret;exact⟨by rw[HD.out];rfl,bal (Below.refl _ _) _⟩
theorem zgJ:∀(f k:Nat),f<=6->k<10^(f+1)->∀w,Calls prog 27 #[.int .i64 (k:Int)] w fun e w'=>e=.returned (.string (yc f k))/\Below w.heap.size w w'
 |0,k,_,hk,w=>zdc k (by simpa using hk) w
 |f+1,k,hf,hk,w=>by
  by_cases h:k<10
  ·rw[zh0 _ _ h];exact zdc k h w
  ·have h7:10^(f+1+1)<=10^7:=Nat.pow_le_pow_right (by omega) (by omega);refine zks f k (by omega) (by omega) (by have:(10:Nat)^7=10000000:=rfl;omega) w fun w=>zgJ f (k/10) (by omega) ?_ w
   rw[Nat.pow_succ] at hk;omega
end
def zbR (d:Nat):UInt8:=if d<10 then UInt8.ofNat (48+d) else UInt8.ofNat (87+d)
def Zg (n:Nat):Nat->ByteArray
 |0=>⟨#[48,120]⟩
 |k+1=>Zg n k++⟨#[zbR (n/16^(63 - k)%16)]⟩
theorem ZR (n:Nat):∀k,(Zg n k).size=k+2
 |0=>rfl
 |k+1=>by
  show(Zg n k++_).size=_;rw[ByteArray.size_append,ZR n k];rfl
theorem zkg (n:Int):bits .and .i64 n 15=n%16:=by
 have h15:(BitVec.ofInt 64 15).toNat=2^4 - 1:=by decide
 have key:(BitVec.ofInt 64 n &&& BitVec.ofInt 64 15).toNat=(n%((2^64:Nat):Int)).toNat%2^4:=by
  rw[BitVec.toNat_and,BitVec.toNat_ofInt,h15,Nat.and_two_pow_sub_one_eq_mod]
 show IntKind.i64.wrap ((BitVec.ofInt 64 n &&& BitVec.ofInt 64 15).toNat:Nat)=n%16;rw[key,IntKind.wrap_i64];omega
theorem Yx (n:Int):bits .and .i64 (wrap64 n) 15=n%16:=by
 rw[zkg];unfold wrap64;omega
theorem zeA (n i k:Nat) (hk:k<16):lb n i/2^(4*k)%16=n/16^(16*i+k)%16:=by
 unfold lb;have e:(16:Nat)=2^4:=rfl;rw[zeg,e,<-Nat.pow_mul,show 4*(16*i+k)=64*i+4*k by omega];apply Nat.eq_of_testBit_eq;intro j;simp only[Nat.testBit_mod_two_pow,Nat.testBit_div_two_pow];by_cases hj:j<4
 ·rw[decide_eq_true hj,Bool.true_and,Bool.true_and,decide_eq_true (by omega),Bool.true_and];congr 1;omega
 ·rw[decide_eq_false hj,Bool.false_and,Bool.false_and]
theorem YX (d:Nat) (h:d<16):(⟨#[48,49,50,51,52,53,54,55,56,57,97,98,99,100,101,102]⟩:ByteArray).extract d (d+1)=⟨#[zbR d]⟩:=by
 rcases(by omega:d=0\/d=1\/d=2\/d=3\/d=4\/d=5\/d=6\/d=7\/d=8\/d=9\/d=10\/d=11\/d=12\/d=13\/d=14\/d=15) with rfl|rfl|rfl|rfl|rfl|rfl|rfl|rfl|rfl|rfl|rfl|rfl|rfl|rfl|rfl|rfl<;>rfl
theorem zjr (n:Nat) (w:World) (d1:(za n 1==0)=false):Calls prog 9 #[wv n] w fun e w'=>e=.returned (.string (Zg n 64))/\Below w.heap.size w w':=by
 have hr:(w.alloc (wc n)).rowIs w.heap.size 24 4 (zj (za n)):=zh (za n) rfl rfl rfl rfl rfl;obtain⟨s0,HS0⟩:∃s0,Hid (s0=Zg n 0):=⟨_,rfl⟩;go_enter func9,ntmps9;go_wp2
 go_loopw [3,4] (fun t3 t4 wr=>∃(i:Nat) (s:ByteArray),i<=4/\t4=.int .i64 ((i:Int) - 1)/\t3=.string s/\Hid (s=Zg n (16*(4 - i)))/\Hid (wr=w.alloc (wc n))) (fun _ t4 _=>(RowKit.intOf t4+1).toNat)
 case atStart=>exact⟨4,_,by omega,rfl,rfl,rfl,rfl⟩
 case round=>
  obtain⟨i,s,hi,rfl,rfl,HS,HW⟩:=hrel;by_cases h0:i=0
  ·subst h0;go_wp2;go_ret;exact⟨by rw[HS.out];rfl,by rw[HW.out];exact bal (Below.refl _ _) _⟩
  ·obtain⟨m,rfl⟩:∃m,i=m+1:=⟨i - 1,by omega⟩;rw[show(((m+1:Nat):Int) - 1)=(m:Int) by omega];go_wp2
   go_loopw [3,5] (fun t3 t5 wq=>∃(q:Nat) (s:ByteArray),q<=16/\t5=.int .i64 (4*(q:Int) - 4)/\t3=.string s/\Hid (s=Zg n (16*(3 - m)+(16 - q)))/\Hid (wq=w.alloc (wc n))) (fun _ t5 _=>(RowKit.intOf t5+4).toNat)
   case atStart=>exact⟨16,s,by omega,rfl,rfl,by rw[HS.out];show _=_;congr 1;omega,HW⟩
   case round=>
    clear HS HW;obtain⟨q,s,hq,rfl,rfl,HS,HW⟩:=hrel;by_cases hq0:q=0
    ·subst hq0;go_wp2
     go_roundw
     case rel=>exact⟨m,_,by omega,by go_num,rfl,by rw[HS.out];show _=_;congr 1;omega,HW⟩
     case measure=>simp[RowKit.intOf]
    ·obtain⟨r,rfl⟩:∃r,q=r+1:=⟨q - 1,by omega⟩;obtain⟨z,HZ⟩:∃z:Nat,Hid (z=4*r):=⟨_,rfl⟩;have hz60:z<=60:=by rw[HZ.out];omega
     rw[show(4*(((r+1:Nat)):Int) - 4)=(z:Int) by rw[HZ.out];omega];obtain⟨dg,HDG⟩:∃dg:Nat,Hid (dg=n/16^(16*m+r)%16):=⟨_,rfl⟩;have hdg:dg<16:=by rw[HDG.out];exact Nat.mod_lt _ (by omega)
     have hand:bits .and .i64 (wrap64 ((lb n m:Int)/2^z)) 15=(dg:Int):=by
      rw[Yx,HDG.out,<-zeA n m r (by omega),HZ.out];simp
     have hpc:=YX dg hdg;have hd0:decide ((0:Int)<=(z:Int))=true:=decide_eq_true (by omega);have hrow:=hr;rw[<-HW.out] at hrow;have cw:=hrow.cell (i:=m) (by omega);simp only[zj,yo] at cw;clear hrow;have hsz:s.size<=100:=by rw[HS.out,ZR];omega
     go_wp2;refine⟨⟨r,_,by omega,by rw[HZ.out];go_num,rfl, ?_,HW⟩,by simp only[RowKit.intOf];rw[HZ.out];omega⟩;rw[HS.out,HDG.out];show _=Zg n _;rw[show 16*(3 - m)+(16 - r)=16*(3 - m)+(16 - (r+1))+1 by omega];show _=Zg n _++_;rw[show 63 - (16*(3 - m)+(16 - (r+1)))=16*m+r by omega]
theorem zj5 (n:Nat) (w:World) (d1:(za n 1==0)=true) (d2:(za n 2==0)=false):Calls prog 9 #[wv n] w fun e w'=>e=.returned (.string (Zg n 64))/\Below w.heap.size w w':=by
 have hr:(w.alloc (wc n)).rowIs w.heap.size 24 4 (zj (za n)):=zh (za n) rfl rfl rfl rfl rfl;obtain⟨s0,HS0⟩:∃s0,Hid (s0=Zg n 0):=⟨_,rfl⟩;go_enter func9,ntmps9;go_wp2
 go_loopw [3,4] (fun t3 t4 wr=>∃(i:Nat) (s:ByteArray),i<=4/\t4=.int .i64 ((i:Int) - 1)/\t3=.string s/\Hid (s=Zg n (16*(4 - i)))/\Hid (wr=w.alloc (wc n))) (fun _ t4 _=>(RowKit.intOf t4+1).toNat)
 case atStart=>exact⟨4,_,by omega,rfl,rfl,rfl,rfl⟩
 case round=>
  obtain⟨i,s,hi,rfl,rfl,HS,HW⟩:=hrel;by_cases h0:i=0
  ·subst h0;go_wp2;go_ret;exact⟨by rw[HS.out];rfl,by rw[HW.out];exact bal (Below.refl _ _) _⟩
  ·obtain⟨m,rfl⟩:∃m,i=m+1:=⟨i - 1,by omega⟩;rw[show(((m+1:Nat):Int) - 1)=(m:Int) by omega];go_wp2
   go_loopw [3,5] (fun t3 t5 wq=>∃(q:Nat) (s:ByteArray),q<=16/\t5=.int .i64 (4*(q:Int) - 4)/\t3=.string s/\Hid (s=Zg n (16*(3 - m)+(16 - q)))/\Hid (wq=w.alloc (wc n))) (fun _ t5 _=>(RowKit.intOf t5+4).toNat)
   case atStart=>exact⟨16,s,by omega,rfl,rfl,by rw[HS.out];show _=_;congr 1;omega,HW⟩
   case round=>
    clear HS HW;obtain⟨q,s,hq,rfl,rfl,HS,HW⟩:=hrel;by_cases hq0:q=0
    ·subst hq0;go_wp2
     go_roundw
     case rel=>exact⟨m,_,by omega,by go_num,rfl,by rw[HS.out];show _=_;congr 1;omega,HW⟩
     case measure=>simp[RowKit.intOf]
    ·obtain⟨r,rfl⟩:∃r,q=r+1:=⟨q - 1,by omega⟩;obtain⟨z,HZ⟩:∃z:Nat,Hid (z=4*r):=⟨_,rfl⟩;have hz60:z<=60:=by rw[HZ.out];omega
     rw[show(4*(((r+1:Nat)):Int) - 4)=(z:Int) by rw[HZ.out];omega];obtain⟨dg,HDG⟩:∃dg:Nat,Hid (dg=n/16^(16*m+r)%16):=⟨_,rfl⟩;have hdg:dg<16:=by rw[HDG.out];exact Nat.mod_lt _ (by omega)
     have hand:bits .and .i64 (wrap64 ((lb n m:Int)/2^z)) 15=(dg:Int):=by
      rw[Yx,HDG.out,<-zeA n m r (by omega),HZ.out];simp
     have hpc:=YX dg hdg;have hd0:decide ((0:Int)<=(z:Int))=true:=decide_eq_true (by omega);have hrow:=hr;rw[<-HW.out] at hrow;have cw:=hrow.cell (i:=m) (by omega);simp only[zj,yo] at cw;clear hrow;have hsz:s.size<=100:=by rw[HS.out,ZR];omega
     go_wp2;refine⟨⟨r,_,by omega,by rw[HZ.out];go_num,rfl, ?_,HW⟩,by simp only[RowKit.intOf];rw[HZ.out];omega⟩;rw[HS.out,HDG.out];show _=Zg n _;rw[show 16*(3 - m)+(16 - r)=16*(3 - m)+(16 - (r+1))+1 by omega];show _=Zg n _++_;rw[show 63 - (16*(3 - m)+(16 - (r+1)))=16*m+r by omega]
theorem zjx (n:Nat) (w:World) (d1:(za n 1==0)=true) (d2:(za n 2==0)=true) (d3:(za n 3==0)=false):Calls prog 9 #[wv n] w fun e w'=>e=.returned (.string (Zg n 64))/\Below w.heap.size w w':=by
 have hr:(w.alloc (wc n)).rowIs w.heap.size 24 4 (zj (za n)):=zh (za n) rfl rfl rfl rfl rfl;obtain⟨s0,HS0⟩:∃s0,Hid (s0=Zg n 0):=⟨_,rfl⟩;go_enter func9,ntmps9;go_wp2
 go_loopw [3,4] (fun t3 t4 wr=>∃(i:Nat) (s:ByteArray),i<=4/\t4=.int .i64 ((i:Int) - 1)/\t3=.string s/\Hid (s=Zg n (16*(4 - i)))/\Hid (wr=w.alloc (wc n))) (fun _ t4 _=>(RowKit.intOf t4+1).toNat)
 case atStart=>exact⟨4,_,by omega,rfl,rfl,rfl,rfl⟩
 case round=>
  obtain⟨i,s,hi,rfl,rfl,HS,HW⟩:=hrel;by_cases h0:i=0
  ·subst h0;go_wp2;go_ret;exact⟨by rw[HS.out];rfl,by rw[HW.out];exact bal (Below.refl _ _) _⟩
  ·obtain⟨m,rfl⟩:∃m,i=m+1:=⟨i - 1,by omega⟩;rw[show(((m+1:Nat):Int) - 1)=(m:Int) by omega];go_wp2
   go_loopw [3,5] (fun t3 t5 wq=>∃(q:Nat) (s:ByteArray),q<=16/\t5=.int .i64 (4*(q:Int) - 4)/\t3=.string s/\Hid (s=Zg n (16*(3 - m)+(16 - q)))/\Hid (wq=w.alloc (wc n))) (fun _ t5 _=>(RowKit.intOf t5+4).toNat)
   case atStart=>exact⟨16,s,by omega,rfl,rfl,by rw[HS.out];show _=_;congr 1;omega,HW⟩
   case round=>
    clear HS HW;obtain⟨q,s,hq,rfl,rfl,HS,HW⟩:=hrel;by_cases hq0:q=0
    ·subst hq0;go_wp2
     go_roundw
     case rel=>exact⟨m,_,by omega,by go_num,rfl,by rw[HS.out];show _=_;congr 1;omega,HW⟩
     case measure=>simp[RowKit.intOf]
    ·obtain⟨r,rfl⟩:∃r,q=r+1:=⟨q - 1,by omega⟩;obtain⟨z,HZ⟩:∃z:Nat,Hid (z=4*r):=⟨_,rfl⟩;have hz60:z<=60:=by rw[HZ.out];omega
     rw[show(4*(((r+1:Nat)):Int) - 4)=(z:Int) by rw[HZ.out];omega];obtain⟨dg,HDG⟩:∃dg:Nat,Hid (dg=n/16^(16*m+r)%16):=⟨_,rfl⟩;have hdg:dg<16:=by rw[HDG.out];exact Nat.mod_lt _ (by omega)
     have hand:bits .and .i64 (wrap64 ((lb n m:Int)/2^z)) 15=(dg:Int):=by
      rw[Yx,HDG.out,<-zeA n m r (by omega),HZ.out];simp
     have hpc:=YX dg hdg;have hd0:decide ((0:Int)<=(z:Int))=true:=decide_eq_true (by omega);have hrow:=hr;rw[<-HW.out] at hrow;have cw:=hrow.cell (i:=m) (by omega);simp only[zj,yo] at cw;clear hrow;have hsz:s.size<=100:=by rw[HS.out,ZR];omega
     go_wp2;refine⟨⟨r,_,by omega,by rw[HZ.out];go_num,rfl, ?_,HW⟩,by simp only[RowKit.intOf];rw[HZ.out];omega⟩;rw[HS.out,HDG.out];show _=Zg n _;rw[show 16*(3 - m)+(16 - r)=16*(3 - m)+(16 - (r+1))+1 by omega];show _=Zg n _++_;rw[show 63 - (16*(3 - m)+(16 - (r+1)))=16*m+r by omega]
theorem zkF (n:Nat) (w:World) (d1:(za n 1==0)=true) (d2:(za n 2==0)=true) (d3:(za n 3==0)=true) (d0:decide (za n 0<1000000)=false):Calls prog 9 #[wv n] w fun e w'=>e=.returned (.string (Zg n 64))/\Below w.heap.size w w':=by
 have hr:(w.alloc (wc n)).rowIs w.heap.size 24 4 (zj (za n)):=zh (za n) rfl rfl rfl rfl rfl;obtain⟨s0,HS0⟩:∃s0,Hid (s0=Zg n 0):=⟨_,rfl⟩;go_enter func9,ntmps9;go_wp2
 go_loopw [3,4] (fun t3 t4 wr=>∃(i:Nat) (s:ByteArray),i<=4/\t4=.int .i64 ((i:Int) - 1)/\t3=.string s/\Hid (s=Zg n (16*(4 - i)))/\Hid (wr=w.alloc (wc n))) (fun _ t4 _=>(RowKit.intOf t4+1).toNat)
 case atStart=>exact⟨4,_,by omega,rfl,rfl,rfl,rfl⟩
 case round=>
  clear d0;obtain⟨i,s,hi,rfl,rfl,HS,HW⟩:=hrel;by_cases h0:i=0
  ·subst h0;go_wp2;go_ret;exact⟨by rw[HS.out];rfl,by rw[HW.out];exact bal (Below.refl _ _) _⟩
  ·obtain⟨m,rfl⟩:∃m,i=m+1:=⟨i - 1,by omega⟩;rw[show(((m+1:Nat):Int) - 1)=(m:Int) by omega];go_wp2
   go_loopw [3,5] (fun t3 t5 wq=>∃(q:Nat) (s:ByteArray),q<=16/\t5=.int .i64 (4*(q:Int) - 4)/\t3=.string s/\Hid (s=Zg n (16*(3 - m)+(16 - q)))/\Hid (wq=w.alloc (wc n))) (fun _ t5 _=>(RowKit.intOf t5+4).toNat)
   case atStart=>exact⟨16,s,by omega,rfl,rfl,by rw[HS.out];show _=_;congr 1;omega,HW⟩
   case round=>
    clear HS HW;obtain⟨q,s,hq,rfl,rfl,HS,HW⟩:=hrel;by_cases hq0:q=0
    ·subst hq0;go_wp2
     go_roundw
     case rel=>exact⟨m,_,by omega,by go_num,rfl,by rw[HS.out];show _=_;congr 1;omega,HW⟩
     case measure=>simp[RowKit.intOf]
    ·obtain⟨r,rfl⟩:∃r,q=r+1:=⟨q - 1,by omega⟩;obtain⟨z,HZ⟩:∃z:Nat,Hid (z=4*r):=⟨_,rfl⟩;have hz60:z<=60:=by rw[HZ.out];omega
     rw[show(4*(((r+1:Nat)):Int) - 4)=(z:Int) by rw[HZ.out];omega];obtain⟨dg,HDG⟩:∃dg:Nat,Hid (dg=n/16^(16*m+r)%16):=⟨_,rfl⟩;have hdg:dg<16:=by rw[HDG.out];exact Nat.mod_lt _ (by omega)
     have hand:bits .and .i64 (wrap64 ((lb n m:Int)/2^z)) 15=(dg:Int):=by
      rw[Yx,HDG.out,<-zeA n m r (by omega),HZ.out];simp
     have hpc:=YX dg hdg;have hd0:decide ((0:Int)<=(z:Int))=true:=decide_eq_true (by omega);have hrow:=hr;rw[<-HW.out] at hrow;have cw:=hrow.cell (i:=m) (by omega);simp only[zj,yo] at cw;clear hrow;have hsz:s.size<=100:=by rw[HS.out,ZR];omega
     go_wp2;refine⟨⟨r,_,by omega,by rw[HZ.out];go_num,rfl, ?_,HW⟩,by simp only[RowKit.intOf];rw[HZ.out];omega⟩;rw[HS.out,HDG.out];show _=Zg n _;rw[show 16*(3 - m)+(16 - r)=16*(3 - m)+(16 - (r+1))+1 by omega];show _=Zg n _++_;rw[show 63 - (16*(3 - m)+(16 - (r+1)))=16*m+r by omega]
theorem Z2 (n i:Nat):(za n i==0)=decide (lb n i=0):=by
 rw[yo];by_cases h:lb n i=0
 ·rw[h,decide_eq_true rfl];rfl
 ·rw[decide_eq_false h];simp;exact h
def zi (n:Nat):ByteArray:=if n%M<1000000 then yc 6 (n%M) else Zg n 64
theorem zbN (n:Nat):n%M<1000000↔lb n 1=0/\lb n 2=0/\lb n 3=0/\lb n 0<1000000:=by
 unfold lb M;constructor
 ·intro h;refine⟨?_, ?_, ?_, ?_⟩<;>omega
 ·rintro⟨h1,h2,h3,h0⟩;omega
theorem zlO (n:Nat) (h:n%M<1000000) (w:World):Calls prog 9 #[wv n] w fun e w'=>e=.returned (.string (yc 6 (n%M)))/\Below w.heap.size w w':=by
 obtain⟨s1,s2,s3,s0⟩:=(zbN n).1 h;have d1:(za n 1==0)=true:=by rw[Z2,decide_eq_true s1]
 have d2:(za n 2==0)=true:=by rw[Z2,decide_eq_true s2]
 have d3:(za n 3==0)=true:=by rw[Z2,decide_eq_true s3]
 have d0:decide (za n 0<1000000)=true:=decide_eq_true (by rw[yo];omega);have hl:za n 0=((n%M:Nat):Int):=zhe (by omega);obtain⟨k,HK⟩:∃k:Nat,Hid (k=n%M):=⟨_,rfl⟩;rw[<-HK.out] at hl;have hk:k<1000000:=by rw[HK.out];exact h
 have HD:=ze (zgJ 6 k (by omega) (by omega));have hwk:IntKind.i64.wrap (k:Int)=(k:Int):=by rw[IntKind.wrap_i64];omega
 clear s0 s1 s2 s3 h;have d0:decide ((k:Int)<1000000)=true:=by rw[<-hl];exact d0
 go_enter func9,ntmps9;go_wp2_with fail
 refine(HD.out _).mono ?_;rintro e w1 ⟨rfl,hb1⟩;have HB:=ze (zD (bal (Below.refl w.heap.size w) _) hb1);clear hb1;go_wp2;go_ret;exact⟨by rw[<-HK.out];rfl,HB.out⟩
theorem zcc (n:Nat) (w:World):Calls prog 9 #[wv n] w fun e w'=>e=.returned (.string (zi n))/\Below w.heap.size w w':=by
 unfold zi;by_cases h:n%M<1000000
 ·rw[if_pos h];exact zlO n h w
 ·rw[if_neg h];have h2:=fun g=>h ((zbN n).2 g)
  by_cases h1:lb n 1=0
  ·have d1:(za n 1==0)=true:=by rw[Z2,decide_eq_true h1]
   by_cases h3:lb n 2=0
   ·have d2:(za n 2==0)=true:=by rw[Z2,decide_eq_true h3]
    by_cases h4:lb n 3=0
    ·have d3:(za n 3==0)=true:=by rw[Z2,decide_eq_true h4]
     have h5:¬lb n 0<1000000:=fun h5=>h2 ⟨h1,h3,h4,h5⟩
     exact zkF n w d1 d2 d3 (decide_eq_false (by rw[yo];omega))
    ·exact zjx n w d1 d2 (by rw[Z2,decide_eq_false h4])
   ·exact zj5 n w d1 (by rw[Z2,decide_eq_false h3])
  ·exact zjr n w (by rw[Z2,decide_eq_false h1])
section
open Go.RowKit Go.Lib Go.Maps
theorem str_of (c:List UInt8):strOfNums (c.map fun b=>((b.toNat:Nat):Int))=⟨c.toArray⟩:=by
 unfold strOfNums;rw[List.map_map];congr 2
 conv=>rhs;rw[<-List.map_id c]
 refine List.map_congr_left fun b _=> ?_
 show UInt8.ofNat ((b.toNat:Int).toNat)=b;rw[Int.toNat_natCast];exact UInt8.ofNat_toNat
theorem cvt_bys {x:World} {base g cap:Nat} {c:List UInt8} (h:Bys x base (.slice (some ⟨g,0,none⟩) c.length cap) c):(convert 26 9 (.slice (some ⟨g,0,none⟩) c.length cap)).run prog x=.ok (.string ⟨c.toArray⟩) x:=by
 have h2:=run_convert_bytes_arg (P:=prog) x 26 5 (by kernel_rfl) (by kernel_rfl) g 0 c.length cap (c.map fun b=>((b.toNat:Nat):Int)) (by rw[List.length_map]) (fun i hi=>by
  have h3:=World.ownsRow.cellAt h i (by omega);rw[List.getElem?_map,List.getElem?_eq_getElem hi] at h3;rw[Nat.zero_add,h3,List.getD_eq_getElem?_getD,List.getElem?_map,List.getElem?_eq_getElem hi];rfl) 9 (by kernel_rfl)
 rw[str_of] at h2;exact h2
theorem zeU (x:World):(convert 26 9 (.slice none 0 0)).run prog x=.ok (.string ⟨#[]⟩) x:=run_convert_bytes_nil (P:=prog) x 26 5 (by kernel_rfl) (by kernel_rfl) 0 0 9 (by kernel_rfl)
theorem cwt_ne {f:ByteArray->Option Nat} {y:Ri} (h:Oky y) (hne:y.i.fl=0->y.i.cd≠[]) (hf:flt f y=0):0<(cwt f y).length:=by
 rw[ziK h]
 have h0:y.i.fl=0:=by
  unfold flt at hf;by_cases e:y.i.fl=0
  ·exact e
  ·rw[if_pos e] at hf;exact hf
 exact Nat.pos_of_ne_zero fun h=>hne h0 (List.length_eq_zero_iff.1 h)
theorem flt_le {f:ByteArray->Option Nat} {y:Ri} (h:Oky y):flt f y<=4:=by
 have h2:=h.2.2.2.1;unfold flt;split
 ·exact h2
 ·split
  ·omega
  ·split<;>omega
theorem zdt (s:ByteArray) (w:World):Calls prog 28 #[.string s] w fun e w'=>e=.returned (zan s)/\Below w.heap.size w w':=by
 obtain⟨i0,hi0,hz0,hz1,hz2⟩:=info_parts zep;have HI:=ze (And.intro hi0 (And.intro hz0 (And.intro hz1 hz2)));clear hi0 hz0 hz1 hz2;by_cases hs:2000<s.size
 ·have HR:=ze (zlM hs);have hd:decide ((2000:Int)<(s.size:Int))=true:=decide_eq_true (by omega);go_enter func28,ntmps28;go_wp2;refine bodyPost_ret (v:=zan s) ?_ rfl ⟨rfl,Below.refl _ _⟩;unfold zan;rw[HR.out];simp[results,results28,go_sem]
 ·have hsz:s.size<=2000:=by omega
  have HCR:=ze (zdg s hsz);have hd:decide ((2000:Int)<(s.size:Int))=false:=decide_eq_false (by omega);cases hc:(cnt s).2
  ·have HR:=ze (zmX hsz hc);rw[hc] at HCR;go_enter func28,ntmps28;go_wp2_with fail
   refine(HCR.out _).mono ?_;rintro e w1 ⟨rfl,hb1⟩;go_wp2;refine bodyPost_ret (v:=zan s) ?_ rfl ⟨rfl,hb1⟩;unfold zan;rw[HR.out];simp[results,results28,go_sem]
  ·have hwh:Hid (Whole s):=zjM hc;have HFAULT:=ze (fun(e a:Nat) hr=>zjt hsz hc (e:=e) (a:=a) hr);have HBIG:=ze (fun(c:List UInt8) hr hb=>asm_big hsz hc (c:=c) hr hb);have HCODE:=ze (fun(c:List UInt8) hr hb=>zmc hsz hc (c:=c) hr hb);have HOK:=ze (fun y=>@rl_ok s hsz hwh.out y);have HLB:=ze (labs_le hsz hwh.out);have HRD:=ze (zdn s hsz hwh);have HLP:=ze (fun l h=>@okl_of s hsz hwh.out l h);rw[hc] at HCR;clear hc;go_enter func28,ntmps28;go_wp2_with fail
   refine(HCR.out _).mono ?_;rintro e w1 ⟨rfl,hb1⟩;obtain⟨rc,HRC⟩:∃rc,Hid (rc=(cnt s).1):=⟨_,rfl⟩;rw[<-HRC.out] at HBIG⊢;have hrc:rc<=2000:=by rw[HRC.out];exact Nat.le_trans (cnt_le s) hsz
   go_wp2_with fail
   refine(HRD.out _).mono ?_;rintro e w2 ⟨v,l,rfl,hir,hmp,hb2⟩;have hokl:=ze (HLP.out l hmp);have HIR:=ze hir;have HMP:=ze hmp;have HB2:=ze (zD hb1 hb2);have HSZ:Hid (w1.heap.size<=w2.heap.size):=hb2.size;obtain⟨adl,cpl,hshl⟩:=ZN hir.ow;subst hshl;clear HRD HCR HLP hir hmp hb2 hb1;go_wp2_with fail
   refine(zbQ l _ _ hokl _ HIR.out).mono ?_;rintro e w3 ⟨rfl,hml,hb3⟩;have HML:Hid (MapL w3 w2.heap.size l.length (yu s)):=hml.congr fun t=>by unfold yu;rw[HMP.out]
   have HB3:=ze hb3;have hll:=hokl.out.1;clear hml hb3;rcases HIR.out.ow.2 with⟨hv,hn⟩|⟨g,cap,cur,hv,_⟩
   ·have HE:Hid (asm s=(⟨#[]⟩,0,0)):=HCODE.out [] (by rw[<-HMP.out,List.length_eq_zero_iff.1 hn];rfl) (by decide);have hcv:=zeU w3;injection hv with h1 h2 h3
    subst h1 h3;rw[hn];clear HMP HIR hokl HML HOK HLB HFAULT HBIG HCODE hn h2 hll;go_wp2
    go_loopw [9,30] (fun t9 t30 wr=>t9=.slice none 0 0/\t30=.int .i64 0/\Hid (wr=w3)) (fun _ _ _=>0)
    case atStart=>exact⟨rfl,rfl,rfl⟩
    case round=>
     obtain⟨rfl,rfl,HW⟩:=hrel;have hcv2:=zeU wr;go_wp2;refine bodyPost_ret (v:=zan s) ?_ rfl ⟨rfl,by rw[HW.out];exact zD HB2.out HB3.out⟩;unfold zan;rw[HE.out];simp[results,results28,go_sem]
   ·injection hv with h1 h2 h3
    subst h1 h3;clear h2;go_wp2
    go_loopw [9,30] (fun t9 t30 wr=>∃(j:Nat) (c:List UInt8),t30=.int .i64 (j:Int)/\Bys wr w3.heap.size t9 c/\Below w3.heap.size w3 wr/\c.length<=33*j/\j<=l.length/\Hid (rn2 (yu s) ((l.map Prod.fst).drop j) c=rn2 (yu s) (ZM s) [])) (fun _ t30 _=>l.length - (RowKit.intOf t30).toNat)
    case atStart=>exact⟨0,[],rfl,World.ownsRow_nil _ _ _ _,Below.refl _ _,by show 0<=_;omega,by omega,by show _=_;rw[HMP.out];rfl⟩
    case round=>
     obtain⟨j,c,rfl,hby,hbe,hcl,hj,HR⟩:=hrel;by_cases hlt:j<l.length
     ·obtain⟨y,HY⟩:∃y:Ri×Value,Hid (y=l[j]):=⟨l[j],ze rfl⟩;have hmem:y∈l:=by rw[HY.out];exact List.getElem_mem hlt
      have hmr:y.1∈ZM s:=by rw[<-HMP.out];exact List.mem_map_of_mem hmem
      have HY2:Hid (y.1=(l.map Prod.fst)[j]'(by rw[List.length_map];exact hlt)):=by show _=_;rw[List.getElem_map,<-HY.out]
      obtain⟨hoky,hne,hale⟩:=HOK.out y.1 hmr;have HOY:=ze hoky;have hir2:=(HIR.out.call HB3.out).call hbe;have hml2:=HML.out.below hbe;obtain⟨c0,c1,c2,c3,c4,c5⟩:=zc1 hir2 hlt HY.out;have hcd2:=hir2.cd y hmem;obtain⟨ad,cp,hsh⟩:=ZN hcd2;rw[hsh] at c2 hcd2;have hal:=bal (Below.refl _ wr) (.cells #[.int .i64 (y.1.i.k:Int),.string y.1.i.nm,.slice ad y.1.i.cd.length cp,.int .i64 (y.1.i.fl:Int),.int .i64 (y.1.a:Int),.int .i64 (y.1.p:Int)] 122);have HFA:=ze (zc4 y.1 ad y.1.i.cd.length cp (yu s) _ _ HOY (fun hk=>zdF hmr hk) _ (hml2.below hal));unfold itY at HFA;have HROW:Hid ((wr.alloc (.cells #[.int .i64 (y.1.i.k:Int),.string y.1.i.nm,.slice ad y.1.i.cd.length cp,.int .i64 (y.1.i.fl:Int),.int .i64 (y.1.a:Int),.int .i64 (y.1.p:Int)] 122)).rowIs wr.heap.size 122 6 (six (.int .i64 (y.1.i.k:Int)) (.string y.1.i.nm) (.slice ad y.1.i.cd.length cp) (.int .i64 (y.1.i.fl:Int)) (.int .i64 (y.1.a:Int)) (.int .i64 (y.1.p:Int)))):=zcs _ _ _ _ _ _ rfl;have HBE:=ze hbe;have HML2:=ze (hml2.below hal);have HCD2:=ze (zA hcd2 hal);have HBY:=ze (zA hby hal);have HBE2:=ze (zD hbe hal);have hcl33:=hoky.2.2.2.2.1;clear hir2 hml2 hcd2 hsh hby hbe hal hmem hmr hoky HOK;go_wp2_with fail
      refine(HFA.out).mono ?_;rintro e w4 ⟨rfl,hb4⟩;have hrow4:=zf HROW.out hb4;obtain⟨d0,d1,d2,d3,d4,d5⟩:=zU hrow4;have HBE4:=ze (zD HBE2.out hb4);have HROW4:=ze hrow4;by_cases hf:flt (yu s) y.1=0
      ·have HCW:=ze (zeK y.1 ad y.1.i.cd.length cp (yu s) _ _ _ HOY (fun q hq=>HLB.out _ q hq) _ (HML2.out.below hb4) (zA HCD2.out hb4) (by have:=HBE4.out.size;have:=HB3.out.size;have:=HSZ.out;omega));have HST:=ze (zmo (f:=yu s) (by rw[List.length_map];exact hlt) HY2.out hf HR.out);have HBY4:=ze (zA HBY.out hb4);unfold itY at HCW;rw[hf];have hcw0:=cwt_ne HOY.out hne hf;have hcwl:(cwt (yu s) y.1).length<=33:=by rw[ziK (f:=yu s) HOY.out];exact hcl33
       obtain⟨cw,HCE⟩:∃cw,Hid (cw=cwt (yu s) y.1):=⟨_,rfl⟩;rw[<-HCE.out] at hcw0 hcwl HCW HST;clear hf hb4 hrow4 HFA HROW4 HROW HCE;go_wp2_with fail
       refine(HCW.out).mono ?_;rintro e w5 ⟨v5,rfl,hby5,hb5⟩;have HBY5:=ze (zA HBY4.out hb5);have HBE5:=ze (zD HBE4.out hb5);obtain⟨g5,cap5,e5,_,_,_⟩:=zB hby5 (by omega);subst e5;have HSRC:=ze (World.ownsRow.cells hby5 (g:=g5) rfl);clear hby5 hb5 HCW HBY4 HBY HBE2 HBE4 HBE HCD2 HML2;go_wp2_with (at_builtin;obtain⟨hi0,hz0,hz1,hz2⟩:=HI.out;refine wpList_append_own _ rfl _ _ 26 rfl w3.heap.size 5 i0 (.int .u8 0) 1 1 (by kernel_rfl) hi0 hz0 hz1 hz2 rfl (by decide) _ _ _ rfl HBY5.out ⟨g5,0,none⟩ cw.length cap5 (cw.map u8v) rfl (by rw[List.length_map,Nat.mul_one]) HSRC.out (by intro u hu;obtain⟨b,_,rfl⟩:=List.mem_map.1 hu;rfl) (by unfold maxLen;omega) (by omega) HBE5.out.size ?_;intro v6 w6 ho6 hgr _;obtain⟨g',cap',rfl,hg1',hg2',hg3'⟩:=zB ho6 (by omega);have HGR:=ze hgr;have HO6:=ze ho6;clear hgr ho6 hi0 hz0 hz1 hz2 hg1' hg2' hg3')
       go_roundw
       case rel=>exact⟨j+1,c++cw,by go_num,by show World.ownsRow _ _ _ _ _ _ _;rw[List.length_append,List.map_append];exact HO6.out,HBE5.out.grown HGR.out HBE5.out.size (zgu HBY5.out),by rw[List.length_append];omega,by omega,HST⟩
       case measure=>simp[RowKit.intOf];omega
      ·have HE:Hid (asm s=(⟨#[]⟩,flt (yu s) y.1,y.1.a)):=HFAULT.out _ _ (rn2_bad (f:=yu s) (by rw[List.length_map];exact hlt) HY2.out hf HR.out);have HBX:Hid (Below w.heap.size w w4):=zD (zD HB2.out HB3.out) HBE4.out;have hfd:((flt (yu s) y.1:Int) !=0)=true:=by simp;omega
       have hfl:flt (yu s) y.1<=4:=flt_le HOY.out;generalize flt (yu s) y.1=fe at*;clear hf hb4 hrow4 HFA HROW4 HROW HBE4;go_wp2
       go_region
       all_goals (try go_wp2)
       all_goals refine bodyPost_ret (v:=zan s) ?_ rfl ⟨rfl,HBX.out.drew⟩
       all_goals unfold zan
       all_goals rw[HE.out]
       all_goals simp[results,results28,go_sem]
     ·have HE:Hid (rn2 (yu s) (ZM s) []=.inl c):=by show _=_;rw[<-HR.out,List.drop_of_length_le (by rw[List.length_map];omega)];rfl
      have HBX:Hid (Below w.heap.size w wr):=zD (zD HB2.out HB3.out) hbe;by_cases hbig:1000<c.length
      ·have HA:=ze (HBIG.out c HE.out hbig);obtain⟨g9,cap9,e9,_,_,_⟩:=zB hby (by omega);subst e9;have hdb:decide ((1000:Int)<(c.length:Int))=true:=decide_eq_true (by omega);clear hby hbe;go_wp2;refine bodyPost_ret (v:=zan s) ?_ rfl ⟨rfl,HBX.out⟩;unfold zan;rw[HA.out];simp[results,results28,go_sem]
      ·have HA:=ze (HCODE.out c HE.out hbig);have hdb:decide ((1000:Int)<(c.length:Int))=false:=decide_eq_false (by omega);rcases hby.2 with⟨e9,hn9⟩|⟨g9,cap9,cur9,e9,_⟩
       ·have e10:c=[]:=List.length_eq_zero_iff.1 hn9;subst e9 e10;have hcv:=zeU wr;clear hby hbe;go_wp2;refine bodyPost_ret (v:=zan s) ?_ rfl ⟨rfl,HBX.out⟩;unfold zan;rw[HA.out];simp[results,results28,go_sem]
       ·subst e9;have hcv:=cvt_bys hby;clear hby hbe;go_wp2;refine bodyPost_ret (v:=zan s) ?_ rfl ⟨rfl,HBX.out⟩;unfold zan;rw[HA.out];simp[results,results28,go_sem]
end
theorem zkp (s c:ByteArray) (h:asm s=(c,0,0)) (w:World):Calls prog 10 #[.string s] w fun e w'=>e=.returned (.string c)/\Below w.heap.size w w':=by
 have HA:Hid (∀w,Calls prog 28 #[.string s] w fun e w'=>e=.returned (.tuple #[.string c,.int .i64 0,.int .i64 0])/\Below w.heap.size w w'):=fun w=>(zdt s w).mono fun e w' ⟨h1,h2⟩=>⟨by rw[h1,zan,h];rfl,h2⟩
 clear h;go_enter func10,ntmps10;go_wp2_with fail
 refine(HA.out _).mono ?_;rintro e w1 ⟨rfl,hb1⟩;have HB:=ze hb1;clear hb1;go_wp2;go_ret;exact⟨rfl,HB.out⟩
def ZK (base:Nat) (ds:List Nat) (n:Nat):Nat:=ds.foldl (fun n d=>n*base+d) n
theorem zdw (base:Nat) (hb:1<=base):∀(ds:List Nat) (n:Nat),n<=ZK base ds n
 |[],n=>Nat.le_refl n
 |d::r,n=>by
  have h:=zdw base hb r (n*base+d);have h2:n<=n*base:=Nat.le_mul_of_pos_right n hb;exact Nat.le_trans (by omega) h
theorem ze8 (s:ByteArray) (base:Nat) (hb:1<=base):∀(ds:List Nat) (f p n:Nat),p+ds.length=s.size->ds.length<=f->(∀i (h:i<ds.length),dgt (byt s (p+i))=ds[i])->(∀d∈ds,d<base)->ZK base ds n<M->zax s base f p n false=some (ZK base ds n,false)
 |[],f,p,n,hp,_,_,_,_=>zhf s base f p n false (by simp at hp;omega)
 |d::r,0,p,n,hp,hf,_,_,_=>by simp at hf
 |d::r,f+1,p,n,hp,hf,hd,hl,hm=>by
  have h0:=hd 0 (by simp);simp only[Nat.add_zero,List.getElem_cons_zero] at h0;have hd0:d<base:=hl d (by simp);have hge:n*base+d<=ZK base r (n*base+d):=zdw base hb r _;have hm2:ZK base r (n*base+d)<M:=hm;have hlt:n*base+d<M:=by omega
  have hps:p<s.size:=by simp at hp;omega
  have ih:=ze8 s base hb r f (p+1) (n*base+d) (by simp at hp;omega) (by simp at hf;omega) (fun i hi=>by
   have:=hd (i+1) (by simp;omega);rw[show p+1+i=p+(i+1) by omega,this];simp) (fun e he=>hl e (by simp[he])) hm2
  show(if p<s.size then(if dgt (byt s p)<base then zax s base f (p+1) ((n*base+dgt (byt s p))%M) (false||decide (M<=n*base+dgt (byt s p))) else none) else some (n,false))=_;rw[if_pos hps,h0,if_pos hd0,Nat.mod_eq_of_lt hlt,decide_eq_false (by omega),Bool.false_or,ih];rfl
def zak:Nat->Nat->List Nat
 |0,k=>[k]
 |f+1,k=>if k<10 then[k] else zak f (k/10)++[k%10]
theorem zcn (base:Nat) (a b:List Nat) (n:Nat):ZK base (a++b) n=ZK base b (ZK base a n):=by
 unfold ZK;rw[List.foldl_append]
theorem zcj:∀f k,ZK 10 (zak f k) 0=k
 |0,k=>by simp[zak,ZK]
 |f+1,k=>by
  unfold zak;split
  ·simp[ZK]
  ·rw[zcn,zcj f (k/10)];show k/10*10+k%10=k;omega
theorem zaY:∀f k,k<10^(f+1)->∀d∈zak f k,d<10
 |0,k,h,d,hd=>by simp[zak] at hd;subst hd;simpa using h
 |f+1,k,h,d,hd=>by
  unfold zak at hd;split at hd
  ·simp at hd;omega
  ·rcases List.mem_append.1 hd with h1|h1
   ·exact zaY f (k/10) (by rw[Nat.pow_succ] at h;omega) d h1
   ·simp at h1;omega
theorem zab:∀f k,bl (yc f k)=(zak f k).map fun d=>UInt8.ofNat (48+d)
 |0,k=>rfl
 |f+1,k=>by
  unfold yc zak;split
  ·rfl
  ·rw[List.map_append,<-zab f (k/10)];unfold bl;simp
theorem ziT (d:Nat) (h:d<10):dgt (UInt8.ofNat (48+d)).toNat=d:=by
 rw[UInt8.toNat_ofNat_of_lt' (by show _<256;omega)];unfold dgt;rw[if_pos (by omega)];omega
theorem dgt_hex (d:Nat) (h:d<16):dgt (zbR d).toNat=d:=by
 unfold zbR;split
 ·exact ziT d (by omega)
 ·rw[UInt8.toNat_ofNat_of_lt' (by show _<256;omega)];unfold dgt;rw[if_neg (by omega),if_pos (by omega)];omega
theorem zhs (s:ByteArray) (base:Nat) (hb:1<=base) (ds:List Nat) (g:Nat->UInt8) {v:Nat} (hs:bl s=ds.map g) (hg:∀d∈ds,dgt (g d).toNat=d) (hl:∀d∈ds,d<base) (hv:ZK base ds 0=v) (hm:v<M):num s base=some (v,false):=by
 have hlen:ds.length=s.size:=by
  have:=congrArg List.length hs;rw[List.length_map] at this;exact this.symm
 have h2:=ze8 s base hb ds s.size 0 0 (by omega) (by omega) (fun i hi=>by
  rw[Nat.zero_add,ZO,hs,List.getD_eq_getElem?_getD,List.getElem?_map,List.getElem?_eq_getElem hi];exact hg _ (List.getElem_mem hi)) hl (by rw[hv];exact hm)
 rw[hv] at h2;exact h2
theorem num_dec (f k:Nat) (h:k<10^(f+1)) (hm:k<M):num (yc f k) 10=some (k,false):=by
 have hl:(zak f k).length=(yc f k).size:=by
  have:=congrArg List.length (zab f k);rw[List.length_map] at this;exact this.symm
 have h2:=ze8 (yc f k) 10 (by omega) (zak f k) (yc f k).size 0 0 (by omega) (by omega) (fun i hi=>by
  rw[Nat.zero_add,ZO,zab,List.getD_eq_getElem?_getD,List.getElem?_map,List.getElem?_eq_getElem hi];exact ziT _ (zaY f k h _ (List.getElem_mem hi))) (zaY f k h) (by rw[zcj];exact hm)
 rw[zcj] at h2;exact h2
def YU (n:Nat):Nat->List Nat
 |0=>[]
 |k+1=>YU n k++[n/16^(63 - k)%16]
theorem zfK (n:Nat):∀k,k<=64->ZK 16 (YU n k) 0=n/16^(64 - k)%16^k
 |0,_=>by simp[YU,ZK,Nat.mod_one]
 |k+1,h=>by
  unfold YU;rw[zcn,zfK n k (by omega)];show n/16^(64 - k)%16^k*16+n/16^(63 - k)%16=n/16^(64 - (k+1))%16^(k+1);rw[show 64 - k=(63 - k)+1 by omega,show 64 - (k+1)=63 - k by omega,Nat.pow_succ,<-Nat.div_div_eq_div_mul,Nat.pow_succ 16 k,Nat.mul_comm (16^k) 16,Nat.mod_mul];omega
theorem zbW (n:Nat):∀k,∀d∈YU n k,d<16
 |0,d,h=>by simp[YU] at h
 |k+1,d,h=>by
  unfold YU at h;rcases List.mem_append.1 h with h1|h1
  ·exact zbW n k d h1
  ·simp at h1;rw[h1];exact Nat.mod_lt _ (by omega)
theorem zde (n:Nat):∀k,(YU n k).length=k
 |0=>rfl
 |k+1=>by simp[YU,zde n k]
theorem zb7 (n:Nat):∀k,bl (Zg n k)=[48,120]++(YU n k).map zbR
 |0=>rfl
 |k+1=>by
  unfold Zg YU;rw[List.map_append,<-List.append_assoc,<-zb7 n k];unfold bl;simp
theorem hex_M:(16:Nat)^64=M:=by decide+kernel
theorem num_hex (n:Nat) (s:ByteArray) (hs:bl s=(YU n 64).map zbR):num s 16=some (n%M,false):=by
 have hv:ZK 16 (YU n 64) 0=n%M:=by
  rw[zfK n 64 (Nat.le_refl _),hex_M,Nat.sub_self,Nat.pow_zero,Nat.div_one]
 exact zhs s 16 (by omega) (YU n 64) zbR hs (fun d hd=>dgt_hex d (zbW n 64 d hd)) (zbW n 64) hv (Nat.mod_lt _ (by decide))
def sgn (b:UInt8):Prop:=(48<=b.toNat/\b.toNat<=57)\/(97<=b.toNat/\b.toNat<=102)\/b.toNat=120
def dig (b:UInt8):Prop:=48<=b.toNat/\b.toNat<=57
theorem zfb (d:Nat) (h:d<10):dig (UInt8.ofNat (48+d)):=by
 unfold dig;rw[UInt8.toNat_ofNat_of_lt' (by show 48+d<256;omega)];omega
theorem zmF (d:Nat) (h:d<16):sgn (zbR d):=by
 unfold sgn zbR;by_cases h1:d<10
 ·rw[if_pos h1,UInt8.toNat_ofNat_of_lt' (by show 48+d<256;omega)];omega
 ·rw[if_neg h1,UInt8.toNat_ofNat_of_lt' (by show 87+d<256;omega)];omega
theorem zfv (f k:Nat):zak f k≠[]:=by
 cases f with
 |zero=>simp[zak]
 |succ f=>
  unfold zak;split<;>simp
theorem zq (n:Nat):(∀b∈bl (zi n),sgn b)/\(∃d r,bl (zi n)=d::r/\dig d)/\(zi n).size<=66:=by
 unfold zi;by_cases h:n%M<1000000
 ·rw[if_pos h,zab];have hl:=zaY 6 (n%M) (by omega);refine⟨fun b hb=> ?_, ?_,by have:=zbj 6 (n%M);omega⟩
  ·obtain⟨d,hd,rfl⟩:=List.mem_map.1 hb;exact Or.inl (zfb d (hl d hd))
  ·cases e:zak 6 (n%M) with
   |nil=>exact absurd e (zfv _ _)
   |cons d r=>exact⟨_,_,rfl,zfb d (hl d (by rw[e];simp))⟩
 ·rw[if_neg h,zb7];refine⟨fun b hb=> ?_,⟨48,_,rfl,by unfold dig;decide⟩,by rw[ZR];omega⟩;rcases List.mem_append.1 hb with h1|h1
  ·simp at h1;rcases h1 with rfl|rfl
   ·exact Or.inl (by decide)
   ·exact Or.inr (Or.inr rfl)
  ·obtain⟨d,hd,rfl⟩:=List.mem_map.1 h1;exact zmF d (zbW n 64 d hd)
theorem zbs {l:List UInt8} (h:∀b∈l,sgn b):Plain l:=fun b hb=>by
 have:=h b hb;unfold sgn at this;refine⟨by omega, ?_⟩;unfold yW;rw[decide_eq_false_iff_not];omega
def capB (l:List UInt8):Bool:=decide (57<(l.getD 0 0).toNat)
theorem zfw {l:List UInt8} {d:UInt8} {r:List UInt8} (h:capB l=true) (hd:dig d):d::r≠l:=fun e=>by
 subst e;unfold capB at h;have h1:=of_decide_eq_true h;unfold dig at hd;have:((d::r).getD 0 0).toNat=d.toNat:=rfl;omega
theorem zfd {tab:List (List UInt8×Nat)} {d:UInt8} {r:List UInt8} (h:(tab.all fun p=>capB p.1)=true) (hd:dig d):lk tab (d::r)=none:=
 zhz tab _ fun p hp e=>zfw (List.all_eq_true.1 h p hp) hd e.symm
theorem zjo {l:List UInt8}:∀(f i:Nat),(∀j,i<=j->j<i+f->l≠bl (dup j)/\l≠bl (swp j))->zaC l f i=none
 |0,_,_=>rfl
 |f+1,i,h=>by
  unfold zaC;obtain⟨h1,h2⟩:=h i (Nat.le_refl _) (by omega);rw[if_neg h1,if_neg h2];exact zjo f (i+1) fun j hj hj2=>h j (by omega) (by omega)
theorem zjj {l:List UInt8}:∀(f i:Nat),(∀j,i<=j->j<i+f->l≠bl (lgs j))->zbx l f i=none
 |0,_,_=>rfl
 |f+1,i,h=>by
  unfold zbx;rw[if_neg (h i (Nat.le_refl _) (by omega))];exact zjj f (i+1) fun j hj hj2=>h j (by omega) (by omega)
theorem dups:((List.range 16).all fun j=>capB (bl (dup j))&&capB (bl (swp j))&&capB (bl (lgs j)))=true:=by kernel_rfl
theorem zhC {d:UInt8} {r:List UInt8} (hd:dig d) (j:Nat) (hj:j<16):d::r≠bl (dup j)/\d::r≠bl (swp j)/\d::r≠bl (lgs j):=by
 have:=List.all_eq_true.1 dups j (List.mem_range.2 hj);simp only[Bool.and_eq_true] at this;exact⟨zfw this.1.1 hd,zfw this.1.2 hd,zfw this.2 hd⟩
theorem zkb {s:ByteArray} {d:UInt8} {r:List UInt8} (h:bl s=d::r) (hd:dig d):YL s=none:=by
 unfold YL YA;rw[h,zfd (by kernel_rfl) hd,zfd (by kernel_rfl) hd,zfd (by kernel_rfl) hd,zfd (by kernel_rfl) hd,zjo 16 0 (fun j _ hj=>⟨(zhC hd j (by omega)).1,(zhC hd j (by omega)).2.1⟩),zjj 5 0 (fun j _ hj=>(zhC hd j (by omega)).2.2)];rfl
theorem isL_num (n:Nat):isL (zi n)=false:=by
 obtain⟨h1,⟨d,r,h2,hd⟩,_⟩:=zq n;unfold isL;rw[zlI]
 have hs:1<=(zi n).size:=by
  have:(bl (zi n)).length=(zi n).size:=rfl;rw[<-this,h2];simp
 have hb:byt (zi n) ((zi n).size - 1)≠58:=by
  rw[ZO];have hlt:(zi n).size - 1<(bl (zi n)).length:=by rw[Yl];omega
  rw[List.getD_eq_getElem?_getD,List.getElem?_eq_getElem hlt];have:=h1 _ (List.getElem_mem hlt);unfold sgn at this;simp only[Option.getD_some];omega
 rw[decide_eq_false hb,Bool.and_false,Bool.false_and]
theorem isA_num (n:Nat):isA (zi n)=false:=by
 obtain⟨h1,⟨d,r,h2,hd⟩,_⟩:=zq n;unfold isA
 have hs:0<(zi n).size:=by
  have:(bl (zi n)).length=(zi n).size:=rfl;rw[<-this,h2];simp
 rw[zl3 _ hs]
 have hb:byt (zi n) 0≠64:=by
  rw[ZO,h2];unfold dig at hd;show d.toNat≠64;omega
 rw[decide_eq_false hb,Bool.false_and]
theorem zlb (n:Nat):zah (nt (zi n)) (nb (zi n))=some (n%M,false):=by
 have hM:n%M<M:=Nat.mod_lt _ (by decide);unfold zi;by_cases h:n%M<1000000
 ·rw[if_pos h]
  have hn:nt (yc 6 (n%M))=yc 6 (n%M)/\nb (yc 6 (n%M))=10:=by
   unfold nt nb
   have hc:(decide (2<(yc 6 (n%M)).size)&&(((yc 6 (n%M)).extract 0 2).toList==x0.toList))=false:=by
    by_cases h2:2<(yc 6 (n%M)).size
    ·rw[decide_eq_true h2,Bool.true_and,beq_eq_false_iff_ne];intro e;rw[Go.ByteArray.toList_eq,Go.ByteArray.toList_eq] at e;have e2:bl ((yc 6 (n%M)).extract 0 2)=[48,120]:=e;rw[yz,zab] at e2;have hl:=zaY 6 (n%M) (by omega);cases e3:zak 6 (n%M) with
     |nil=>exact zfv _ _ e3
     |cons d r=>
      cases r with
      |nil=>
       rw[e3] at e2;have:=congrArg List.length e2;simp at this
      |cons d2 r=>
       rw[e3] at e2;simp only[List.map_cons,List.drop_zero,Nat.sub_zero,List.take_succ_cons,List.take_zero,List.cons.injEq,and_true] at e2;have:=zfb d2 (hl d2 (by rw[e3];simp));rw[e2.2] at this;unfold dig at this;have h5:(120:UInt8).toNat=120:=rfl;omega
    ·rw[decide_eq_false h2,Bool.false_and]
   rw[hc];exact⟨rfl,rfl⟩
  rw[hn.1,hn.2];unfold zah;rw[num_dec 6 (n%M) (by omega) hM]
  have hz:(yc 6 (n%M)).size≠0:=by
   have:(bl (yc 6 (n%M))).length=(yc 6 (n%M)).size:=rfl;rw[<-this,zab,List.length_map];exact fun e=>zfv _ _ (List.eq_nil_of_length_eq_zero e)
  simp[hz]
 ·rw[if_neg h]
  have hc:(decide (2<(Zg n 64).size)&&(((Zg n 64).extract 0 2).toList==x0.toList))=true:=by
   rw[ZR,decide_eq_true (by omega),Bool.true_and,Go.ByteArray.toList_eq,Go.ByteArray.toList_eq,beq_iff_eq];show bl ((Zg n 64).extract 0 2)=[48,120];rw[yz,zb7];rfl
  have hn:nt (Zg n 64)=(Zg n 64).extract 2 (Zg n 64).size/\nb (Zg n 64)=16:=by
   unfold nt nb;rw[hc];exact⟨rfl,rfl⟩
  have hbl:bl ((Zg n 64).extract 2 (Zg n 64).size)=(YU n 64).map zbR:=by
   have hl:((YU n 64).map zbR).length=64:=by rw[List.length_map,zde]
   rw[yz,zb7,ZR];generalize(YU n 64).map zbR=X at hl;show X.take (64+2 - 2)=X;rw[List.take_of_length_le (by omega)]
  rw[hn.1,hn.2];unfold zah;rw[num_hex n _ hbl]
  have hz:((Zg n 64).extract 2 (Zg n 64).size).size≠0:=by
   have:(bl ((Zg n 64).extract 2 (Zg n 64).size)).length=((Zg n 64).extract 2 (Zg n 64).size).size:=rfl;rw[<-this,hbl,List.length_map,zde];omega
  show(if _ then none else some (n%M,false))=_;rw[if_neg hz]
theorem zfs (n:Nat):itm (zi n)=⟨0,⟨#[]⟩,zo (n%M),0⟩:=by
 obtain⟨_,⟨d,r,h2,hd⟩,_⟩:=zq n;unfold itm;rw[isL_num,isA_num];show itN (zi n)=_;unfold itN;rw[zkb h2 hd,zlb];rfl
def nmsL:List (List UInt8):=[[65,68,68],[77,85,76],[83,85,66],[68,73,86],[83,68,73,86],[77,79,68],[83,77,79,68],[65,68,68,77,79,68],[77,85,76,77,79,68],[69,88,80],[83,73,71,78,69,88,84,69,78,68],[76,84],[71,84],[83,76,84],[83,71,84],[69,81],[73,83,90,69,82,79],[65,78,68],[79,82],[88,79,82],[78,79,84],[66,89,84,69],[83,72,76],[83,72,82],[83,65,82]]
def opsL:List Nat:=[1,2,3,4,5,6,7,8,9,10,11,16,17,18,19,20,21,22,23,24,25,26,27,28,29]
def wordsL:List UInt8:=[59,32,119,111,114,100,115,10]
def tailL:List UInt8:=[32,64,103,114,195,182,195,159,101,32,74,85,77,80,32,83,84,79,80,32,103,114,195,182,195,159,101,58,32,49,32,83,83,84,79,82,69,10,49,32,83,76,79,65,68,32,48,32,77,83,84,79,82,69,32,51,50,32,48,32,82,69,84,85,82,78]
def grL:ByteArray:=⟨#[103,114,195,182,195,159,101]⟩
def restL (k:Nat):List UInt8:=wordsL++(nmsL.getD k []++tailL)
def zt (k:Nat):ByteArray:=⟨(restL k).toArray⟩
def ZW (op:Nat):List It:=[⟨0,⟨#[]⟩,[UInt8.ofNat op],0⟩,⟨2,grL,[97,0,0],0⟩,⟨0,⟨#[]⟩,[86],0⟩,⟨0,⟨#[]⟩,[0],0⟩,⟨1,grL,[91],0⟩,⟨0,⟨#[]⟩,[96,1],0⟩,⟨0,⟨#[]⟩,[85],0⟩,⟨0,⟨#[]⟩,[96,1],0⟩,⟨0,⟨#[]⟩,[84],0⟩,⟨0,⟨#[]⟩,[95],0⟩,⟨0,⟨#[]⟩,[82],0⟩,⟨0,⟨#[]⟩,[96,32],0⟩,⟨0,⟨#[]⟩,[95],0⟩,⟨0,⟨#[]⟩,[243],0⟩]
theorem its0:(spl (zt 0)).map (fun x=>itm x.1)=ZW 1:=by kernel_rfl
theorem cnt0:(cnt (zt 0)).2=true/\decide ((zt 0).size<=200)=true:=⟨by kernel_rfl,by kernel_rfl⟩
theorem its1:(spl (zt 1)).map (fun x=>itm x.1)=ZW 2:=by kernel_rfl
theorem cnt1:(cnt (zt 1)).2=true/\decide ((zt 1).size<=200)=true:=⟨by kernel_rfl,by kernel_rfl⟩
theorem its2:(spl (zt 2)).map (fun x=>itm x.1)=ZW 3:=by kernel_rfl
theorem cnt2:(cnt (zt 2)).2=true/\decide ((zt 2).size<=200)=true:=⟨by kernel_rfl,by kernel_rfl⟩
theorem its3:(spl (zt 3)).map (fun x=>itm x.1)=ZW 4:=by kernel_rfl
theorem cnt3:(cnt (zt 3)).2=true/\decide ((zt 3).size<=200)=true:=⟨by kernel_rfl,by kernel_rfl⟩
theorem its4:(spl (zt 4)).map (fun x=>itm x.1)=ZW 5:=by kernel_rfl
theorem cnt4:(cnt (zt 4)).2=true/\decide ((zt 4).size<=200)=true:=⟨by kernel_rfl,by kernel_rfl⟩
theorem its5:(spl (zt 5)).map (fun x=>itm x.1)=ZW 6:=by kernel_rfl
theorem cnt5:(cnt (zt 5)).2=true/\decide ((zt 5).size<=200)=true:=⟨by kernel_rfl,by kernel_rfl⟩
theorem its6:(spl (zt 6)).map (fun x=>itm x.1)=ZW 7:=by kernel_rfl
theorem cnt6:(cnt (zt 6)).2=true/\decide ((zt 6).size<=200)=true:=⟨by kernel_rfl,by kernel_rfl⟩
theorem its7:(spl (zt 7)).map (fun x=>itm x.1)=ZW 8:=by kernel_rfl
theorem cnt7:(cnt (zt 7)).2=true/\decide ((zt 7).size<=200)=true:=⟨by kernel_rfl,by kernel_rfl⟩
theorem its8:(spl (zt 8)).map (fun x=>itm x.1)=ZW 9:=by kernel_rfl
theorem cnt8:(cnt (zt 8)).2=true/\decide ((zt 8).size<=200)=true:=⟨by kernel_rfl,by kernel_rfl⟩
theorem its9:(spl (zt 9)).map (fun x=>itm x.1)=ZW 10:=by kernel_rfl
theorem cnt9:(cnt (zt 9)).2=true/\decide ((zt 9).size<=200)=true:=⟨by kernel_rfl,by kernel_rfl⟩
theorem its10:(spl (zt 10)).map (fun x=>itm x.1)=ZW 11:=by kernel_rfl
theorem cnt10:(cnt (zt 10)).2=true/\decide ((zt 10).size<=200)=true:=⟨by kernel_rfl,by kernel_rfl⟩
theorem its11:(spl (zt 11)).map (fun x=>itm x.1)=ZW 16:=by kernel_rfl
theorem cnt11:(cnt (zt 11)).2=true/\decide ((zt 11).size<=200)=true:=⟨by kernel_rfl,by kernel_rfl⟩
theorem its12:(spl (zt 12)).map (fun x=>itm x.1)=ZW 17:=by kernel_rfl
theorem cnt12:(cnt (zt 12)).2=true/\decide ((zt 12).size<=200)=true:=⟨by kernel_rfl,by kernel_rfl⟩
theorem its13:(spl (zt 13)).map (fun x=>itm x.1)=ZW 18:=by kernel_rfl
theorem cnt13:(cnt (zt 13)).2=true/\decide ((zt 13).size<=200)=true:=⟨by kernel_rfl,by kernel_rfl⟩
theorem its14:(spl (zt 14)).map (fun x=>itm x.1)=ZW 19:=by kernel_rfl
theorem cnt14:(cnt (zt 14)).2=true/\decide ((zt 14).size<=200)=true:=⟨by kernel_rfl,by kernel_rfl⟩
theorem its15:(spl (zt 15)).map (fun x=>itm x.1)=ZW 20:=by kernel_rfl
theorem cnt15:(cnt (zt 15)).2=true/\decide ((zt 15).size<=200)=true:=⟨by kernel_rfl,by kernel_rfl⟩
theorem its16:(spl (zt 16)).map (fun x=>itm x.1)=ZW 21:=by kernel_rfl
theorem cnt16:(cnt (zt 16)).2=true/\decide ((zt 16).size<=200)=true:=⟨by kernel_rfl,by kernel_rfl⟩
theorem its17:(spl (zt 17)).map (fun x=>itm x.1)=ZW 22:=by kernel_rfl
theorem cnt17:(cnt (zt 17)).2=true/\decide ((zt 17).size<=200)=true:=⟨by kernel_rfl,by kernel_rfl⟩
theorem its18:(spl (zt 18)).map (fun x=>itm x.1)=ZW 23:=by kernel_rfl
theorem cnt18:(cnt (zt 18)).2=true/\decide ((zt 18).size<=200)=true:=⟨by kernel_rfl,by kernel_rfl⟩
theorem its19:(spl (zt 19)).map (fun x=>itm x.1)=ZW 24:=by kernel_rfl
theorem cnt19:(cnt (zt 19)).2=true/\decide ((zt 19).size<=200)=true:=⟨by kernel_rfl,by kernel_rfl⟩
theorem its20:(spl (zt 20)).map (fun x=>itm x.1)=ZW 25:=by kernel_rfl
theorem cnt20:(cnt (zt 20)).2=true/\decide ((zt 20).size<=200)=true:=⟨by kernel_rfl,by kernel_rfl⟩
theorem its21:(spl (zt 21)).map (fun x=>itm x.1)=ZW 26:=by kernel_rfl
theorem cnt21:(cnt (zt 21)).2=true/\decide ((zt 21).size<=200)=true:=⟨by kernel_rfl,by kernel_rfl⟩
theorem its22:(spl (zt 22)).map (fun x=>itm x.1)=ZW 27:=by kernel_rfl
theorem cnt22:(cnt (zt 22)).2=true/\decide ((zt 22).size<=200)=true:=⟨by kernel_rfl,by kernel_rfl⟩
theorem its23:(spl (zt 23)).map (fun x=>itm x.1)=ZW 28:=by kernel_rfl
theorem cnt23:(cnt (zt 23)).2=true/\decide ((zt 23).size<=200)=true:=⟨by kernel_rfl,by kernel_rfl⟩
theorem its24:(spl (zt 24)).map (fun x=>itm x.1)=ZW 29:=by kernel_rfl
theorem cnt24:(cnt (zt 24)).2=true/\decide ((zt 24).size<=200)=true:=⟨by kernel_rfl,by kernel_rfl⟩
end cin
end Go.Proofs.YtohoajjdoihekaaGreatDoor
