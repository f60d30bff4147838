import Derived.Test.YtohoajjdoihekaaGreatDoorHw
set_option linter.unusedVariables false
set_option linter.unusedSimpArgs false
namespace Go.Proofs.YtohoajjdoihekaaGreatDoor
namespace cin
open Go.RowKit Go.Proofs.Tryz Tryz
set_option maxRecDepth 100000
set_option maxHeartbeats 8000000
section
open Go.Maps
def Fz.sj (F:Fz) (t j:Value):Fz:={F with trail:=t,jd:=j}
def sjR {α:Type} (t j:Value) (r:Option (α×Fz)):Option (α×Fz):=r.map fun y=>(y.1,y.2.sj t j)
section
variable {t j:Value} {α β:Type}
theorem yN (a:α) (F:Fz):sjR t j (some (a,F))=some (a,F.sj t j):=rfl
theorem Zq {r:Option (α×Fz)} {k k':Option (β×Fz)} (h:r≠none->k'=sjR t j k):zM (sjR t j r) k'=sjR t j (zM r k):=by
 cases r with
 |none=>rfl
 |some y=>exact h (by simp)
theorem yw (r:Option (Nat×Fz)):zC (sjR t j r)=zC r:=by cases r<;>rfl
theorem Zw {r:Option (α×Fz)} (h:r≠none):zh (sjR t j r)=(zh r).sj t j:=by
 cases r with
 |none=>exact absurd rfl h
 |some y=>rfl
theorem part_sj (r:Option ((Nat×Nat)×Fz)):YS (sjR t j r)=YS r:=by cases r<;>rfl
theorem zjZ {r:Option ((Nat×Nat)×Fz)} (h:r≠none) (L:List UInt8):yK (sjR t j r) L=(yK r L).sj t j:=by
 cases r with
 |none=>exact absurd rfl h
 |some y=>rfl
theorem Zz (F:Fz):zi (F.sj t j)=sjR t j (zi F):=by
 unfold zi;show(match F.st with|[]=>none|n::r=>some (n,{F.sj t j with st:=r}))=_;cases F.st<;>rfl
theorem yQ (n:Nat) (F:Fz):zm n (F.sj t j)=sjR t j (zm n F):=by
 unfold zm;show(if F.st.length=1024 then none else some ((),{F.sj t j with st:=n::F.st}))=_;by_cases h:F.st.length=1024
 ·rw[if_pos h,if_pos h];rfl
 ·rw[if_neg h,if_neg h];rfl
theorem zlj (c:Nat) (F:Fz):yt c (F.sj t j)=sjR t j (yt c F):=by
 unfold yt;show(if F.gas<c then none else some ((),{F.sj t j with gas:=F.gas - c}))=_;by_cases h:F.gas<c
 ·rw[if_pos h,if_pos h];rfl
 ·rw[if_neg h,if_neg h];rfl
theorem grow_sj (n:Nat) (F:Fz):yc n (F.sj t j)=sjR t j (yc n F):=by
 unfold yc;rw[zlj];show(if n<=zA F.mem.length then some ((),F.sj t j) else match sjR t j (yt (3*(n - zA F.mem.length)) F) with|none=>none|some (_,F1)=>some ((),{F1 with mem:=F1.mem++List.replicate (32*(n - zA F.mem.length)) 0}))=_;by_cases h:n<=zA F.mem.length
 ·rw[if_pos h,if_pos h];rfl
 ·rw[if_neg h,if_neg h];cases yt (3*(n - zA F.mem.length)) F<;>rfl
theorem yP (p n:Nat) (F:Fz):zl p n (F.sj t j)=sjR t j (zl p n F):=by
 unfold zl;rw[grow_sj];by_cases h:n%M=0
 ·rw[if_pos h,if_pos h];rfl
 ·rw[if_neg h,if_neg h];by_cases h2:yz p n 65536
  ·rw[if_pos h2,if_pos h2];cases yc (zA (p%M+n%M)) F<;>rfl
  ·rw[if_neg h2,if_neg h2];rfl
theorem zib (F:Fz):∀n,Zc n (F.sj t j)=sjR t j (Zc n F)
 |0=>rfl
 |n+1=>by
  rw[Zc,Zc,zib F n];cases Zc n F with
  |none=>rfl
  |some y=>
   obtain⟨l,G⟩:=y;show(match zi (G.sj t j) with|none=>none|some (n,G')=>some (l++[n],G'))=sjR t j (match zi G with|none=>none|some (n,G')=>some (l++[n],G'));rw[Zz];cases zi G<;>rfl
theorem oper_sj (op:Nat) (F:Fz):zeb op (F.sj t j)=sjR t j (zeb op F):=by
 unfold zeb;rw[zib];cases Zc (yq op) F with
 |none=>rfl
 |some y=>
  obtain⟨l,G⟩:=y;show(match(if op=10 then yt (10*(pl (l.getD 1 0) 0).length) (G.sj t j) else some ((),G.sj t j)) with|none=>none|some (_,G2)=>zm (Zx op (l.getD 0 0%M) (l.getD 1 0%M) (l.getD 2 0%M)) G2)=sjR t j (match(if op=10 then yt (10*(pl (l.getD 1 0) 0).length) G else some ((),G)) with|none=>none|some (_,G2)=>zm (Zx op (l.getD 0 0%M) (l.getD 1 0%M) (l.getD 2 0%M)) G2);by_cases h:op=10
  ·rw[if_pos h,if_pos h,zlj];cases yt (10*(pl (l.getD 1 0) 0).length) G with
   |none=>rfl
   |some z=>obtain⟨u,G2⟩:=z;exact yQ _ G2
  ·rw[if_neg h,if_neg h];exact yQ _ G
theorem zhk (n:Nat) (F:Fz):Zy n (F.sj t j)=sjR t j (Zy n F):=by
 unfold Zy;rw[yQ];show(match sjR t j (zm (ofL (zN F.code (F.nx%M) n)) F) with|none=>none|some (_,F1)=>some ((),{F1 with nx:=F1.nx+n}))=_;cases zm (ofL (zN F.code (F.nx%M) n)) F<;>rfl
theorem dup_sj (n:Nat) (F:Fz):ziP n (F.sj t j)=sjR t j (ziP n F):=by
 unfold ziP;rw[yQ];show(if n<=F.st.length then sjR t j (zm (F.st.getD (n - 1) 0) F) else none)=_;by_cases h:n<=F.st.length
 ·rw[if_pos h,if_pos h]
 ·rw[if_neg h,if_neg h];rfl
theorem swap_sj (n:Nat) (F:Fz):zce n (F.sj t j)=sjR t j (zce n F):=by
 unfold zce;show(if n<F.st.length then some ((),{F.sj t j with st:=zbH n F.st}) else none)=_;by_cases h:n<F.st.length
 ·rw[if_pos h,if_pos h];rfl
 ·rw[if_neg h,if_neg h];rfl
theorem end_sj (op:Nat) (F:Fz):zex op (F.sj t j)=sjR t j (zex op F):=by
 unfold zex;by_cases h:op=0
 ·rw[if_pos h,if_pos h];rfl
 ·rw[if_neg h,if_neg h];show(match zi (Fz.sj {F with ended:=true} t j) with|none=>none|some (p,F1)=>match zi F1 with|none=>none|some (n,F2)=>match zl p n F2 with|none=>none|some ((a,b),F3)=>some ((),if op=253 then{F3 with out:=⟨(zL F3.mem a b).toArray⟩,status:=1} else{F3 with out:=⟨(zL F3.mem a b).toArray⟩}))=_;rw[Zz];cases zi {F with ended:=true} with
  |none=>rfl
  |some y=>
   obtain⟨p,F1⟩:=y;simp only[yN];rw[Zz];cases zi F1 with
   |none=>rfl
   |some z=>
    obtain⟨n,F2⟩:=z;simp only[yN];rw[yP];cases zl p n F2 with
    |none=>rfl
    |some q=>
     obtain⟨⟨a,b⟩,F3⟩:=q;simp only[yN];by_cases h2:op=253
     ·rw[if_pos h2,if_pos h2];rfl
     ·rw[if_neg h2,if_neg h2];rfl
theorem zly (p:Nat) (F:Fz):zaz p (F.sj t j)=sjR t j (zaz p F):=by
 unfold zaz;show(if (upB p F.code.size&&(jdL F.code).getD (p%M) false)=true then some ((),{F.sj t j with nx:=p%M}) else none)=_;by_cases h:(upB p F.code.size&&(jdL F.code).getD (p%M) false)=true
 ·rw[if_pos h,if_pos h];rfl
 ·rw[if_neg h,if_neg h];rfl
theorem zqN (F:Fz):zbo (F.sj t j)=sjR t j (zbo F):=by
 unfold zbo;rw[Zz];refine Zq fun h=> ?_
 rw[yw,Zw h,zly]
theorem zm8 (F:Fz):YF (F.sj t j)=sjR t j (YF F):=by
 unfold YF;simp only[zY,Ze,zE];rw[Zz];refine Zq fun h=> ?_
 rw[Zw h,Zz];refine Zq fun h2=> ?_
 rw[yw,yw,Zw h2];split
 ·rfl
 ·exact zly _ _
theorem zke (F:Fz):yI (F.sj t j)=sjR t j (yI F):=by
 unfold yI;rw[Zz];refine Zq fun h=> ?_
 rw[yw,Zw h,yP];refine Zq fun h2=> ?_
 rw[part_sj,Zw h2,yQ]
theorem zif (F:Fz):yk (F.sj t j)=sjR t j (yk F):=by
 unfold yk;simp only[zY,Ze,zE];rw[Zz];refine Zq fun h=> ?_
 rw[Zw h,Zz];refine Zq fun h2=> ?_
 rw[yw,yw,Zw h2,yP];refine Zq fun h3=> ?_
 rw[zjZ h3];rfl
theorem zik (F:Fz):yj (F.sj t j)=sjR t j (yj F):=by
 unfold yj;simp only[zY,Ze,zE];rw[Zz];refine Zq fun h=> ?_
 rw[Zw h,Zz];refine Zq fun h2=> ?_
 rw[yw,yw,Zw h2,yP];refine Zq fun h3=> ?_
 rw[zjZ h3];rfl
theorem zdm (src:ByteArray) (a b n:Nat) (F:Fz):Zb src a b n (F.sj t j)=sjR t j (Zb src a b n F):=by
 unfold Zb;rw[yP];cases zl a n F with
 |none=>rfl
 |some y=>
  obtain⟨⟨c,d⟩,F1⟩:=y;simp only[yN];show(if F1.gas<3*zA d then none else some ((),{F1.sj t j with gas:=F1.gas - 3*zA d,mem:=splice F1.mem c (zN src (b%M) d)}))=_;by_cases h:F1.gas<3*zA d
  ·rw[if_pos h,if_pos h];rfl
  ·rw[if_neg h,if_neg h];rfl
theorem zn6 (a b n:Nat) (F:Fz):YV a b n (F.sj t j)=sjR t j (YV a b n F):=by
 unfold YV;rw[yP];cases zl b n F with
 |none=>rfl
 |some y=>
  obtain⟨⟨c,d⟩,F1⟩:=y;simp only[yN];rw[yP];cases zl a n F1 with
  |none=>rfl
  |some z=>
   obtain⟨⟨e,f⟩,F2⟩:=z;simp only[yN];show(if F2.gas<3*zA d then none else some ((),{F2.sj t j with gas:=F2.gas - 3*zA d,mem:=splice F2.mem e (zL F1.mem c d)}))=_;by_cases h:F2.gas<3*zA d
   ·rw[if_pos h,if_pos h];rfl
   ·rw[if_neg h,if_neg h];rfl
theorem zkp {F:Fz} {g:Nat->Nat->Nat->Fz->Option (Unit×Fz)} (hg:∀a b c G,g a b c (G.sj t j)=sjR t j (g a b c G)):by3 (F.sj t j) (g (zY (F.sj t j)) (Ze (F.sj t j)) (zcB (F.sj t j)) (zaR (F.sj t j)))=sjR t j (by3 F (g (zY F) (Ze F) (zcB F) (zaR F))):=by
 unfold by3;simp only[zY,Ze,zcB,zE,zaR];rw[Zz];refine Zq fun h=> ?_
 rw[Zw h,Zz];refine Zq fun h2=> ?_
 rw[Zw h2,Zz];refine Zq fun h3=> ?_
 rw[yw,yw,yw,Zw h3];exact hg _ _ _ _
theorem zgl (src:ByteArray) (F:Fz):ZV src (F.sj t j)=sjR t j (ZV src F):=zkp (g:=fun a b c G=>Zb src a b c G) (fun a b c G=>zdm src a b c G)
theorem zkN (a b n:Nat) (F:Fz):zag a b n (F.sj t j)=sjR t j (zag a b n F):=by
 unfold zag;show(if n%M≠0/\spB b n F.ret.size=false then none else Zb F.ret a b n (F.sj t j))=_;by_cases h:n%M≠0/\spB b n F.ret.size=false
 ·rw[if_pos h,if_pos h];rfl
 ·rw[if_neg h,if_neg h];exact zdm _ _ _ _ _
theorem zeB (F:Fz):ZU (F.sj t j)=sjR t j (ZU F):=zkp (g:=fun a b c G=>zag a b c G) (fun a b c G=>zkN a b c G)
theorem zgv (F:Fz):ye (F.sj t j)=sjR t j (ye F):=zkp (g:=fun a b c G=>YV a b c G) (fun a b c G=>zn6 a b c G)
theorem load_sj (kd:Nat) (F:Fz) (T:TS):zcn kd (F.sj t j) T=sjR t j (zcn kd F T):=by
 unfold zcn;rw[Zz];refine Zq fun h=> ?_
 rw[yw,Zw h,yQ];rfl
theorem popV_sj (op:Nat) (F:Fz):Zp op (F.sj t j)=sjR t j (Zp op F):=by
 unfold Zp;split
 ·exact Zz F
 ·rfl
def sjT (t j:Value) (r:Option (Fz×TS)):Option (Fz×TS):=r.map fun y=>(y.1.sj t j,y.2)
theorem zjM (kd:Nat) (F:Fz) (T:TS):yL kd (F.sj t j) T=sjT t j (yL kd F T):=by
 unfold yL;show(if F.ro=true then none else _)=_;by_cases h0:F.ro=true
 ·rw[if_pos h0,if_pos h0];rfl
 ·rw[if_neg h0,if_neg h0];simp only[zY,Ze,zE];rw[Zz];cases hp:zi F with
  |none=>rfl
  |some y=>
   obtain⟨a,F1⟩:=y;simp only[yN,zh,zC];rw[Zz];cases hp2:zi F1 with
   |none=>rfl
   |some z=>rfl
theorem logP_sj (self p l:Nat) (ts:List Nat) (F:Fz) (T:TS):zhX self p l ts (F.sj t j) T=sjR t j (zhX self p l ts F T):=by
 unfold zhX;rw[yP];cases zl p l F with
 |none=>rfl
 |some y=>
  obtain⟨⟨a,b⟩,F2⟩:=y;simp only[yN];show(if F2.gas<8*b then none else some (({T with logs:=T.logs++[⟨self,ts,ZH (zL F2.mem a b)⟩]}:TS),({F2.sj t j with gas:=F2.gas - 8*b}:Fz)))=_;by_cases h:F2.gas<8*b
  ·rw[if_pos h,if_pos h];rfl
  ·rw[if_neg h,if_neg h];rfl
theorem logB_sj (n p l:Nat) (F:Fz) (T:TS):zgr n p l (F.sj t j) T=sjR t j (zgr n p l F T):=by
 unfold zgr;rw[zib];cases Zc n F with
 |none=>rfl
 |some y=>
  obtain⟨ts,F1⟩:=y;exact logP_sj F1.self p l ts F1 T
theorem log_sj (n:Nat) (F:Fz) (T:TS):zdT n (F.sj t j) T=sjR t j (zdT n F T):=by
 unfold zdT;show(if F.ro=true then none else _)=_;by_cases h0:F.ro=true
 ·rw[if_pos h0,if_pos h0];rfl
 ·rw[if_neg h0,if_neg h0];simp only[zY,Ze,zE];rw[Zz];refine Zq fun h=> ?_
  rw[Zw h,Zz];refine Zq fun h2=> ?_
  rw[yw,yw,Zw h2,logB_sj]
theorem zoF (wk:Wk) (op asked tt v:Nat) (data:ByteArray) (c d:Nat) (F:Fz) (T:TS):za0 wk op asked tt v data c d (F.sj t j) T=sjR t j (za0 wk op asked tt v data c d F T):=by
 unfold za0
 show(if YR F T v=true then
  (yO (Fz.sj {F with gas:=F.gas - Zg F asked} t j) (wk (zK op asked tt v data F T) T v F.self tt).1.st (wk (zK op asked tt v data F T) T v F.self tt).1.gas (wk (zK op asked tt v data F T) T v F.self tt).1.out c d).map fun y=>((wk (zK op asked tt v data F T) T v F.self tt).2,y.2)
 else(zm 0 (F.sj t j)).map fun y=>(T,y.2))=_
 by_cases h:YR F T v=true
 ·rw[if_pos h,if_pos h];unfold yO;rw[show∀(G:Fz) g o,zei (G.sj t j) g o c d=(zei G g o c d).sj t j from fun _ _ _=>rfl,yQ];cases zm _ _<;>rfl
 ·rw[if_neg h,if_neg h,yQ];cases zm 0 F<;>rfl
theorem zi1 (wk:Wk) (op asked tt v dp dl rp rl:Nat) (F:Fz) (T:TS):zas wk op asked tt v dp dl rp rl (F.sj t j) T=sjR t j (zas wk op asked tt v dp dl rp rl F T):=by
 unfold zas;rw[yP];cases zl dp dl F with
 |none=>rfl
 |some y=>
  obtain⟨⟨a,b⟩,F2⟩:=y;simp only[yN];rw[yP];cases zl rp rl F2 with
  |none=>rfl
  |some z=>
   obtain⟨⟨c,d⟩,F3⟩:=z;exact zoF wk op asked tt v (ZH (zL F2.mem a b)) c d {F3 with ret:=⟨#[]⟩} T
theorem zpu (wk:Wk) (op asked tt v dp dl rp rl:Nat) (F:Fz) (T:TS):zdA wk op asked tt v dp dl rp rl (F.sj t j) T=sjR t j (zdA wk op asked tt v dp dl rp rl F T):=by
 unfold zdA zdi;show(match(if v%M=0 then some ((),F.sj t j) else if F.ro=true then none else yt 900 (F.sj t j)) with|none=>none|some (_,F1)=>zas wk op asked tt v dp dl rp rl F1 T)=_;by_cases h:v%M=0
 ·rw[if_pos h,if_pos h];exact zi1 ..
 ·rw[if_neg h,if_neg h];by_cases h2:F.ro=true
  ·rw[if_pos h2,if_pos h2];rfl
  ·rw[if_neg h2,if_neg h2,zlj];cases yt 900 F with
   |none=>rfl
   |some y=>obtain⟨u,F1⟩:=y;exact zi1 ..
theorem call_sj (wk:Wk) (op:Nat) (F:Fz) (T:TS):Yh wk op (F.sj t j) T=sjR t j (Yh wk op F T):=by
 unfold Yh F3w;simp only[zY,Ze,zE];rw[Zz];refine Zq fun h1=> ?_
 rw[Zw h1,Zz];refine Zq fun h2=> ?_
 rw[Zw h2,popV_sj];refine Zq fun h3=> ?_
 rw[Zw h3,Zz];refine Zq fun h4=> ?_
 rw[Zw h4,Zz];refine Zq fun h5=> ?_
 rw[Zw h5,Zz];refine Zq fun h6=> ?_
 rw[Zw h6,Zz];refine Zq fun h7=> ?_
 simp only[yw];rw[Zw h7,zpu]
end
end
section
open Go.Maps
def Yr (r:Option (Unit×Fz)) (T:TS):Option (Fz×TS):=r.map fun y=>(y.2,T)
def zfA (op:Nat) (F:Fz) (T:TS):Option (Unit×Fz):=
 if op=48 then zm F.self F else if op=49 then zM (zi F) (zm (T.acc (zC (zi F))).bal (zh (zi F)))
 else if op=51 then zm F.caller F else if op=52 then zm F.value F
 else if op=53 then zM (zi F) (zm (ofL (zN F.data (zC (zi F)%M) 32)) (zh (zi F)))
 else if op=54 then zm F.data.size F else if op=55 then ZV F.data F
 else if op=56 then zm F.code.size F else if op=57 then ZV F.code F
 else if op=61 then zm F.ret.size F else ZU F
def zep (op:Nat) (F:Fz) (T:TS):Option (Unit×Fz):=
 if op=80 then zhV F else if op=81 then yI F else if op=82 then yk F else if op=83 then yj F
 else if op=84 then zcn 1 F T else if op=86 then zbo F else if op=87 then YF F else if op=88 then zm F.pc F
 else if op=89 then zm F.mem.length F else if op=90 then zm F.gas F else if op=91 then some ((),F)
 else if op=92 then zcn 2 F T else ye F
def zfH (op:Nat) (F:Fz) (T:TS):Option (Fz×TS):=
 if op=85 then yL 1 F T else if op=93 then yL 2 F T else Yr (zep op F T) T
def doM (wk:Wk) (op:Nat) (F:Fz) (T:TS):Option (Fz×TS):=
 if opN op=true then Yr (zeb op F) T else if op<48 then Yr (zex op F) T else if op<80 then Yr (zfA op F T) T
 else if op<95 then zfH op F T else if op<128 then Yr (Zy (op - 95) F) T else if op<144 then Yr (ziP (op - 128+1) F) T
 else if op<160 then Yr (zce (op - 144+1) F) T else if op<165 then zdE (zdT (op - 160) F T)
 else if op=241\/op=244\/op=250 then zdE (Yh wk op F T) else Yr (zex op F) T
def zQ (F:Fz) (c:Nat):Fz:={onF F with gas:=F.gas - c}
def Z1 (wk:Wk) (F:Fz) (T:TS):Option (Fz×TS):=match ZC (opF F) with
 |none=>none
 |some c=>if F.gas<c then none else doM wk (opF F) (zQ F c) T
section
variable {t j:Value}
theorem zlL (r:Option (Unit×Fz)) (T:TS):Yr (sjR t j r) T=sjT t j (Yr r T):=by cases r<;>rfl
theorem swp_sj (r:Option (TS×Fz)):zdE (sjR t j r)=sjT t j (zdE r):=by cases r<;>rfl
theorem surr_sj (op:Nat) (F:Fz) (T:TS):zfA op (F.sj t j) T=sjR t j (zfA op F T):=by
 unfold zfA
 have hp:zM (zi (F.sj t j)) (zm (T.acc (zC (zi (F.sj t j)))).bal (zh (zi (F.sj t j))))=sjR t j (zM (zi F) (zm (T.acc (zC (zi F))).bal (zh (zi F)))):=by
  rw[Zz];refine Zq fun h=> ?_
  rw[yw,Zw h,yQ]
 have hq:zM (zi (F.sj t j)) (zm (ofL (zN F.data (zC (zi (F.sj t j))%M) 32)) (zh (zi (F.sj t j))))=sjR t j (zM (zi F) (zm (ofL (zN F.data (zC (zi F)%M) 32)) (zh (zi F)))):=by
  rw[Zz];refine Zq fun h=> ?_
  rw[yw,Zw h,yQ]
 repeat' split
 all_goals first|exact yQ _ _|exact hp|exact hq|exact zgl _ _|exact zeB _
theorem popU_sj (F:Fz):zhV (F.sj t j)=sjR t j (zhV F):=by
 unfold zhV;rw[Zz];cases zi F<;>rfl
theorem zpn (op:Nat) (F:Fz) (T:TS):zep op (F.sj t j) T=sjR t j (zep op F T):=by
 have e1:(F.sj t j).pc=F.pc:=rfl;have e2:(F.sj t j).mem=F.mem:=rfl;have e3:(F.sj t j).gas=F.gas:=rfl;unfold zep;simp only[apply_ite (sjR t j),popU_sj,zke,zif,zik,load_sj,zqN,zm8,e1,e2,e3,yQ,zgv,yN]
theorem zpX (op:Nat) (F:Fz) (T:TS):zfH op (F.sj t j) T=sjT t j (zfH op F T):=by
 unfold zfH
 repeat' split
 ·exact zjM _ _ _
 ·exact zjM _ _ _
 ·rw[zpn,zlL]
theorem doM_sj (wk:Wk) (op:Nat) (F:Fz) (T:TS):doM wk op (F.sj t j) T=sjT t j (doM wk op F T):=by
 unfold doM;rw[oper_sj,end_sj,surr_sj,zpX,zhk,dup_sj,swap_sj,log_sj,call_sj];simp only[zlL,swp_sj]
 repeat' split
 all_goals rfl
theorem zom (wk:Wk) (F:Fz) (T:TS):Z1 wk (F.sj t j) T=sjT t j (Z1 wk F T):=by
 unfold Z1;show(match ZC (opF F) with|none=>none|some c=>if F.gas<c then none else doM wk (opF F) ((zQ F c).sj t j) T)=_;cases ZC (opF F) with
 |none=>rfl
 |some c=>
  show(if F.gas<c then none else doM wk (opF F) ((zQ F c).sj t j) T)=sjT t j (if F.gas<c then none else doM wk (opF F) (zQ F c) T);by_cases h:F.gas<c
  ·rw[if_pos h,if_pos h];rfl
  ·rw[if_neg h,if_neg h,doM_sj]
end
def P5 (F F':Fz):Prop:=∃st mem gas,F'={F with st:=st,mem:=mem,gas:=gas}/\gas<=F.gas
theorem P5.refl (F:Fz):P5 F F:=⟨F.st,F.mem,F.gas,rfl,Nat.le_refl _⟩
theorem P5.trans {F G H:Fz} (h:P5 F G) (k:P5 G H):P5 F H:=by
 obtain⟨a,b,c,rfl,h1⟩:=h;obtain⟨a',b',c',rfl,h2⟩:=k;exact⟨a',b',c',rfl,Nat.le_trans h2 h1⟩
def PF5 {α:Type} (F:Fz) (r:Option (α×Fz)):Prop:=∀a F',r=some (a,F')->P5 F F'
section
variable {α β:Type}
theorem PF5.none (F:Fz):PF5 (α:=α) F none:=fun a F' h=>by cases h
theorem PF5.self (F:Fz) (a:α):PF5 F (some (a,F)):=fun a F' h=>by obtain⟨_,rfl⟩:=Prod.mk.inj (Option.some.inj h);exact P5.refl _
theorem PF5.then {F:Fz} {r:Option (α×Fz)} {k:Option (β×Fz)} (h:PF5 F r) (hk:r≠Option.none->PF5 (zh r) k):PF5 F (zM r k):=by
 cases r with
 |none=>exact PF5.none F
 |some y=>obtain⟨a,G⟩:=y;exact fun b F' e=>(h a G rfl).trans (hk (by simp) b F' e)
theorem Zf (F:Fz):PF5 F (zi F):=fun a F' h=>by
 unfold zi at h;split at h
 ·cases h
 ·obtain⟨_,rfl⟩:=Prod.mk.inj (Option.some.inj h);exact⟨_,F.mem,F.gas,rfl,Nat.le_refl _⟩
theorem yr (n:Nat) (F:Fz):PF5 F (zm n F):=fun a F' h=>by
 unfold zm at h;split at h
 ·cases h
 ·obtain⟨_,rfl⟩:=Prod.mk.inj (Option.some.inj h);exact⟨_,F.mem,F.gas,rfl,Nat.le_refl _⟩
theorem zij (n:Nat) (F:Fz):PF5 F (yt n F):=fun a F' h=>by
 unfold yt at h;split at h
 ·cases h
 ·obtain⟨_,rfl⟩:=Prod.mk.inj (Option.some.inj h);exact⟨F.st,F.mem,_,rfl,Nat.sub_le _ _⟩
theorem pr_grow (n:Nat) (F:Fz):PF5 F (yc n F):=fun a F' h=>by
 unfold yc at h;split at h
 ·exact PF5.self F () a F' h
 ·split at h
  ·cases h
  ·rename_i u F1 hp;obtain⟨_,rfl⟩:=Prod.mk.inj (Option.some.inj h);exact(zij _ F _ _ hp).trans ⟨_,_,_,rfl,Nat.le_refl _⟩
theorem ym (p n:Nat) (F:Fz):PF5 F (zl p n F):=fun a F' h=>by
 unfold zl at h;split at h
 ·exact PF5.self F _ a F' h
 ·split at h
  ·split at h
   ·cases h
   ·rename_i u F1 hp;obtain⟨_,rfl⟩:=Prod.mk.inj (Option.some.inj h);exact pr_grow _ F _ _ hp
  ·cases h
theorem zeP (F:Fz):∀n,PF5 F (Zc n F)
 |0=>PF5.self F _
 |n+1=>fun a F' h=>by
  rw[Zc] at h;split at h
  ·cases h
  ·rename_i l G hp;split at h
   ·cases h
   ·rename_i m G' hp2;obtain⟨_,rfl⟩:=Prod.mk.inj (Option.some.inj h);exact(zeP F n _ _ hp).trans (Zf G _ _ hp2)
theorem zlD (op:Nat) (F:Fz):PF5 F (zeb op F):=fun a F' h=>by
 unfold zeb at h;split at h
 ·cases h
 ·rename_i l G hp;split at h
  ·cases h
  ·rename_i u G2 hq;refine(zeP F _ _ _ hp).trans (P5.trans ?_ (yr _ G2 _ _ h));split at hq
   ·exact zij _ G _ _ hq
   ·exact PF5.self G () _ _ hq
theorem zpE (n:Nat) (F:Fz):PF5 F (ziP n F):=by
 unfold ziP;split
 ·exact yr _ F
 ·exact PF5.none F
theorem zlR (n:Nat) (F:Fz):PF5 F (zce n F):=fun a F' h=>by
 unfold zce at h;split at h
 ·obtain⟨_,rfl⟩:=Prod.mk.inj (Option.some.inj h);exact⟨_,F.mem,F.gas,rfl,Nat.le_refl _⟩
 ·cases h
theorem zqF {F:Fz} {r:Option ((Nat×Nat)×Fz)} (h:PF5 F r) (hr:r≠Option.none) (L:List UInt8):P5 F (yK r L):=by
 cases r with
 |none=>exact absurd rfl hr
 |some y=>obtain⟨⟨a,b⟩,G⟩:=y;exact(h _ _ rfl).trans ⟨_,_,_,rfl,Nat.le_refl _⟩
theorem zc9 (src:ByteArray) (a b n:Nat) (F:Fz):PF5 F (Zb src a b n F):=fun u F' h=>by
 unfold Zb at h;split at h
 ·cases h
 ·rename_i c d F1 hp;split at h
  ·cases h
  ·obtain⟨_,rfl⟩:=Prod.mk.inj (Option.some.inj h);exact(ym _ _ F _ _ hp).trans ⟨_,_,_,rfl,Nat.sub_le _ _⟩
theorem zob (a b n:Nat) (F:Fz):PF5 F (YV a b n F):=fun u F' h=>by
 unfold YV at h;split at h
 ·cases h
 ·rename_i c d F1 hp;split at h
  ·cases h
  ·rename_i e f F2 hp2;split at h
   ·cases h
   ·obtain⟨_,rfl⟩:=Prod.mk.inj (Option.some.inj h);exact((ym _ _ F _ _ hp).trans (ym _ _ F1 _ _ hp2)).trans ⟨_,_,_,rfl,Nat.sub_le _ _⟩
theorem zlh {F:Fz} {r:Option (Unit×Fz)} (h:PF5 (zaR F) r):PF5 F (by3 F r):=by
 unfold by3;exact(Zf F).then fun _=>(Zf _).then fun _=>(Zf _).then fun _=>h
theorem zmM (op:Nat) (F:Fz) (T:TS):PF5 F (zfA op F T):=by
 unfold zfA
 repeat' split
 all_goals first
  |exact yr _ F
  |exact(Zf F).then fun _=>yr _ _
  |exact zlh (zc9 _ _ _ _ _)
  |(refine zlh ?_;unfold zag;split;exact PF5.none _;exact zc9 _ _ _ _ _)
def P6 (F F':Fz):Prop:=∃G n,P5 F G/\F'={G with nx:=n}/\(n=F.nx\/n<=F.code.size)
theorem P6.of {F F':Fz} (h:P5 F F'):P6 F F':=by
 obtain⟨a,b,c,rfl,h1⟩:=h;exact⟨_,F.nx,⟨a,b,c,rfl,h1⟩,rfl,Or.inl rfl⟩
theorem P6.pre {F G H:Fz} (h:P5 F G) (k:P6 G H):P6 F H:=by
 obtain⟨G',n,h1,h2,h3⟩:=k;refine⟨G',n,h.trans h1,h2, ?_⟩;obtain⟨a,b,c,rfl,_⟩:=h;exact h3
theorem zmk {p:Nat} {F F':Fz} {u:Unit} (h:zaz p F=some (u,F')):P6 F F':=by
 unfold zaz at h;split at h
 ·rename_i hb;obtain⟨_,rfl⟩:=Prod.mk.inj (Option.some.inj h);refine⟨F,p%M,P5.refl F,rfl,Or.inr ?_⟩;rw[Bool.and_eq_true] at hb;have:=hb.1;unfold upB at this;exact of_decide_eq_true this
 ·cases h
theorem zjH (F:Fz):PF5 F (yI F):=(Zf F).then fun _=>(ym _ _ _).then fun _=>yr _ _
theorem zg7 (F:Fz) (n:Nat) (L:List UInt8):PF5 F (zM (zi F) (zM (zi (zh (zi F))) (zM (zl (zY F) n (zE F)) (some ((),yK (zl (zY F) n (zE F)) L))))):=by
 refine(Zf F).then fun h1=>(Zf _).then fun h2=> ?_
 intro a F' e;cases hr:zl (zY F) n (zE F) with
 |none=>rw[hr] at e;cases e
 |some y=>
  rw[hr] at e;obtain⟨_,rfl⟩:=Prod.mk.inj (Option.some.inj e);exact zqF (hr▸ym (zY F) n (zE F)) (by simp) L
theorem zmi (kd:Nat) (F:Fz) (T:TS):PF5 F (zcn kd F T):=(Zf F).then fun _=>yr _ _
theorem pr_popU (F:Fz):PF5 F (zhV F):=fun u F' h=>by
 unfold zhV at h;cases hp:zi F with
 |none=>rw[hp] at h;cases h
 |some y=>
  obtain⟨n,G⟩:=y;rw[hp] at h;obtain⟨_,rfl⟩:=Prod.mk.inj (Option.some.inj h);exact Zf F _ _ hp
theorem zoI {F F':Fz} {u:Unit} (h:zbo F=some (u,F')):P6 F F':=by
 unfold zbo at h;cases hp:zi F with
 |none=>rw[hp] at h;cases h
 |some y=>
  obtain⟨n,G⟩:=y;rw[hp] at h;exact P6.pre (Zf F _ _ hp) (zmk h)
theorem zaU {F F':Fz} {u:Unit} {c:Prop} [Decidable c] {a b:Option (Unit×Fz)} (ha:a=some (u,F')->P6 F F') (hb:b=some (u,F')->P6 F F') (h:(if c then a else b)=some (u,F')):P6 F F':=by
 split at h
 ·exact ha h
 ·exact hb h
theorem zkv (y:α×Fz) (k:Option (β×Fz)):zM (some y) k=k:=rfl
theorem zni (n:Nat) (F:Fz):zC (some (n,F))=n:=rfl
theorem zlf (a:α) (F:Fz):zh (some (a,F))=F:=rfl
theorem znN {F F':Fz} {u:Unit} (h:YF F=some (u,F')):P6 F F':=by
 unfold YF at h;simp only[zY,Ze,zE] at h;cases hp:zi F with
 |none=>rw[hp] at h;cases h
 |some y=>
  obtain⟨n,G⟩:=y;rw[hp] at h;have h:zM (zi G) (if zC (zi G)%M=0 then some ((),zh (zi G)) else zaz n (zh (zi G)))=some (u,F'):=h;cases hp2:zi G with
  |none=>rw[hp2] at h;cases h
  |some z=>
   obtain⟨m,H⟩:=z;rw[hp2] at h;simp only[zkv,zni,zlf] at h;refine P6.pre ((Zf F _ _ hp).trans (Zf G _ _ hp2)) ?_;exact zaU (fun h=>P6.of (PF5.self H () _ _ h)) zmk h
theorem zhP (F:Fz):PF5 F (yk F):=zg7 F 32 (bys (Ze F) 0)
theorem zhT (F:Fz):PF5 F (yj F):=zg7 F 1 [zeu (Ze F)]
theorem zgp (F:Fz):PF5 F (ye F):=zlh (zob _ _ _ _)
theorem ziA {op:Nat} {F F':Fz} {T:TS} {u:Unit} (h:zep op F T=some (u,F')):P6 F F':=by
 unfold zep at h;exact zaU (fun h=>P6.of (pr_popU F _ _ h)) (zaU (fun h=>P6.of (zjH F _ _ h)) (zaU (fun h=>P6.of (zhP F _ _ h)) (zaU (fun h=>P6.of (zhT F _ _ h)) (zaU (fun h=>P6.of (zmi _ F T _ _ h)) (zaU zoI (zaU znN (zaU (fun h=>P6.of (yr _ F _ _ h)) (zaU (fun h=>P6.of (yr _ F _ _ h)) (zaU (fun h=>P6.of (yr _ F _ _ h)) (zaU (fun h=>P6.of (PF5.self F () _ _ h)) (zaU (fun h=>P6.of (zmi _ F T _ _ h)) (fun h=>P6.of (zgp F _ _ h))))))))))))) h
end
end
section
open Go.Maps
structure Wf (F:Fz):Prop where
 cs:F.code.size<=1000
 ds:F.data.size<=65536
 rs:F.ret.size<=65536
 dp:F.depth<=16
 nx:F.nx<=3000
 pc:F.pc<=3000
structure WfT (T:TS):Prop where
 cs:∀a,(T.acc a).code.size<=1000
 ch:T.ch.length<10000000
 lo:T.logs.length<10000000
 kd:∀c∈T.ch,c.kind<3
theorem Out2.mono {r:Option (Fz×TS)} {base fb tb m m':Nat} {T:TS} {V:TV} {S:List Nat} {w w':World} {e:Ending} (h:Out2 r base fb tb T V S m w e w') (hm:m<=m'):Out2 r base fb tb T V S m' w e w':=by
 cases r with
 |none=>exact h
 |some y=>
  obtain⟨F',T'⟩:=y;obtain⟨h1,S',sv',mv',V',k1,k2,k3,k4,k5,k6⟩:=h;exact⟨h1,S',sv',mv',V',k1,k2,k3,k4,by omega,k6⟩
theorem P5.trail {F F':Fz} (h:P5 F F'):F'.trail=F.trail:=by obtain⟨a,b,c,rfl,_⟩:=h;rfl
theorem P6.trail {F F':Fz} (h:P6 F F'):F'.trail=F.trail:=by obtain⟨G,n,⟨a,b,c,rfl,_⟩,rfl,_⟩:=h;rfl
theorem zez {n:Nat} {F F':Fz} {u:Unit} (h:Zy n F=some (u,F')):F'.trail=F.trail:=by
 unfold Zy at h;split at h
 ·cases h
 ·rename_i hp;obtain⟨_,rfl⟩:=Prod.mk.inj (Option.some.inj h);exact(yr _ F _ _ hp).trail
theorem zhd {op:Nat} {F F':Fz} {u:Unit} (h:zex op F=some (u,F')):F'.trail=F.trail:=by
 unfold zex at h;split at h
 ·obtain⟨_,rfl⟩:=Prod.mk.inj (Option.some.inj h);rfl
 ·split at h
  ·cases h
  ·rename_i p F1 h1;split at h
   ·cases h
   ·rename_i n F2 h2;split at h
    ·cases h
    ·rename_i a b F3 h3;obtain⟨_,rfl⟩:=Prod.mk.inj (Option.some.inj h);have e:=((Zf _ _ _ h1).trans ((Zf _ _ _ h2).trans (ym _ _ _ _ _ h3))).trail;split<;>exact e
theorem cost_lo:∀op,op<256->ZC op≠none->opN op=false->op<48->op=0:=by decide
theorem zlu:((List.range 256).all fun op=>(ZC op).isNone||decide (op<48)||decide (80<=op)||([48,49,51,52,53,54,55,56,57,61,62]:List Nat).contains op)=true:=by kernel_rfl
theorem zgF (op:Nat) (ho:op<256) (hc:ZC op≠none) (h1:48<=op) (h2:op<80):op∈([48,49,51,52,53,54,55,56,57,61,62]:List Nat):=by
 have h:=List.all_eq_true.1 zlu op (List.mem_range.2 ho);rw[decide_eq_false (show¬op<48 by omega),decide_eq_false (show¬80<=op by omega)] at h;cases hn:ZC op with
 |none=>exact absurd hn hc
 |some c=>
  rw[hn] at h;simpa using h
theorem zpM:((List.range 256).all fun op=>(ZC op).isNone||decide (op<165)||([241,244,250,243,253]:List Nat).contains op)=true:=by kernel_rfl
theorem cost_hi (op:Nat) (ho:op<256) (hc:ZC op≠none) (h1:165<=op):op=241\/op=244\/op=250\/op=243\/op=253:=by
 have h:=List.all_eq_true.1 zpM op (List.mem_range.2 ho);rw[decide_eq_false (show¬op<165 by omega)] at h;cases hn:ZC op with
 |none=>exact absurd hn hc
 |some c=>
  rw[hn] at h;simpa using h
theorem cost_le:∀op,op<256->∀c,ZC op=some c->c<=1000:=by
 intro op ho c h;have:∀op,op<256->(ZC op).getD 0<=1000:=by decide
 have h2:=this op ho;rw[h] at h2;exact h2
theorem surr_I {base fb tb:Nat} {F:Fz} {T:TS} {S:List Nat} {sv mv:Value} {V:TV} (op:Nat) (hop:op<256) (hc:ZC op≠none) (h1:48<=op) (h2:op<80) (w:World) (h:FT base fb tb F T S sv mv V w) (hw:Wf F):
  Calls prog 233 #[.pointer (some ⟨fb,0,none⟩),.int .u8 (op:Int)] w (Out (zfA op F T) zy base fb S w):=by
 have hm:=zgF op hop hc h1 h2;have d1:=hw.ds;have d2:=hw.rs;have d3:=hw.cs;simp only[List.mem_cons,List.not_mem_nil,or_false] at hm;rcases hm with rfl|rfl|rfl|rfl|rfl|rfl|rfl|rfl|rfl|rfl|rfl
 ·exact surr_48 w h.fr
 ·exact surr_49 h.ptr h.dis h.fr.no0 w h.tr h.fr
 ·exact surr_51 w h.fr
 ·exact surr_52 w h.fr
 ·exact surr_53 (by omega) w h.fr
 ·exact surr_54 (by omega) w h.fr
 ·exact surr_55 (by omega) w h.fr
 ·exact surr_56 (by omega) w h.fr
 ·exact surr_57 (by omega) w h.fr
 ·exact surr_61 (by omega) w h.fr
 ·exact surr_62 (by omega) w h.fr
theorem keepU_I {base fb tb:Nat} {F:Fz} {T:TS} {S:List Nat} {sv mv:Value} {V:TV} (op:Nat) (h1:80<=op) (h2:op<95) (h3:op≠85) (h4:op≠93) (w:World) (h:FT base fb tb F T S sv mv V w) (hw:Wf F):
  Calls prog 234 #[.pointer (some ⟨fb,0,none⟩),.int .u8 (op:Int)] w (Out (zep op F T) zy base fb S w):=by
 have d3:=hw.cs;have d4:=hw.pc;have hpl:∀r:Option (Unit×Fz),zaP (Out r zy base fb S w):=fun r e x ho=>zbl e x ho
 obtain hm:op=80\/op=81\/op=82\/op=83\/op=84\/op=86\/op=87\/op=88\/op=89\/op=90\/op=91\/op=92\/op=94:=by omega
 rcases hm with rfl|rfl|rfl|rfl|rfl|rfl|rfl|rfl|rfl|rfl|rfl|rfl|rfl
 ·exact zqy w h.fr
 ·exact keep_81 fb w (hpl _) (zkq w h.fr)
 ·exact keep_82 fb w (hpl _) (zj9 w h.fr)
 ·exact keep_83 fb w (hpl _) (zj2 w h.fr)
 ·exact keep_84 fb w (hpl _) (zmL 1 w h (fun x hx=>zer F.self (zC (zi F)) x hx))
 ·exact keep_86 (by omega) w h.fr
 ·exact keep_87 fb w (hpl _) (zqU (by omega) w h.fr)
 ·exact zqW (by omega) w h.fr
 ·exact zpJ (by have:=h.fr.mel;omega) w h.fr
 ·exact zqR (by have:=h.fr.gal;omega) w h.fr
 ·exact(keep_91 fb w).mono fun e x ⟨h1,h2⟩=>⟨h1,by rw[h2];exact h.fr.to⟩
 ·exact keep_92 fb w (hpl _) (zmL 2 w h (fun x hx=>zek F.self (zC (zi F)) x hx))
 ·exact keep_94 fb w (hpl _) (zip w h.fr)
theorem ziw {op:Nat} {F F':Fz} {T:TS} {u:Unit} (h:zep op F T=some (u,F')):F'.trail=F.trail:=(ziA h).trail
theorem do_I {base fb tb:Nat} {F:Fz} {T:TS} {S:List Nat} {sv mv:Value} {V:TV} {m:Nat} (wk:Wk) (op:Nat) (hop:op<256) (hc:ZC op≠none) (w:World) (h:FT base fb tb F T S sv mv V w) (hw:Wf F) (hT:WfT T) (hm:2<=m) (hn:V.n+m<800000000000)
  (hwk:op=241\/op=244\/op=250->∀asked tt v data F',F'.depth=F.depth->F'.ro=F.ro->F'.self=F.self->F'.caller=F.caller->F'.value=F.value->F'.gas<=F.gas->data.size<=65536->YR F' T v=true->∀c d,Yh wk op F T=(yO {F' with gas:=F'.gas - Zg F' asked} (wk (zK op asked tt v data F' T) T v F'.self tt).1.st (wk (zK op asked tt v data F' T) T v F'.self tt).1.gas (wk (zK op asked tt v data F' T) T v F'.self tt).1.out c d).map (fun y=>((wk (zK op asked tt v data F' T) T v F'.self tt).2,y.2))->WakeOk wk m (zK op asked tt v data F' T) T v F'.self tt):
  Calls prog 205 #[.pointer (some ⟨fb,0,none⟩),.int .u8 (op:Int)] w (Out2 (doM wk op F T) base fb tb T V S m w):=by
 have lu:∀{e x} {r:Option (Unit×Fz)},(∀F',r=some ((),F')->F'.trail=F.trail)->Out r zy base fb S w e x->Out2 (Yr r T) base fb tb T V S m w e x:=fun ht ho=>(h.lift' (α:=Unit) (val:=zy) ht ho).mono (Nat.zero_le _)
 have d1:=hw.cs;have d2:=hw.nx;have d3:=hw.dp;unfold doM;by_cases c1:opN op=true
 ·rw[if_pos c1];exact do_oper fb op (by omega) c1 w ZB ((zm5 op (by omega) w h.fr).mono fun e x ho=>lu (fun F' e=>(zlD op F _ _ e).trail) ho)
 rw[if_neg c1];have c1:opN op=false:=by simpa using c1
 by_cases c2:op<48
 ·rw[if_pos c2];obtain rfl:=cost_lo op hop hc c1 c2;exact zq1 fb 0 (Or.inl rfl) w ZB ((zkk w h.fr).mono fun e x ho=>lu (fun F' e=>zhd e) ho)
 rw[if_neg c2];by_cases c3:op<80
 ·rw[if_pos c3]
  have h62:op<=62:=by
   have:=zgF op hop hc (by omega) c3;simp at this;omega
  exact do_surr fb op (by omega) h62 w ZB ((surr_I op hop hc (by omega) c3 w h hw).mono fun e x ho=>lu (fun F' e=>(zmM op F T _ _ e).trail) ho)
 rw[if_neg c3];by_cases c4:op<95
 ·rw[if_pos c4];refine do_keep fb op (by omega) (by omega) w ZB ?_;unfold zfH;by_cases e1:op=85
  ·rw[if_pos e1];subst e1;exact keep_85 fb w ZB ((ziE 1 w h (fun key v x hx=>zjw F.self key v x hx (by have:=hT.ch;omega) (by omega))).mono fun e x ho=>ho.mono hm)
  rw[if_neg e1];by_cases e2:op=93
  ·rw[if_pos e2];subst e2;exact keep_93 fb w ZB ((ziE 2 w h (fun key v x hx=>zjG F.self key v x hx (by have:=hT.ch;omega) (by omega))).mono fun e x ho=>ho.mono hm)
  rw[if_neg e2];exact(keepU_I op (by omega) c4 e1 e2 w h hw).mono fun e x ho=>lu (fun F' e=>ziw e) ho
 rw[if_neg c4];by_cases c5:op<128
 ·rw[if_pos c5];exact do_push fb op (by omega) (by omega) w ZB ((zj7 (op - 95) (by omega) d1 (by omega) w h.fr).mono fun e x ho=>lu (fun F' e=>zez e) ho)
 rw[if_neg c5];by_cases c6:op<144
 ·rw[if_pos c6];refine do_dup fb op (by omega) (by omega) w ZB ?_;have h9:=dup_I (op - 128+1) (by omega) (by omega) w h.fr;rw[show((op - 128+1:Nat):Int)=((op - 128:Nat):Int)+1 by omega] at h9;exact h9.mono fun e x ho=>lu (fun F' e=>(zpE _ F _ _ e).trail) ho
 rw[if_neg c6];by_cases c7:op<160
 ·rw[if_pos c7];refine do_swap fb op (by omega) (by omega) w ZB ?_;have h9:=swap_I (op - 144+1) (by omega) w h.fr;rw[show((op - 144+1:Nat):Int)=((op - 144:Nat):Int)+1 by omega] at h9;exact h9.mono fun e x ho=>lu (fun F' e=>(zlR _ F _ _ e).trail) ho
 rw[if_neg c7];by_cases c8:op<165
 ·rw[if_pos c8];exact do_log fb op (by omega) (by omega) w ZB ((log_I (op - 160) (by omega) w h (by have:=hT.lo;omega)).mono fun e x ho=>ho.mono (Nat.zero_le _))
 rw[if_neg c8];by_cases c9:op=241\/op=244\/op=250
 ·rw[if_pos c9];exact do_call fb op c9 w ZB (call_I wk op (by omega) w h (by omega) hT.cs (hwk c9) hn)
 rw[if_neg c9]
 have c10:op=243\/op=253:=by
  rcases cost_hi op hop hc (by omega) with e|e|e|e|e
  ·exact absurd (Or.inl e) c9
  ·exact absurd (Or.inr (Or.inl e)) c9
  ·exact absurd (Or.inr (Or.inr e)) c9
  ·exact Or.inl e
  ·exact Or.inr e
 exact zq1 fb op (Or.inr c10) w ZB ((znV op c10 w h.fr).mono fun e x ho=>lu (fun F' e=>zhd e) ho)
end
section
open Go.Maps
theorem ziY {base fb tb m:Nat} {F:Fz} {T:TS} {S:List Nat} {sv mv:Value} {V:TV} (w:World) (h:FT base fb tb F T S sv mv V w) (hnx:F.nx<=1000000) (hcs:F.code.size<=1000) (hc:ZC (opF F)=none\/∃c,ZC (opF F)=some c/\c<=1000/\F.gas<c):
  Calls prog 158 #[.pointer (some ⟨fb,0,none⟩)] w (Out2 none base fb tb T V S m w):=by
 have c1:=h.fr.row.cell (i:=23) (by decide);have f1:=h.fr.row.frozen 23;have c2:=h.fr.row.cell (i:=22) (by decide);have f2:=h.fr.row.frozen 22;rw[show F.cell sv mv 23=.int .i64 (F.nx:Int) from rfl] at c1;rw[show F.cell sv mv 22=.int .i64 (F.pc:Int) from rfl] at c2;have HFT:=zb h
 have hop:opF F<=255:=by
  unfold opF;split
  ·have:=ZQ F.code F.nx;omega
  ·omega
 have HB:=zb (zcI (opF F) hop);go_enter func158,ntmps158;go_wp2;have e1:(F.nx:Int)+1=((F.nx+1:Nat):Int):=by omega
 rw[e1]
 have hto:To base fb (onF F) S w ((w.setCell ⟨fb,22,none⟩ (.int .i64 (F.nx:Int))).setCell ⟨fb,23,none⟩ (.int .i64 ((F.nx+1:Nat):Int))):=
  (h.fr.set1 22 _ (zlS F sv mv F.nx) rfl rfl rfl rfl h.fr.gal).trans fun S1 sv1 mv1 h1=>h1.set1 23 _ (zeI _ sv1 mv1 (F.nx+1)) rfl rfl rfl rfl h.fr.gal
 obtain⟨S1,sv1,mv1,h1,h2,h3⟩:=hto;generalize((w.setCell ⟨fb,22,none⟩ (.int .i64 (F.nx:Int))).setCell ⟨fb,23,none⟩ (.int .i64 ((F.nx+1:Nat):Int)))=x at*;have hx:FT base fb tb (onF F) T S1 sv1 mv1 V x:=h.next rfl h1 h2 h3;have k1:=h1.row.cell (i:=22) (by decide);rw[show(onF F).cell sv1 mv1 22=.int .i64 (F.nx:Int) from rfl] at k1;have k2:=h1.row.cell (i:=1) (by decide);rw[show(onF F).cell sv1 mv1 1=.string F.code from rfl] at k2;have H2:=zb h2;have H3:=zb h3
 have HPAY:Hid (∀y c,Below x.heap.size x y->c<=1000->F.gas<c->Calls prog 204 #[.pointer (some ⟨fb,0,none⟩),.int .i64 (c:Int)] y (Out (none:Option (Unit×Fz)) zy base fb S1 y)):=fun y c hy hcl hg=>by
  have hp:=zji c (by omega) y (h1.below hy);unfold yt at hp;rw[if_pos (show(onF F).gas<c from hg)] at hp;exact hp
 clear h1 h2 h3 hx h c1 f1 c2 f2 e1;have hl9:F.code.size<9223372036854775808:=by omega
 rcases hc with hc|⟨c,hc,hcl,hg⟩
 ·rw[hc] at HB;rw[show zcR none=.tuple #[.int .i64 0,.bool false] from rfl] at HB;by_cases hlt:F.nx<F.code.size
  ·have hopf:opF F=byt F.code F.nx:=if_pos hlt;have hd:decide ((F.nx:Int)<(F.code.size:Int))=true:=decide_eq_true (by omega);have hb:=zhF F.code F.nx hlt;rw[<-hopf] at hb;generalize opF F=op at*;clear hopf
   go_region
   go_wp2
   go_region
   go_wp2_with (first
    |(go_at_call 203;refine(HB.out _).mono ?_;rintro e w1 ⟨rfl,rfl⟩)
    |fail)
   exact⟨rfl,⟨_,_,rfl⟩,H2.out.below ((Below.refl _ x).drew.drew)⟩
  ·have hopf:opF F=0:=if_neg hlt;rw[hopf] at hc;exact absurd hc (by decide)
 ·rw[hc] at HB;have hco:(zcR (some c))=.tuple #[.int .i64 (c:Int),.bool true]:=rfl;rw[hco] at HB;clear hco;by_cases hlt:F.nx<F.code.size
  ·have hopf:opF F=byt F.code F.nx:=if_pos hlt;have hd:decide ((F.nx:Int)<(F.code.size:Int))=true:=decide_eq_true (by omega);have hb:=zhF F.code F.nx hlt;rw[<-hopf] at hb;generalize opF F=op at*;clear hopf
   go_region
   go_wp2
   go_region
   go_wp2_with (first
    |(go_at_call 203;refine(HB.out _).mono ?_;rintro e w1 ⟨rfl,rfl⟩)
    |fail)
   refine(HPAY.out _ c ((Below.refl _ x).drew.drew) hcl hg).mono ?_;rintro e y ⟨⟨u,pv,rfl⟩,hk⟩;exact⟨rfl,⟨_,_,rfl⟩,(H2.out.below ((Below.refl _ x).drew.drew)).trans hk H3.out⟩
  ·have hopf:opF F=0:=if_neg hlt;rw[hopf] at hc;have:ZC 0=some 0:=by decide
   rw[this] at hc;injection hc with hc
   omega
theorem step_I {F:Fz} {T:TS} {m:Nat} (wk:Wk) (hw:Wf F) (hn2:F.nx<=2000) (hT:WfT T) (hm:2<=m)
  (hwk:∀asked tt v data F',F'.depth=F.depth->F'.ro=F.ro->F'.self=F.self->F'.caller=F.caller->F'.value=F.value->F'.gas+100<=F.gas->data.size<=65536->YR F' T v=true->∀c d,
   Z1 wk F T=zdE ((yO {F' with gas:=F'.gas - Zg F' asked} (wk (zK (opF F) asked tt v data F' T) T v F'.self tt).1.st (wk (zK (opF F) asked tt v data F' T) T v F'.self tt).1.gas (wk (zK (opF F) asked tt v data F' T) T v F'.self tt).1.out c d).map (fun y=>((wk (zK (opF F) asked tt v data F' T) T v F'.self tt).2,y.2)))->WakeOk wk m (zK (opF F) asked tt v data F' T) T v F'.self tt):zeM F T m (Z1 wk F T):=by
 intro base fb tb S sv mv V w h hn
 have hop:opF F<256:=by
  unfold opF;split
  ·have:=ZQ F.code F.nx;omega
  ·omega
 have hcs:=hw.cs;have hnx:=hw.nx;unfold Z1 at hwk⊢;cases hc:ZC (opF F) with
 |none=>exact ziY w h (by omega) hcs (Or.inl hc)
 |some c=>
  have hcl:=cost_le (opF F) hop c hc;rw[hc] at hwk;dsimp only at hwk⊢;by_cases hp:F.gas<c
  ·rw[if_pos hp];exact ziY w h (by omega) hcs (Or.inr ⟨c,hc,hcl,hp⟩)
  ·rw[if_neg hp] at hwk⊢;refine step_of w h (by omega) hcs hc hcl (by omega) fun S1 sv1 mv1 x hx=> ?_
   refine do_I wk (opF F) hop (by rw[hc];simp) x hx ⟨hw.cs,hw.ds,hw.rs,hw.dp,by show F.nx+1<=3000;omega,hnx⟩ hT hm hn ?_;intro hcall asked tt v data F' e1 e2 e3 e4 e5 e6 e7 e8 c' d' e9
   have hc100:c=100:=by
    rcases hcall with e|e|e<;>rw[e] at hc<;>exact(Option.some.inj hc).symm
   have hno:opN (opF F)=false:=by rcases hcall with e|e|e<;>rw[e]<;>rfl
   have hdo:doM wk (opF F) (zQ F c) T=zdE (Yh wk (opF F) (zQ F c) T):=by
    unfold doM;rw[hno,if_neg (by simp),if_neg (by omega),if_neg (by omega),if_neg (by omega),if_neg (by omega),if_neg (by omega),if_neg (by omega),if_neg (by omega),if_pos hcall]
   exact hwk asked tt v data F' e1 e2 e3 e4 e5 (by have e6:F'.gas<=F.gas - c:=e6;omega) e7 e8 c' d' (hdo.trans (congrArg zdE e9))
end
section
open Go.Maps
structure Ext (T T':TS):Prop where
 ch:∃l,T'.ch=T.ch++l/\∀c∈l,c.kind<3
 lo:∃l,T'.logs=T.logs++l
 code:∀a,(T'.acc a).code=(T.acc a).code
theorem Ext.refl (T:TS):Ext T T:=⟨⟨[],by simp,by simp⟩,⟨[],by simp⟩,fun _=>rfl⟩
theorem Ext.trans {T U V:TS} (h:Ext T U) (k:Ext U V):Ext T V:=by
 obtain⟨l,h1,h2⟩:=h.ch;obtain⟨l',k1,k2⟩:=k.ch;obtain⟨m,h3⟩:=h.lo;obtain⟨m',k3⟩:=k.lo;refine⟨⟨l++l',by rw[k1,h1,List.append_assoc],fun c hc=>(List.mem_append.1 hc).elim (h2 c) (k2 c)⟩,⟨m++m',by rw[k3,h3,List.append_assoc]⟩,fun a=>(k.code a).trans (h.code a)⟩
theorem zg4 {A:Nat->Acc} {a:Nat} {b:Acc} (hb:b.code=(A a).code) (hc:∀m,m%M=a%M->A m=A a) (m:Nat):(Zv A a b m).code=(A m).code:=by
 by_cases e:m%M=a%M
 ·rw[YE e,hb,hc m e]
 ·rw[yC e]
def ZP (T:TS):Prop:=∀m m',m%M=m'%M->T.acc m=T.acc m'
theorem zgI {T:TS} (hT:ZP T) (k a key v:Nat) (m:Nat):((Yt T k a key v).acc m).code=(T.acc m).code:=by
 unfold Yt;split
 ·exact zg4 (b:={T.acc a with bal:=v}) rfl (fun m e=>hT m a e) m
 ·split
  ·exact zg4 (b:={T.acc a with slots:=zau (T.acc a).slots key v}) rfl (fun m e=>hT m a e) m
  ·rfl
theorem zgH {T:TS} (hT:ZP T) (k a key v:Nat):ZP (Yt T k a key v):=by
 unfold Yt;intro m m' e;split
 ·exact zaO a _ e (hT m m' e)
 ·split
  ·exact zaO a _ e (hT m m' e)
  ·exact hT m m' e
theorem zeH {T:TS} (hT:ZP T) (k a key v:Nat) (hk:k<3):Ext T (Yo T k a key v)/\ZP (Yo T k a key v):=by
 have hT':ZP {T with ch:=T.ch++[⟨k,a,key,zjq T k a key⟩]}:=hT;refine⟨⟨⟨[⟨k,a,key,zjq T k a key⟩], ?_,by simpa using hk⟩,⟨[], ?_⟩,fun m=> ?_⟩,zgH hT' k a key v⟩
 ·exact(zbm _ k a key v).1
 ·rw[List.append_nil];exact(zbm _ k a key v).2
 ·exact zgI hT' k a key v m
theorem zie (T:TS) (k a key v:Nat):(Yo T k a key v).ch.length=T.ch.length+1/\(Yo T k a key v).logs=T.logs:=by
 refine⟨?_,(zbm _ k a key v).2⟩;unfold Yo;rw[(zbm _ k a key v).1];simp
theorem zfl {T:TS} (hT:ZP T) (amt fr tt:Nat):Ext T (ZL T amt fr tt)/\ZP (ZL T amt fr tt)/\(ZL T amt fr tt).ch.length=T.ch.length+2/\(ZL T amt fr tt).logs=T.logs:=by
 have h1:=zeH hT 0 fr 0 (Zx 3 ((T.acc fr).bal%M) (amt%M) 0) (by omega);have h2:=zeH h1.2 0 tt 0 (Zx 1 (((zam T amt fr).acc tt).bal%M) (amt%M) 0) (by omega);have l1:=zie T 0 fr 0 (Zx 3 ((T.acc fr).bal%M) (amt%M) 0);have l2:=zie (zam T amt fr) 0 tt 0 (Zx 1 (((zam T amt fr).acc tt).bal%M) (amt%M) 0);refine⟨h1.1.trans h2.1,h2.2, ?_, ?_⟩
 ·show(Yo (zam T amt fr) 0 tt 0 _).ch.length=_;rw[l2.1];show(Yo T 0 fr 0 _).ch.length+1=_;rw[l1.1]
 ·show(Yo (zam T amt fr) 0 tt 0 _).logs=_;rw[l2.2];exact l1.2
theorem zdX {T:TS} (hT:ZP T):∀l:List Chg,(∀m,((Ya l T).acc m).code=(T.acc m).code)/\ZP (Ya l T)
 |[]=>⟨fun _=>rfl,hT⟩
 |c::r=>by
  have ih:=zdX hT r;exact⟨fun m=>(zgI ih.2 _ _ _ _ m).trans (ih.1 m),zgH ih.2 _ _ _ _⟩
theorem zqG {T T':TS} (hT:ZP T') (h:Ext T T') (st:Nat):Ext T (YM T T' st)/\ZP (YM T T' st):=by
 unfold YM;split
 ·exact⟨h,hT⟩
 ·obtain⟨l,h1,h2⟩:=h.ch;obtain⟨m,h3⟩:=h.lo;have hu:=zdX hT (T'.ch.drop T.ch.length);refine⟨⟨⟨[], ?_,by simp⟩,⟨[], ?_⟩,fun a=>(hu.1 a).trans (h.code a)⟩,hu.2⟩
  ·show T'.ch.take T.ch.length=_;rw[h1];simp
  ·show T'.logs.take T.logs.length=_;rw[h3];simp
theorem zo3 {T T':TS} (h:Ext T T') (st:Nat):(YM T T' st).ch.length<=T'.ch.length/\(YM T T' st).logs.length<=T'.logs.length:=by
 unfold YM;split
 ·exact⟨Nat.le_refl _,Nat.le_refl _⟩
 ·constructor
  ·show(T'.ch.take _).length<=_;rw[List.length_take];exact Nat.min_le_right _ _
  ·show(T'.logs.take _).length<=_;rw[List.length_take];exact Nat.min_le_right _ _
theorem Ext.len {T T':TS} (h:Ext T T'):T.ch.length<=T'.ch.length/\T.logs.length<=T'.logs.length:=by
 obtain⟨l,h1,_⟩:=h.ch;obtain⟨m,h3⟩:=h.lo;rw[h1,h3];simp
theorem zd9 {p n a b:Nat} {F F1:Fz} (h:zl p n F=some ((a,b),F1)):b<=65536:=by
 unfold zl at h;split at h
 ·obtain⟨h1,_⟩:=Prod.mk.inj (Option.some.inj h);obtain⟨_,rfl⟩:=Prod.mk.inj h1;omega
 ·split at h
  ·rename_i hs;split at h
   ·cases h
   ·obtain⟨h1,_⟩:=Prod.mk.inj (Option.some.inj h);obtain⟨_,rfl⟩:=Prod.mk.inj h1;have:=hs.2.2;omega
  ·cases h
theorem zdj (m:List UInt8) (a b:Nat):(zL m a b).length<=b:=by unfold zL;rw[List.length_take];omega
structure Fx (F F':Fz):Prop where
 code:F'.code=F.code
 data:F'.data=F.data
 depth:F'.depth=F.depth
 self:F'.self=F.self
 caller:F'.caller=F.caller
 value:F'.value=F.value
 ro:F'.ro=F.ro
theorem Fx.trans {F G H:Fz} (h:Fx F G) (k:Fx G H):Fx F H:=⟨k.code.trans h.code,k.data.trans h.data,k.depth.trans h.depth,k.self.trans h.self,k.caller.trans h.caller,k.value.trans h.value,k.ro.trans h.ro⟩
theorem P5.fx {F F':Fz} (h:P5 F F'):Fx F F':=by obtain⟨a,b,c,rfl,_⟩:=h;exact⟨rfl,rfl,rfl,rfl,rfl,rfl,rfl⟩
theorem P5.more {F F':Fz} (h:P5 F F'):F'.gas<=F.gas/\F'.nx=F.nx/\F'.pc=F.pc/\F'.ret=F.ret/\F'.out=F.out/\F'.status=F.status/\F'.ended=F.ended:=by obtain⟨a,b,c,rfl,h1⟩:=h;exact⟨h1,rfl,rfl,rfl,rfl,rfl,rfl⟩
structure WkP (wk:Wk) (G:Fz) (T:TS) (v fr tt:Nat):Prop where
 ext:Ext T (wk G T v fr tt).2
 cong:ZP (wk G T v fr tt).2
 gas:(wk G T v fr tt).1.gas<=G.gas
 st:(wk G T v fr tt).1.st<=2
 os:(wk G T v fr tt).1.out.size<=65536
 bud:(wk G T v fr tt).2.ch.length+(wk G T v fr tt).2.logs.length+(wk G T v fr tt).1.gas<=T.ch.length+T.logs.length+2+G.gas
theorem Zh {α β:Type} {r:Option (α×Fz)} {k:Option (β×Fz)} {y:β×Fz} (h:zM r k=some y):r≠none/\k=some y:=by
 cases r with
 |none=>cases h
 |some z=>exact⟨by simp,h⟩
theorem PF5.next {α:Type} {F:Fz} {r:Option (α×Fz)} (h:PF5 F r) (hr:r≠Option.none):P5 F (zh r):=by
 cases r with
 |none=>exact absurd rfl hr
 |some y=>exact h y.1 y.2 rfl
theorem zlX (op:Nat) (F:Fz):PF5 F (Zp op F):=by
 unfold Zp;split
 ·exact Zf F
 ·exact PF5.self F _
theorem zki {wk:Wk} {op:Nat} {F F':Fz} {T T':TS} (h:Yh wk op F T=some (T',F')):∃G,P5 F G/\
  ((T'=T/\P5 {G with ret:=⟨#[]⟩} F')\/∃asked tt v data c d,data.size<=65536/\YR {G with ret:=⟨#[]⟩} T v=true/\
   Yh wk op F T=(yO {({G with ret:=⟨#[]⟩}:Fz) with gas:=G.gas - Zg {G with ret:=⟨#[]⟩} asked} (wk (zK op asked tt v data {G with ret:=⟨#[]⟩} T) T v G.self tt).1.st (wk (zK op asked tt v data {G with ret:=⟨#[]⟩} T) T v G.self tt).1.gas (wk (zK op asked tt v data {G with ret:=⟨#[]⟩} T) T v G.self tt).1.out c d).map (fun y=>((wk (zK op asked tt v data {G with ret:=⟨#[]⟩} T) T v G.self tt).2,y.2))):=by
 have hall:=h;have h0:=h;unfold Yh at h;obtain⟨r1,h⟩:=Zh h;obtain⟨r2,h⟩:=Zh h;obtain⟨r3,h⟩:=Zh h;obtain⟨r4,h⟩:=Zh h;obtain⟨r5,h⟩:=Zh h;obtain⟨r6,h⟩:=Zh h;obtain⟨r7,h⟩:=Zh h;have hp:P5 F (zE (zE (F3w op F))):=((Zf F).next r1).trans (((Zf _).next r2).trans (((zlX op _).next r3).trans (((Zf _).next r4).trans (((Zf _).next r5).trans (((Zf _).next r6).trans ((Zf _).next r7))))));generalize zE (zE (F3w op F))=F7 at*;unfold zdA at h;cases hv:zdi (zC (Zp op (zE F))) F7 with
 |none=>rw[hv] at h;cases h
 |some y=>
  obtain⟨u,F8⟩:=y;rw[hv] at h
  have hp8:P5 F F8:=by
   refine hp.trans ?_;unfold zdi at hv;split at hv
   ·exact PF5.self F7 () _ _ hv
   ·split at hv
    ·cases hv
    ·exact zij _ F7 _ _ hv
  dsimp only at h;unfold zas at h;split at h
  ·cases h
  ·rename_i a b F9 h9;split at h
   ·cases h
   ·rename_i c d F10 h10;have hpG:P5 F F10:=hp8.trans ((ym _ _ _ _ _ h9).trans (ym _ _ _ _ _ h10));refine⟨F10,hpG, ?_⟩;have hds:(ZH (zL F9.mem a b)).size<=65536:=Nat.le_trans (zdj _ _ _) (zd9 h9);have hc:=h;unfold za0 at h;split at h
    ·rename_i hmay;refine Or.inr ⟨zY F,Ze F,zC (Zp op (zE F)),ZH (zL F9.mem a b),c,d,hds,hmay, ?_⟩;rw[hall];unfold za0 at hc;rw[if_pos hmay] at hc;exact hc.symm
    ·refine Or.inl ?_;cases hpu:zm 0 {F10 with ret:=⟨#[]⟩} with
     |none=>rw[hpu] at h;cases h
     |some z=>
      obtain⟨u,F11⟩:=z;rw[hpu] at h;obtain⟨rfl,rfl⟩:=Prod.mk.inj (Option.some.inj h);exact⟨rfl,yr _ _ _ _ hpu⟩
end
section
open Go.Maps
structure SI (F F':Fz) (T T':TS):Prop where
 fx:Fx F F'
 gas:F'.gas<=F.gas
 lt:F'.ended=false->F'.gas<F.gas
 nx:F'.ended=false->F'.nx<=1100
 pc:F'.pc<=1100
 rs:F'.ret.size<=65536
 os:F'.out.size<=65536
 st:F'.status<=1
 ext:Ext T T'
 cong:ZP T'
 bud:T'.ch.length+T'.logs.length+F'.gas<=T.ch.length+T.logs.length+F.gas
structure RunF (F:Fz):Prop where
 cs:F.code.size<=1000
 ds:F.data.size<=65536
 rs:F.ret.size<=65536
 dp:F.depth<=16
 nx:F.nx<=1100
 pc:F.pc<=1100
 os:F.out.size<=65536
 st:F.status<=1
theorem znO:((List.range 256).all fun op=>decide (ZC op≠some 0)||([0,243,253]:List Nat).contains op)=true:=by kernel_rfl
theorem zaq {op c:Nat} (ho:op<256) (hc:ZC op=some c) (h0:op≠0) (h1:op≠243) (h2:op≠253):1<=c:=by
 have h:=List.all_eq_true.1 znO op (List.mem_range.2 ho);rw[hc] at h;cases c with
 |zero=>simp[h0,h1,h2] at h
 |succ n=>omega
theorem nx_lt {F:Fz} (h:opF F≠0):F.nx<F.code.size:=by
 unfold opF at h;split at h
 ·assumption
 ·exact absurd rfl h
theorem op_lt (F:Fz):opF F<256:=by
 unfold opF;split
 ·have:=ZQ F.code F.nx;omega
 ·omega
theorem zeo {F F':Fz} {T:TS} {c:Nat} (hr:RunF F) (hT:ZP T) (hc:1<=c) (hg:c<=F.gas) (hx:F.nx<F.code.size) (h:P5 (zQ F c) F'):SI F F' T T:=by
 obtain⟨m1,m2,m3,m4,m5,m6,m7⟩:=h.more;have hcs:=hr.cs;have m1:F'.gas<=F.gas - c:=m1;have m2:F'.nx=F.nx+1:=m2;have m3:F'.pc=F.nx:=m3;have m4:F'.ret=F.ret:=m4;have m5:F'.out=F.out:=m5;have m6:F'.status=F.status:=m6;exact⟨Fx.trans (G:=zQ F c) ⟨rfl,rfl,rfl,rfl,rfl,rfl,rfl⟩ h.fx,by omega,fun _=>by omega,fun _=>by omega,by omega,by rw[m4];exact hr.rs,by rw[m5];exact hr.os,by rw[m6];exact hr.st,Ext.refl T,hT,by omega⟩
theorem si_p6 {F F':Fz} {T:TS} {c:Nat} (hr:RunF F) (hT:ZP T) (hc:1<=c) (hg:c<=F.gas) (hx:F.nx<F.code.size) (h:P6 (zQ F c) F'):SI F F' T T:=by
 obtain⟨G,n,h1,rfl,h3⟩:=h;have hs:=zeo hr hT hc hg hx h1;refine⟨⟨hs.fx.code,hs.fx.data,hs.fx.depth,hs.fx.self,hs.fx.caller,hs.fx.value,hs.fx.ro⟩,hs.gas,hs.lt,fun _=> ?_,hs.pc,hs.rs,hs.os,hs.st,hs.ext,hs.cong,hs.bud⟩;have hcs:=hr.cs;show n<=1100;rcases h3 with e|e
 ·have e:n=F.nx+1:=e;omega
 ·have e:n<=F.code.size:=e;omega
theorem si_push {F F':Fz} {T:TS} {c n:Nat} {u:Unit} (hr:RunF F) (hT:ZP T) (hc:1<=c) (hg:c<=F.gas) (hx:F.nx<F.code.size) (hn:n<=32) (h:Zy n (zQ F c)=some (u,F')):SI F F' T T:=by
 unfold Zy at h;split at h
 ·cases h
 ·rename_i G hp;obtain⟨_,rfl⟩:=Prod.mk.inj (Option.some.inj h);have h1:=yr _ _ _ _ hp;have hs:=zeo hr hT hc hg hx h1;refine⟨⟨hs.fx.code,hs.fx.data,hs.fx.depth,hs.fx.self,hs.fx.caller,hs.fx.value,hs.fx.ro⟩,hs.gas,hs.lt,fun _=> ?_,hs.pc,hs.rs,hs.os,hs.st,hs.ext,hs.cong,hs.bud⟩;have hcs:=hr.cs;have e:G.nx=F.nx+1:=h1.more.2.1;show G.nx+n<=1100;omega
theorem zqn {F F':Fz} {T:TS} {c op:Nat} {u:Unit} (hr:RunF F) (hT:ZP T) (hg:c<=F.gas) (h:zex op (zQ F c)=some (u,F')):SI F F' T T:=by
 have hnx:=hr.nx;unfold zex at h;split at h
 ·obtain⟨_,rfl⟩:=Prod.mk.inj (Option.some.inj h);exact⟨⟨rfl,rfl,rfl,rfl,rfl,rfl,rfl⟩,Nat.sub_le _ _,fun e=>(by cases e),fun e=>(by cases e),hnx,hr.rs,hr.os,hr.st,Ext.refl T,hT,by show _+(F.gas - c)<=_;omega⟩
 ·split at h
  ·cases h
  ·rename_i p F1 h1;split at h
   ·cases h
   ·rename_i n F2 h2;split at h
    ·cases h
    ·rename_i a b F3 h3;obtain⟨_,rfl⟩:=Prod.mk.inj (Option.some.inj h);have hp:=(Zf _ _ _ h1).trans ((Zf _ _ _ h2).trans (ym _ _ _ _ _ h3));obtain⟨m1,m2,m3,m4,m5,m6,m7⟩:=hp.more;have m1:F3.gas<=F.gas - c:=m1;have m3:F3.pc=F.nx:=m3;have m4:F3.ret=F.ret:=m4;have m6:F3.status=F.status:=m6;have m7:F3.ended=true:=m7
     have fx:Fx F F3:=by
      have q:=hp.fx;exact⟨q.code,q.data,q.depth,q.self,q.caller,q.value,q.ro⟩
     have hos:(⟨(zL F3.mem a b).toArray⟩:ByteArray).size<=65536:=Nat.le_trans (zdj _ _ _) (zd9 h3)
     have key:∀F9:Fz,F9.code=F3.code->F9.data=F3.data->F9.depth=F3.depth->F9.self=F3.self->F9.caller=F3.caller->F9.value=F3.value->F9.ro=F3.ro->F9.gas=F3.gas->F9.ended=F3.ended->F9.pc=F3.pc->F9.ret=F3.ret->F9.out.size<=65536->F9.status<=1->SI F F9 T T:=by
      intro F9 e1 e2 e3 e4 e5 e6 e7 e8 e9 e10 e11 e12 e13;have ne:F9.ended=false->False:=fun e=>by rw[e9,m7] at e;cases e
      refine⟨⟨e1.trans fx.code,e2.trans fx.data,e3.trans fx.depth,e4.trans fx.self,e5.trans fx.caller,e6.trans fx.value,e7.trans fx.ro⟩,by omega,fun e=>(ne e).elim,fun e=>(ne e).elim,by omega, ?_,e12,e13,Ext.refl T,hT,by omega⟩;rw[e11,m4];exact hr.rs
     by_cases e253:op=253
     ·rw[if_pos e253];exact key _ rfl rfl rfl rfl rfl rfl rfl rfl rfl rfl rfl hos (Nat.le_refl _)
     ·rw[if_neg e253];exact key _ rfl rfl rfl rfl rfl rfl rfl rfl rfl rfl rfl hos (by show F3.status<=1;rw[m6];exact hr.st)
theorem zj6 {F F':Fz} {T T':TS} {c kd:Nat} (hr:RunF F) (hT:ZP T) (hc:1<=c) (hg:c<=F.gas) (hx:F.nx<F.code.size) (hk:kd<3) (h:yL kd (zQ F c) T=some (F',T')):SI F F' T T':=by
 unfold yL at h;split at h
 ·cases h
 ·cases hq:(zM (zi (zQ F c)) (zM (zi (zh (zi (zQ F c)))) (some ((),zE (zQ F c))))) with
  |none=>rw[hq] at h;cases h
  |some y=>
   rw[hq] at h;obtain⟨r1,h1⟩:=Zh hq;obtain⟨r2,h2⟩:=Zh h1;obtain⟨rfl,rfl⟩:=Prod.mk.inj (Option.some.inj h);obtain rfl:=Option.some.inj h2;have hp:P5 (zQ F c) (zE (zQ F c)):=((Zf _).next r1).trans ((Zf _).next r2);have hs:=zeo (T:=T) hr hT hc hg hx hp;have he:=zeH hT kd (zQ F c).self (zY (zQ F c)) (Ze (zQ F c)) hk;have hl:=zie T kd (zQ F c).self (zY (zQ F c)) (Ze (zQ F c));have hg2:(zE (zQ F c)).gas<=F.gas - c:=hp.more.1;refine⟨hs.fx,hs.gas,hs.lt,hs.nx,hs.pc,hs.rs,hs.os,hs.st,he.1,he.2, ?_⟩;show(Yo T kd (zQ F c).self (zY (zQ F c)) (Ze (zQ F c))).ch.length+(Yo T kd (zQ F c).self (zY (zQ F c)) (Ze (zQ F c))).logs.length+(zE (zQ F c)).gas<=_;rw[hl.1,hl.2];omega
theorem si_log {F F':Fz} {T T':TS} {c n:Nat} (hr:RunF F) (hT:ZP T) (hc:1<=c) (hg:c<=F.gas) (hx:F.nx<F.code.size) (h:zdT n (zQ F c) T=some (T',F')):SI F F' T T':=by
 unfold zdT at h;split at h
 ·cases h
 ·obtain⟨r1,h⟩:=Zh h;obtain⟨r2,h⟩:=Zh h;have hp:P5 (zQ F c) (zE (zQ F c)):=((Zf _).next r1).trans ((Zf _).next r2);unfold zgr at h;split at h
  ·cases h
  ·rename_i ts F1 h1;unfold zhX at h;split at h
   ·cases h
   ·rename_i a b F2 h2;split at h
    ·cases h
    ·obtain⟨rfl,rfl⟩:=Prod.mk.inj (Option.some.inj h);have hp2:P5 (zQ F c) {F2 with gas:=F2.gas - 8*b}:=hp.trans ((zeP _ _ _ _ h1).trans ((ym _ _ _ _ _ h2).trans ⟨F2.st,F2.mem,_,rfl,Nat.sub_le _ _⟩));have hs:=zeo (T:=T) hr hT hc hg hx hp2;have hg2:F2.gas - 8*b<=F.gas - c:=hp2.more.1;refine⟨hs.fx,hs.gas,hs.lt,hs.nx,hs.pc,hs.rs,hs.os,hs.st,⟨⟨[],by simp,by simp⟩,⟨_,rfl⟩,fun _=>rfl⟩,hT, ?_⟩;show T.ch.length+(T.logs++[_]).length+(F2.gas - 8*b)<=_;rw[List.length_append];show T.ch.length+(T.logs.length+1)+(F2.gas - 8*b)<=_;omega
theorem si_call {F F':Fz} {T T':TS} {c op:Nat} (wk:Wk) (hr:RunF F) (hT:ZP T) (hc:2<=c) (hg:c<=F.gas) (hx:F.nx<F.code.size) (h:Yh wk op (zQ F c) T=some (T',F'))
  (hwk:∀asked tt v data G,G.depth=F.depth->G.ro=F.ro->G.self=F.self->G.caller=F.caller->G.value=F.value->G.gas+c<=F.gas->data.size<=65536->YR G T v=true->WkP wk (zK op asked tt v data G T) T v G.self tt):SI F F' T T':=by
 obtain⟨G,hp,hor⟩:=zki h;obtain⟨m1,m2,m3,m4,m5,m6,m7⟩:=hp.more;have hcs:=hr.cs;have m1:G.gas<=F.gas - c:=m1;have m2:G.nx=F.nx+1:=m2;have m3:G.pc=F.nx:=m3;have m5:G.out=F.out:=m5;have m6:G.status=F.status:=m6
 have fx:Fx F {G with ret:=⟨#[]⟩}:=by
  have:=Fx.trans (F:=F) (G:=zQ F c) ⟨rfl,rfl,rfl,rfl,rfl,rfl,rfl⟩ hp.fx;exact⟨this.code,this.data,this.depth,this.self,this.caller,this.value,this.ro⟩
 rcases hor with⟨rfl,h5⟩|⟨asked,tt,v,data,c',d',hds,hmay,he⟩
 ·obtain⟨n1,n2,n3,n4,n5,n6,n7⟩:=h5.more;have n1:F'.gas<=G.gas:=n1;have n2:F'.nx=G.nx:=n2;have n3:F'.pc=G.pc:=n3;have n4:F'.ret=⟨#[]⟩:=n4;have n5:F'.out=G.out:=n5;have n6:F'.status=G.status:=n6;exact⟨fx.trans h5.fx,by omega,fun _=>by omega,fun _=>by omega,by omega,by rw[n4];exact Nat.zero_le _,by rw[n5,m5];exact hr.os,by rw[n6,m6];exact hr.st,Ext.refl _,hT,by omega⟩
 ·have hW:=hwk asked tt v data {G with ret:=⟨#[]⟩} fx.depth fx.ro fx.self fx.caller fx.value (by show G.gas+c<=F.gas;omega) hds hmay;rw[he] at h
  have hgr:Zg {G with ret:=⟨#[]⟩} asked<=G.gas:=by
   unfold Zg zeq;show(if asked%M<=G.gas - G.gas/64 then asked%M else G.gas - G.gas/64)<=_;split<;>omega
  have hgas:(wk (zK op asked tt v data {G with ret:=⟨#[]⟩} T) T v G.self tt).1.gas<=Zg {G with ret:=⟨#[]⟩} asked:=hW.gas;have hbud:(wk (zK op asked tt v data {G with ret:=⟨#[]⟩} T) T v G.self tt).2.ch.length+(wk (zK op asked tt v data {G with ret:=⟨#[]⟩} T) T v G.self tt).2.logs.length+(wk (zK op asked tt v data {G with ret:=⟨#[]⟩} T) T v G.self tt).1.gas<=T.ch.length+T.logs.length+2+Zg {G with ret:=⟨#[]⟩} asked:=hW.bud;have hos:(wk (zK op asked tt v data {G with ret:=⟨#[]⟩} T) T v G.self tt).1.out.size<=65536:=hW.os;have hext:Ext T (wk (zK op asked tt v data {G with ret:=⟨#[]⟩} T) T v G.self tt).2:=hW.ext;have hcong:ZP (wk (zK op asked tt v data {G with ret:=⟨#[]⟩} T) T v G.self tt).2:=hW.cong;generalize wk (zK op asked tt v data {G with ret:=⟨#[]⟩} T) T v G.self tt=W at*;generalize Zg {G with ret:=⟨#[]⟩} asked=gr at*;unfold yO at h;cases hpu:zm (if W.1.st=0 then 1 else 0) (zei {({G with ret:=⟨#[]⟩}:Fz) with gas:=G.gas - gr} W.1.gas W.1.out c' d') with
  |none=>rw[hpu] at h;cases h
  |some y=>
   obtain⟨u,F9⟩:=y;rw[hpu] at h;obtain⟨rfl,rfl⟩:=Prod.mk.inj (Option.some.inj h);have h5:=yr _ _ _ _ hpu;obtain⟨n1,n2,n3,n4,n5,n6,n7⟩:=h5.more;have n1:F9.gas<=G.gas - gr+W.1.gas:=n1;have n2:F9.nx=G.nx:=n2;have n3:F9.pc=G.pc:=n3;have n4:F9.ret=W.1.out:=n4;have n5:F9.out=G.out:=n5;have n6:F9.status=G.status:=n6;have fx2:=h5.fx;have fx2:Fx {G with ret:=⟨#[]⟩} F9:=⟨fx2.code,fx2.data,fx2.depth,fx2.self,fx2.caller,fx2.value,fx2.ro⟩;show SI F F9 T W.2;exact⟨fx.trans fx2,by omega,fun _=>by omega,fun _=>by omega,by omega,by rw[n4];exact hos,by rw[n5,m5];exact hr.os,by rw[n6,m6];exact hr.st,hext,hcong,by omega⟩
theorem ZD {r:Option (Unit×Fz)} {T T':TS} {F':Fz} (h:Yr r T=some (F',T')):r=some ((),F')/\T'=T:=by
 cases r with
 |none=>cases h
 |some y=>obtain⟨u,G⟩:=y;obtain⟨rfl,rfl⟩:=Prod.mk.inj (Option.some.inj h);exact⟨rfl,rfl⟩
theorem zcM {r:Option (TS×Fz)} {T':TS} {F':Fz} (h:zdE r=some (F',T')):r=some (T',F'):=by
 cases r with
 |none=>cases h
 |some y=>obtain⟨u,G⟩:=y;obtain⟨rfl,rfl⟩:=Prod.mk.inj (Option.some.inj h);rfl
theorem zpl {F F':Fz} {T T':TS} (wk:Wk) (hr:RunF F) (hT:ZP T) (h:Z1 wk F T=some (F',T'))
  (hwk:∀asked tt v data G,G.depth=F.depth->G.ro=F.ro->G.self=F.self->G.caller=F.caller->G.value=F.value->G.gas+100<=F.gas->data.size<=65536->YR G T v=true->WkP wk (zK (opF F) asked tt v data G T) T v G.self tt):SI F F' T T':=by
 have hop:=op_lt F;unfold Z1 at h;cases hc:ZC (opF F) with
 |none=>rw[hc] at h;cases h
 |some c=>
  rw[hc] at h;dsimp only at h;split at h
  ·cases h
  rename_i hg;have hg:c<=F.gas:=by omega
  unfold doM at h;split at h
  ·rename_i c1;obtain⟨hh,rfl⟩:=ZD h;have h0:opF F≠0:=fun e=>by rw[e] at c1;cases c1
   exact zeo hr hT (zaq hop hc h0 (fun e=>by rw[e] at c1;cases c1) (fun e=>by rw[e] at c1;cases c1)) hg (nx_lt h0) (zlD _ _ _ _ hh)
  split at h
  ·obtain⟨hh,rfl⟩:=ZD h;exact zqn hr hT hg hh
  rename_i c2;have h0:opF F≠0:=by omega
  have hx:=nx_lt h0;split at h
  ·obtain⟨hh,rfl⟩:=ZD h;exact zeo hr hT (zaq hop hc h0 (by omega) (by omega)) hg hx (zmM _ _ _ _ _ hh)
  split at h
  ·have hp:=zaq hop hc h0 (by omega) (by omega);unfold zfH at h;split at h
   ·exact zj6 hr hT hp hg hx (by omega) h
   split at h
   ·exact zj6 hr hT hp hg hx (by omega) h
   ·obtain⟨hh,rfl⟩:=ZD h;exact si_p6 hr hT hp hg hx (ziA hh)
  split at h
  ·obtain⟨hh,rfl⟩:=ZD h;exact si_push hr hT (zaq hop hc h0 (by omega) (by omega)) hg hx (by omega) hh
  split at h
  ·obtain⟨hh,rfl⟩:=ZD h;exact zeo hr hT (zaq hop hc h0 (by omega) (by omega)) hg hx (zpE _ _ _ _ hh)
  split at h
  ·obtain⟨hh,rfl⟩:=ZD h;exact zeo hr hT (zaq hop hc h0 (by omega) (by omega)) hg hx (zlR _ _ _ _ hh)
  split at h
  ·exact si_log hr hT (zaq hop hc h0 (by omega) (by omega)) hg hx (zcM h)
  split at h
  ·rename_i hcall
   have hc100:c=100:=by
    rcases hcall with e|e|e<;>rw[e] at hc<;>exact(Option.some.inj hc).symm
   subst hc100;exact si_call wk hr hT (by omega) hg hx (zcM h) hwk
  ·obtain⟨hh,rfl⟩:=ZD h;exact zqn hr hT hg hh
end
section
open Go.Maps
def Zl (wk:Wk):Nat->Fz->TS->Option Fz×TS
 |0,F,T=>(none,T)
 |n+1,F,T=>if F.ended=true then(some F,T) else match Z1 wk F T with
  |none=>(none,T)
  |some (F',T')=>Zl wk n F' T'
def outM (o:Option Fz):Res:=⟨zcr o,zbs o,resO o⟩
def wkM:Nat->Wk
 |0=>fun _ T _ _ _=>(⟨2,0,⟨#[]⟩⟩,T)
 |d+1=>fun G T v fr tt=>(outM (Zl (wkM d) (G.gas+2) G (ZL T v fr tt)).1,YM T (Zl (wkM d) (G.gas+2) G (ZL T v fr tt)).2 (zcr (Zl (wkM d) (G.gas+2) G (ZL T v fr tt)).1))
section
variable {t j:Value}
theorem zlE (wk:Wk):∀(n:Nat) (F:Fz) (T:TS),Zl wk n (F.sj t j) T=((Zl wk n F T).1.map (fun G=>G.sj t j),(Zl wk n F T).2)
 |0,F,T=>rfl
 |n+1,F,T=>by
  rw[Zl,Zl];show(if F.ended=true then _ else _)=_;by_cases h:F.ended=true
  ·rw[if_pos h,if_pos h];rfl
  ·rw[if_neg h,if_neg h,zom];cases Z1 wk F T with
   |none=>rfl
   |some y=>exact zlE wk n y.1 y.2
theorem zmx (o:Option Fz):zcr (o.map fun G=>G.sj t j)=zcr o:=by cases o<;>rfl
theorem zmh (o:Option Fz):zbs (o.map fun G=>G.sj t j)=zbs o:=by cases o<;>rfl
theorem resO_sj (o:Option Fz):resO (o.map fun G=>G.sj t j)=resO o:=by cases o<;>rfl
end
structure GoodT (T:TS):Prop where
 cong:ZP T
 cs:∀a,(T.acc a).code.size<=1000
 kd:∀c∈T.ch,c.kind<3
theorem GoodT.ext {T T':TS} (h:GoodT T) (he:Ext T T') (hc:ZP T'):GoodT T':=by
 refine⟨hc,fun a=>by rw[he.code a];exact h.cs a,fun c hm=> ?_⟩;obtain⟨l,h1,h2⟩:=he.ch;rw[h1] at hm;exact(List.mem_append.1 hm).elim (h.kd c) (h2 c)
def zmI (wk:Wk) (A dep:Nat):Prop:=∀G T v fr tt,RunF G->dep<G.depth->G.gas<=100000->GoodT T->T.ch.length+T.logs.length+2+G.gas<=1000000->
 WkP wk G T v fr tt/\WakeOk wk (A*(G.gas - (wk G T v fr tt).1.gas)+10) G T v fr tt
theorem WakeOk.mono {wk:Wk} {m m':Nat} {G:Fz} {T:TS} {v fr tt:Nat} (h:WakeOk wk m G T v fr tt) (hm:m<=m'):WakeOk wk m' G T v fr tt:=by
 obtain⟨h1,h2,h3⟩:=h;refine⟨h1,h2,fun base gb tb jd V x hx hn=>(h3 base gb tb jd V x hx (by omega)).mono ?_⟩;rintro e x' ⟨he,V',S2,k1,k2,k3,k4,k5,k6⟩;exact⟨he,V',S2,k1,k2,k3,k4,by omega,k6⟩
theorem zd8 {op asked tt v:Nat} {data:ByteArray} {G:Fz} {T:TS} (hd:data.size<=65536) (hm:YR G T v=true) (hT:GoodT T):RunF (zK op asked tt v data G T):=by
 unfold YR at hm;rw[Bool.and_eq_true] at hm;have hdp:G.depth<16:=of_decide_eq_true hm.1;exact⟨hT.cs tt,hd,Nat.zero_le _,hdp,Nat.zero_le _,Nat.zero_le _,Nat.zero_le _,Nat.zero_le _⟩
theorem zdz (G:Fz) (asked:Nat):Zg G asked<=G.gas:=by
 unfold Zg zeq;split<;>omega
def costS (A:Nat) (F:Fz):Option (Fz×TS)->Nat
 |none=>A*F.gas+2
 |some (F',_)=>A*(F.gas - F'.gas)+(if F'.ended=true then 2 else 0)
theorem zgD {wk:Wk} {A dep:Nat} {F:Fz} {T:TS} (hA:2<=A) (hW:zmI wk A dep) (hr:RunF F) (hd:dep<=F.depth) (hg:F.gas<=100000) (hT:GoodT T) (hb:T.ch.length+T.logs.length+F.gas<=1000000):
  zeM F T (costS A F (Z1 wk F T)) (Z1 wk F T)/\∀F' T',Z1 wk F T=some (F',T')->SI F F' T T':=by
 have hW2:∀asked tt v data G,G.depth=F.depth->G.gas+100<=F.gas->data.size<=65536->YR G T v=true->WkP wk (zK (opF F) asked tt v data G T) T v G.self tt/\WakeOk wk (A*(Zg G asked - (wk (zK (opF F) asked tt v data G T) T v G.self tt).1.gas)+10) (zK (opF F) asked tt v data G T) T v G.self tt:=by
  intro asked tt v data G e1 e6 e7 e8;have hgl:=zdz G asked;refine hW (zK (opF F) asked tt v data G T) T v G.self tt (zd8 e7 e8 hT) (by show dep<G.depth+1;omega) (by show Zg G asked<=_;omega) hT (by show T.ch.length+T.logs.length+2+Zg G asked<=_;omega)
 have hsi:∀F' T',Z1 wk F T=some (F',T')->SI F F' T T':=fun F' T' h=>zpl wk hr hT.cong h fun asked tt v data G e1 e2 e3 e4 e5 e6 e7 e8=>(hW2 asked tt v data G e1 e6 e7 e8).1
 refine⟨?_,hsi⟩;have hnx:=hr.nx;have hpc:=hr.pc;refine step_I wk ⟨hr.cs,hr.ds,hr.rs,hr.dp,by omega,by omega⟩ (by omega) ⟨hT.cs,by omega,by omega,hT.kd⟩ ?_ ?_
 ·cases hs:Z1 wk F T with
  |none=>show 2<=A*F.gas+2;omega
  |some y=>
   obtain⟨F',T'⟩:=y;have h:=hsi F' T' hs;show 2<=A*(F.gas - F'.gas)+(if F'.ended=true then 2 else 0);split
   ·omega
   ·rename_i he;have hl:=h.lt (by simpa using he);have:A*1<=A*(F.gas - F'.gas):=Nat.mul_le_mul_left A (by omega);omega
 ·intro asked tt v data F' e1 e2 e3 e4 e5 e6 e7 e8 c d e9;obtain⟨w1,w2⟩:=hW2 asked tt v data F' e1 e6 e7 e8;have hgl:=zdz F' asked;refine w2.mono ?_;have hwg:(wk (zK (opF F) asked tt v data F' T) T v F'.self tt).1.gas<=Zg F' asked:=w1.gas;generalize wk (zK (opF F) asked tt v data F' T) T v F'.self tt=W at*;rw[e9];unfold yO;cases hpu:zm (if W.1.st=0 then 1 else 0) (zei {F' with gas:=F'.gas - Zg F' asked} W.1.gas W.1.out c d) with
  |none=>
   show _<=A*F.gas+2;have h1:A*(Zg F' asked - W.1.gas+100)<=A*F.gas:=Nat.mul_le_mul_left A (by omega);rw[Nat.mul_add] at h1;omega
  |some y=>
   obtain⟨u,F9⟩:=y;have hg9:F9.gas<=F'.gas - Zg F' asked+W.1.gas:=(yr _ _ _ _ hpu).more.1;show _<=A*(F.gas - F9.gas)+(if F9.ended=true then 2 else 0);have h1:A*(Zg F' asked - W.1.gas+100)<=A*(F.gas - F9.gas):=Nat.mul_le_mul_left A (by omega);rw[Nat.mul_add] at h1;omega
theorem zkJ {wk:Wk} {A dep:Nat} (hA:2<=A) (hW:zmI wk A dep):∀(n:Nat) (F:Fz) (T:TS),(F.ended=false->F.gas+2<=n)->1<=n->RunF F->dep<=F.depth->F.gas<=100000->GoodT T->T.ch.length+T.logs.length+F.gas<=1000000->
  (∃k m,Chain2 k m F T (Zl wk n F T).1 (Zl wk n F T).2/\m<=A*(F.gas - zbs (Zl wk n F T).1)+2)/\zbs (Zl wk n F T).1<=F.gas/\Ext T (Zl wk n F T).2/\ZP (Zl wk n F T).2/\zcr (Zl wk n F T).1<=2/\(resO (Zl wk n F T).1).size<=65536/\(Zl wk n F T).2.ch.length+(Zl wk n F T).2.logs.length+zbs (Zl wk n F T).1<=T.ch.length+T.logs.length+F.gas
 |0,F,T,_,h1,_,_,_,_,_=>by omega
 |n+1,F,T,hn,h1,hr,hd,hg,hT,hb=>by
  rw[Zl];by_cases he:F.ended=true
  ·rw[if_pos he];exact⟨⟨0,0,.done he,Nat.zero_le _⟩,Nat.le_refl _,Ext.refl T,hT.cong,Nat.le_trans hr.st (by omega),hr.os,Nat.le_refl _⟩
  ·rw[if_neg he];have he:F.ended=false:=by simpa using he
   obtain⟨s1,s2⟩:=zgD hA hW hr hd hg hT hb;cases hs:Z1 wk F T with
   |none=>
    rw[hs] at s1;exact⟨⟨1,_,.fail he s1,by show A*F.gas+2<=A*(F.gas - 0)+2;simp⟩,Nat.zero_le _,Ext.refl T,hT.cong,Nat.le_refl _,Nat.zero_le _,by show T.ch.length+T.logs.length+0<=_;omega⟩
   |some y=>
    obtain⟨F',T'⟩:=y;rw[hs] at s1;have h:=s2 F' T' hs;dsimp only;have hT':=hT.ext h.ext h.cong;have hgn:F'.gas<=F.gas:=h.gas;have hbud:=h.bud;have hfx:=h.fx;have hn0:=hn he
    have hr':RunF F'\/F'.ended=true:=by
     by_cases e:F'.ended=true
     ·exact Or.inr e
     ·have e:F'.ended=false:=by simpa using e
      exact Or.inl ⟨by rw[hfx.code];exact hr.cs,by rw[hfx.data];exact hr.ds,h.rs,by rw[hfx.depth];exact hr.dp,h.nx e,h.pc,h.os,h.st⟩
    rcases hr' with hr'|e
    ·obtain⟨⟨k,m,i1,i2⟩,i3,i4,i5,i6,i7,i8⟩:=zkJ hA hW n F' T' (fun e=>by have:=h.lt e;omega) (by omega) hr' (by rw[hfx.depth];exact hd) (by omega) hT' (by omega);refine⟨⟨k+1,_,.step he s1 i1, ?_⟩,Nat.le_trans i3 hgn,h.ext.trans i4,i5,i6,i7,by omega⟩;show A*(F.gas - F'.gas)+(if F'.ended=true then 2 else 0)+m<=_
     have hm1:A*(F.gas - zbs (Zl wk n F' T').1)=A*(F.gas - F'.gas)+A*(F'.gas - zbs (Zl wk n F' T').1):=by
      rw[<-Nat.mul_add];congr 1;omega
     rw[hm1];split
     ·rename_i e;cases n with
      |zero=>omega
      |succ n=>
       rw[Zl,if_pos e] at i1 i2⊢;cases k with
       |zero=>have:=i1.1;omega
       |succ k=>have e2:=i1.1;rw[e] at e2;cases e2
     ·omega
    ·cases n with
     |zero=>omega
     |succ n=>
      rw[Zl,if_pos e];refine⟨⟨1,_,.step he s1 (.done e), ?_⟩,hgn,h.ext,h.cong,Nat.le_trans h.st (by omega),h.os,by show T'.ch.length+T'.logs.length+F'.gas<=_;omega⟩;show A*(F.gas - F'.gas)+(if F'.ended=true then 2 else 0)+0<=A*(F.gas - F'.gas)+2;rw[if_pos e];omega
theorem zkT:∀d,d<=16->zmI (wkM d) (2*d+2) (16 - d)
 |0,_=>fun G T v fr tt hr hd=>by have:=hr.dp;omega
 |d+1,h16=>fun G T v fr tt hr hd hg hT hb=>by
  have ih:=zkT d (by omega);obtain⟨e1,e2,e3,e4⟩:=zfl hT.cong v fr tt;have hTm:=hT.ext e1 e2;have key:∀t j,_:=fun(t j:Value)=>zkJ (by omega) ih (G.gas+2) (G.sj t j) (ZL T v fr tt) (fun _=>Nat.le_refl _) (by omega) ⟨hr.cs,hr.ds,hr.rs,hr.dp,hr.nx,hr.pc,hr.os,hr.st⟩ (by show 16 - d<=G.depth;omega) hg hTm (by show(ZL T v fr tt).ch.length+(ZL T v fr tt).logs.length+G.gas<=_;rw[e3,e4];omega)
  have hk0:=key G.trail G.jd;have hG:G.sj G.trail G.jd=G:=rfl;rw[hG] at hk0;obtain⟨_,k3,k4,k5,k6,k7,k8⟩:=hk0;rw[e3,e4] at k8;have hE:=e1.trans k4;have hX:=zqG k5 hE (zcr (Zl (wkM d) (G.gas+2) G (ZL T v fr tt)).1);have hL:=zo3 hE (zcr (Zl (wkM d) (G.gas+2) G (ZL T v fr tt)).1);refine⟨⟨hX.1,hX.2,k3,k6,k7, ?_⟩,k3,Nat.le_trans k6 (by omega),fun base gb tb jd V x hx hn=> ?_⟩
  ·show(YM T _ _).ch.length+(YM T _ _).logs.length+zbs _<=_;omega
  ·obtain⟨⟨k,m,c1,c2⟩,_⟩:=key (.pointer (some ⟨tb,0,none⟩)) jd;rw[zlE] at c1 c2;dsimp only at c1 c2;rw[zmh] at c2;have hn:V.n+((2*(d+1)+2)*(G.gas - zbs (Zl (wkM d) (G.gas+2) G (ZL T v fr tt)).1)+10)<800000000000:=hn;have c2:m<=(2*d+2)*(G.gas - zbs (Zl (wkM d) (G.gas+2) G (ZL T v fr tt)).1)+2:=c2;have hlen:=hE.len
   have e5:(2*(d+1)+2)*(G.gas - zbs (Zl (wkM d) (G.gas+2) G (ZL T v fr tt)).1)=(2*d+2)*(G.gas - zbs (Zl (wkM d) (G.gas+2) G (ZL T v fr tt)).1)+2*(G.gas - zbs (Zl (wkM d) (G.gas+2) G (ZL T v fr tt)).1):=by
    rw[<-Nat.add_mul];congr 1
   have hGT:=(hT.ext hE k5).kd;have hres:=znr v fr tt x hx c1 (by rw[zmx];omega) (by omega) (by omega) (by omega) hlen.1 hlen.2 hGT;rw[zmx,zmh,resO_sj] at hres;refine hres.mono ?_;rintro e x' ⟨rfl,V',S2,j1,j2,j3,j4,j5,j6⟩;refine⟨rfl,V',S2,j1,j2,j3,j4, ?_,j6⟩;show V'.n<=V.n+((2*(d+1)+2)*(G.gas - zbs (Zl (wkM d) (G.gas+2) G (ZL T v fr tt)).1)+10);omega
end
section
open Go.Maps
def zd3 (code:ByteArray) (fr tt val:Nat) (data:ByteArray) (gas:Nat):Fz:={msgF 0 code undef fr tt val data gas with trail:=undef}
def YT (T:TS) (fr tt val:Nat) (data:ByteArray) (gas:Nat):Res×TS:=wkM 16 (zd3 (T.acc tt).code fr tt val data gas) T val fr tt
theorem zou {T:TS} (fr tt val:Nat) (data:ByteArray) (gas:Nat) (hT:GoodT T) (hd:data.size<=65536) (hg:gas<=100000) (hl:T.ch.length+T.logs.length<=800000):
  WkP (wkM 16) (zd3 (T.acc tt).code fr tt val data gas) T val fr tt/\WakeOk (wkM 16) 3400010 (zd3 (T.acc tt).code fr tt val data gas) T val fr tt:=by
 have h:=zkT 16 (Nat.le_refl _) (zd3 (T.acc tt).code fr tt val data gas) T val fr tt ⟨hT.cs tt,hd,Nat.zero_le _,by show 1<=16;omega,Nat.zero_le _,Nat.zero_le _,Nat.zero_le _,Nat.zero_le _⟩ (by show 0<1;omega) hg hT (by show T.ch.length+T.logs.length+2+gas<=_;omega);refine⟨h.1,h.2.mono ?_⟩;show 34*(gas - _)+10<=_;omega
def DelR (base tb:Nat) (T T':TS) (V:TV) (st gs:Nat) (out:ByteArray) (w:World) (e:Ending) (w':World):Prop:=∃lv tv,e=.returned (zaJ st gs out lv)/\zcu base tb T T' V [] 3400010 w w'/\Lo w' base lv tv T'.logs
theorem lo_one {L:List LogE} {tv:List Value} (hv:∀t∈tv,∃a n c,t=.slice a n c):∀u∈loL L tv,u.oneCell'=true:=by
 induction L generalizing tv with
 |nil=>intro u hu;cases hu
 |cons a L ih=>
  cases tv with
  |nil=>intro u hu;cases hu
  |cons b tv=>
   intro u hu;have hu:u∈loC a b++loL L tv:=hu;rcases List.mem_append.1 hu with h|h
   ·obtain⟨x,y,z,rfl⟩:=hv b (by simp);unfold loC at h;simp at h;rcases h with rfl|rfl|rfl|rfl|rfl|rfl<;>rfl
   ·exact ih (fun t ht=>hv t (List.mem_cons_of_mem _ ht)) u h
theorem Lo.sl {w:World} {base:Nat} {lv:Value} {tv:List Value} {L:List LogE} (h:Lo w base lv tv L):∀t∈tv,∃a n c,t=.slice a n c:=fun t ht=>by
 obtain⟨i,hi⟩:=List.getElem?_of_mem ht;have hl:i<L.length:=by rw[<-h.1];exact(List.getElem?_eq_some_iff.1 hi).1
 obtain⟨ad,cp,e⟩:=zS (h.2.2 i L[i] t (List.getElem?_eq_getElem hl) hi);exact⟨ad,_,cp,e⟩
theorem loL_len {L:List LogE} {tv:List Value} (h:tv.length=L.length):(loL L tv).length=L.length*6:=by
 induction L generalizing tv with
 |nil=>rfl
 |cons a L ih=>
  cases tv with
  |nil=>cases h
  |cons b tv=>
   show(loC a b++loL L tv).length=_;rw[List.length_append,ih (by simpa using h)];show 6+L.length*6=(L.length+1)*6;omega
theorem znh {P:Program} {x x':World} {m:Sem Value} {v:Value} (h:m.run P x=.ok v x'):((do pure (Next.value (<-m)):Sem Next)).run P x=.ok (.value v) x':=by
 rw[Sem.run_bind,h];rfl
theorem zgy {P:Program} {s:Act} {x x':World} {pos:String} {af:Array Edge} {K:Act->World->Prop} {Q:Exit->Act->World->Prop} {t1 t2 d:Nat} {ty t:TypeId} {v1 v2 v':Value} (h1:s.tmps.getD t1 undef=v1) (h2:s.tmps.getD t2 undef=v2) (hrun:(Builtin.append_ #[t,t] ty #[v1,v2]).run P x=.ok v' x') (hK:K (s.put (some d) v') x'):
  Oper.wp P ⟨some d,.call ⟨.builtin .append,#[.tmp t1,.tmp t2],#[t,t]⟩,ty,pos,af,none⟩ s x K Q:=by
 exact Lib.wp_append_run x (.tmp t1) (.tmp t2) t t rfl v1 v2 h1 h2 v' x' hrun hK
theorem zfa {base:Nat} {lv:Value} {tv:List Value} {L:List LogE} (x:World) (h:Lo x base lv tv L) (hl:L.length<=1000000) (hb:base<=x.heap.size):
  ∃v' x',(Builtin.append_ #[36,36] 36 #[noL,lv]).run prog x=.ok v' x'/\x'.ownsRow base 112 6 v' L.length (loL L tv)/\x.grownBy x' none/\∀k,v'.ownBlock=some k->x.heap.size<=k:=by
 rcases h.2.1.2 with⟨rfl,h0⟩|⟨g,cap,cur,rfl,h2,h3,h4,h5,h6,h7⟩
 ·refine⟨noL,x,by kernel_rfl, ?_,World.grownBy.refl x _,fun k hk=>by cases hk⟩;have hn:=h.2.1;exact hn
 ·obtain⟨i0,hi0,hz0,hz1,hz2⟩:=info_parts zlP;obtain⟨v',x',r1,r2,r3,r4⟩:=yE (P:=prog) x base 36 36 112 i0 _ 6 72 (by kernel_rfl) hi0 hz0 hz1 hz2 rfl (by decide) noL 0 [] (World.ownsRow_nil x _ _ _) ⟨g,0,none⟩ L.length cap (loL L tv) (loL_len h.1) (h.2.1.cells rfl) (lo_one h.sl) (by unfold maxLen;omega) (by omega) hb;refine⟨v',x',r1, ?_,r3,fun k hk=> ?_⟩
  ·rw[Nat.zero_add,List.nil_append] at r2;exact r2
  ·rcases r4 with e|e
   ·rw[e] at hk;cases hk
   ·exact e k hk
def PhDl (base b:Nat) (L:List LogE) (tv:List Value) (w:World):Nat->World->Prop
 |0,x=>Below w.heap.size w x
 |1,x=>Kb [] w x
 |_,x=>∃v' y,Kb [] w y/\Below (y.setCell ⟨b,3,none⟩ v').heap.size (y.setCell ⟨b,3,none⟩ v') x/\y.ownsRow base 112 6 v' L.length (loL L tv)/\∀k,v'.ownBlock=some k->w.heap.size<=k
def RelD (b:Nat):Nat->World->World->Prop:=fun p x x'=>p=1->∃u,x'=x.setCell ⟨b,3,none⟩ u
def NewLd (base:Nat) (L:List LogE) (tv:List Value) (w:World):Kp:=fun p v x=>p≠0/\x.ownsRow base 112 6 v L.length (loL L tv)/\∀k,v.ownBlock=some k->w.heap.size<=k
theorem ziR {base b:Nat} {L:List LogE} {tv:List Value} {w x:World} {k:Nat} (h:PhDl base b L tv w k x) (hk:k<=0):Below w.heap.size w x:=by
 obtain rfl:k=0:=by omega
 exact h
theorem zq7 {base b:Nat} {L:List LogE} {tv:List Value} {w:World} (hb6:b<w.heap.size) (k:Nat) (x x':World) (h:PhDl base b L tv w k x) (hb:Below x.heap.size x x'):PhDl base b L tv w k x':=by
 match k,h with
 |0,h=>exact(show Below w.heap.size w x from h).trans (hb.mono (show Below w.heap.size w x from h).size)
 |1,h=>exact(show Kb [] w x from h).below hb
 |_+2,⟨v',y,h1,h2,h3,h4⟩=>exact⟨v',y,h1,h2.trans (hb.mono h2.size),h3,h4⟩
theorem zqO {base b p:Nat} {L:List LogE} {tv:List Value} {w x x':World} {v:Value} (hb6:b<w.heap.size) (hp:p<2) (hph:PhDl base b L tv w p x) (hrel:RelD b p x x') (hT:NewLd base L tv w p v x):NewLd base L tv w (p+1) v x':=by
 match p,hp,hph,hrel,hT with
 |0,_,_,_,hT=>exact absurd rfl hT.1
 |1,_,hph,hrel,hT=>
  obtain⟨u,rfl⟩:=hrel rfl;exact⟨by omega,yR hT.2.1 (fun k hk e=>by have:=hT.2.2 k hk;omega) _ _,hT.2.2⟩
theorem zjE {base tb:Nat} {T:TS} {V:TV} (fr tt val gas:Nat) (data:ByteArray) (w:World) (h:Tr base tb T V w) (hg:gas<=100000) (hT:GoodT T) (hds:data.size<=65536) (hl:T.ch.length+T.logs.length<=800000) (hn:V.n+3400010<800000000000):
  Calls prog 35 #[.pointer (some ⟨tb,0,none⟩),zjX fr tt val data gas] w (DelR base tb T (YT T fr tt val data gas).2 V (YT T fr tt val data gas).1.st (YT T fr tt val data gas).1.gas (YT T fr tt val data gas).1.out w):=by
 obtain⟨hwp,hwk⟩:=zou fr tt val data gas hT hds hg hl;have hcs:=hT.cs tt;have HBW:=zb h.hb;obtain⟨R,hR⟩:∃R,R=YT T fr tt val data gas:=⟨_,rfl⟩;have hR':wkM 16 (zd3 (T.acc tt).code fr tt val data gas) T val fr tt=R:=hR.symm
 have hlog:R.2.logs.length<=1000000:=by
  have h1:=hwp.bud;rw[hR'] at h1;have:(zd3 (T.acc tt).code fr tt val data gas).gas=gas:=rfl;omega
 unfold WakeOk at hwk;rw[hR'] at hwk;rw[<-hR];obtain⟨⟨st,gs,out⟩,T'⟩:=R;dsimp only at hwk hlog⊢;have HLG:=zb hlog;clear hR hR' hwp hlog;go_enter func35,ntmps35;go_wp2;have hB:Below w.heap.size w (d2 w fr tt val data gas):=bal (bal (Below.refl _ w) _) _;have h2:=h.below hB;have hm:MsgAt (d2 w fr tt val data gas) w.heap.size fr tt val data gas:=zg (zlY w fr tt val data gas) (bal (Below.refl _ _) _);obtain⟨f,hf,hf'⟩:=h2.acc.map;obtain⟨sv,e1,e3,e4,e5⟩:=h2.acc.read tt hf';obtain⟨om,rfl⟩:=e3.is;have c0:=h2.row.cell (i:=0) (by decide);rw[show trC V 0=.map (some V.ab) from rfl] at c0;refine zkG (tt:=tt) (mb:=w.heap.size) (ab:=V.ab) (bl:=(T.acc tt).bal) (code:=(T.acc tt).code) (o:=om) _ _ h2 hcs h2.row.lt c0 (fun x hx=> ?_) (fun x hx=> ?_) (Below.refl _ _).drew rfl rfl rfl ?_
 ·have hr:=zg hm hx;exact⟨hr.cell (i:=4) (by decide),hr.cell (i:=5) (by decide),hr.cell (i:=6) (by decide),hr.cell (i:=7) (by decide)⟩
 ·have:=(hf.kb (Kb.of_below (S:=[]) hx) (by simp)).look YA Yj tt;rw[e1] at this;exact this
 rintro x z9 z10 hx - ⟨-,fb,jd,rfl,hfb,hbx,hft⟩;simp only[zF,List.foldl_cons,List.foldl_nil,Act.put];simp only[sx9];have cd:=hft.fr.row.cell (i:=18) (by decide);have fd:=hft.fr.row.frozen 18;rw[show(zcD tb (T.acc tt).code jd).cell noL noL 18=.int .i64 0 from rfl] at cd
 have hd:FT base fb tb {zcD tb (T.acc tt).code jd with depth:=1} T [fb] noL noL V (x.setCell ⟨fb,18,none⟩ (.int .i64 1)):=
  hft.own rfl rfl rfl rfl rfl hft.fr.gal (Yi hft.fr.row (zfJ _ noL noL 1)) ((Kb.refl [fb] x).setCell (Or.inl (by simp)) _)
 have hkd:Kb [fb] x (x.setCell ⟨fb,18,none⟩ (.int .i64 1)):=(Kb.refl [fb] x).setCell (Or.inl (by simp)) _;have hfb2:w.heap.size+1<fb:=by simp at hfb;omega
 have hmx:=zg hm hbx;go_wp2;generalize x.setCell ⟨fb,18,none⟩ (.int .i64 1)=x1 at*;have hm1:∀y,Kb [fb] x1 y->MsgAt y w.heap.size fr tt val data gas:=fun y hy=>(hkd.trans hy (fun i hi=>Or.inl hi)).row hmx (by simp;omega)
 refine zkK (mb:=w.heap.size) (fr:=fr) (tt:=tt) (val:=val) _ x1 hd (fun y hy=> ?_) (fun y hy=> ?_) (fun y hy=> ?_) ⟨hd.below (Below.refl _ _).drew,(Kb.refl _ _).drew⟩ rfl rfl rfl ?_
 ·have hr:=hm1 y hy;exact⟨hr.cell (i:=4) (by decide),hr.cell (i:=5) (by decide),hr.cell (i:=6) (by decide),hr.cell (i:=7) (by decide)⟩
 ·have hr:=hm1 y hy;exact⟨hr.cell (i:=0) (by decide),hr.cell (i:=1) (by decide),hr.cell (i:=2) (by decide),hr.cell (i:=3) (by decide)⟩
 ·have hr:=hm1 y hy;exact⟨hr.cell (i:=8) (by decide),hr.cell (i:=9) (by decide),hr.cell (i:=10) (by decide),hr.cell (i:=11) (by decide)⟩
 rintro x3 ⟨hf3,hk3⟩;simp only[zF,List.foldl_cons,List.foldl_nil,Act.put];simp only[sx9];go_wp2;refine zkn (mb:=w.heap.size) (gs:=gas) (data:=data) _ x3 hf3 hg (fun y hy=> ?_) (fun y hy=> ?_) ⟨hf3.below (Below.refl _ _).drew,(Kb.refl _ _).drew⟩ rfl rfl rfl ?_
 ·exact(hm1 y (hk3.trans hy (fun i hi=>Or.inl hi))).cell (i:=12) (by decide)
 ·exact(hm1 y (hk3.trans hy (fun i hi=>Or.inl hi))).cell (i:=13) (by decide)
 rintro x4 ⟨hf4,hk4⟩;have hkx:Kb [fb] x x4:=(hkd.trans hk3 (fun i hi=>Or.inl hi)).trans hk4 (fun i hi=>Or.inl hi);have hm4:=hm1 x4 (hk3.trans hk4 (fun i hi=>Or.inl hi));have m0:=hm4.cell (i:=0) (by decide);have m1:=hm4.cell (i:=1) (by decide);have m2:=hm4.cell (i:=2) (by decide);have m3:=hm4.cell (i:=3) (by decide);have m4:=hm4.cell (i:=4) (by decide);have m5:=hm4.cell (i:=5) (by decide);have m6:=hm4.cell (i:=6) (by decide);have m7:=hm4.cell (i:=7) (by decide);have m8:=hm4.cell (i:=8) (by decide);have m9:=hm4.cell (i:=9) (by decide);have m10:=hm4.cell (i:=10) (by decide);have m11:=hm4.cell (i:=11) (by decide);simp only[msgC,Array.getD_eq_getD_getElem?,List.getElem?_toArray,List.getElem?_cons_zero,List.getElem?_cons_succ,Option.getD_some] at m0 m1 m2 m3 m4 m5 m6 m7 m8 m9 m10 m11;have HW:=zb (hwk.2.2 base fb tb jd V x4 hf4 (by omega));have HKX:Hid (Below w.heap.size w x/\Kb [fb] x x4/\w.heap.size+1<fb):=⟨hB.trans (hbx.mono hB.size),hkx,hfb2⟩
 have HRA:Hid (ResAt x4 (w.heap.size+1) 0 0 ⟨#[]⟩ noL):=by
  have h0:ResAt (d2 w fr tt val data gas) (w.heap.size+1) 0 0 ⟨#[]⟩ noL:=by unfold ResAt;simp[go_sem]
  exact(h0.below hbx).kb hkx (by simp;omega)
 have HS4:Hid (w.heap.size+1<x4.heap.size):=zbh HRA.out.1.1;have HTL:Hid (∀k,zG tb T V k->k<w.heap.size):=fun k hk=>h.lt hk
 clear hwk hT hm4 hkx hk4 hf4 hk3 hf3 hm1 hmx hkd hd cd fd hft hbx hfb hx c0 e1 e3 e4 e5 hf hf' hm h2 hB h;simp only[zF,List.foldl_cons,List.foldl_nil,Act.put];simp only[sx9];go_wp2_with fail
 refine HW.out.mono ?_;rintro e w5 ⟨rfl,ht⟩;obtain⟨V5,S5,t1,t2,t3,t4,t5,t6⟩:=ht;clear m0 m1 m2 m3 m4 m5 m6 m7 m8 m9 m10 m11 HW;obtain⟨ad,cp,hlv⟩:=zS t1.lo.2.1;have hBR:Below w5.heap.size w5 (w5.alloc (.cells #[.int .u8 (st:Int),.int .i64 (gs:Int),.string out,.slice none 0 0] 38)).drew:=(bal (Below.refl _ w5) _).drew;have t7:=t1.below hBR;have c3:=t7.row.cell (i:=3) (by decide);rw[show trC V5 3=V5.lv from rfl,hlv] at c3
 have hrs5:ResAt w5 (w.heap.size+1) 0 0 ⟨#[]⟩ noL:=by
  refine HRA.out.kb t2 fun hm=> ?_
  rcases t3 _ hm with e|e
  ·have:=HKX.out.2.2;simp at e;omega
  ·have:=HTL.out _ e;omega
 have HRS:=zb hrs5;have hbw:base<=w.heap.size:=HBW.out;have HS5:Hid (w.heap.size+1<w5.heap.size):=Nat.lt_of_lt_of_le HS4.out t2.size
 -- what follows holds wherever the logs come to lie
 have HEND:Hid (∀(lv:Value) (y:World),(∀k,lv.ownBlock=some k->w5.heap.size<=k)->Kb [w5.heap.size] w5 y->Lo y base lv V5.tv T'.logs->Tr base tb T' V5 y->DelR base tb T T' V st gs out w (.returned (zaJ st gs out lv)) (yv y (w.heap.size+1) st gs out lv)):=by
  intro lv y hfr hky hlo hty;have hs4:w.heap.size+1<x4.heap.size:=HS4.out;obtain⟨hbx,hkx,hfb9⟩:=HKX.out;have hs5:=HS5.out
  have hnb:¬zG tb T' V5 (w.heap.size+1):=fun hf=>by
   rcases t4 _ hf with e|e
   ·have:=HTL.out _ e;omega
   ·omega
  have hkp:Kb [w.heap.size+1] y (yv y (w.heap.size+1) st gs out lv):=YG (Kb.refl _ y) (Or.inl (by simp));have hlnb:∀k,lv.ownBlock=some k->k≠w.heap.size+1:=fun k hk e=>by have:=hfr k hk;omega
  refine⟨lv,V5.tv,rfl,⟨V5,S5.filter (fun k=>decide (k<w.heap.size)),hty.kb hkp (fun k hk hf=>hnb (by simp at hk;rw[<-hk];exact hf)) (by simp), ?_,fun i hi=> ?_,fun i hi=> ?_,by omega,t6⟩,hlo.kb hkp (fun k hk hm=>hlnb k hk (by simpa using hm)) (fun t ht k hk hm=>hnb (Or.inr (Or.inr (Or.inr (Or.inr (Or.inr ⟨t,ht,by simp at hm;rw[<-hm];exact hk⟩))))))⟩
  ·refine YG ?_ (Or.inr (by omega))
   have hk1:Kb (S5.filter (fun k=>decide (k<w.heap.size))) w w5:=by
    refine((Kb.of_below hbx).trans hkx (fun i hi=>Or.inr (by simp at hi;omega))).trans t2 (fun i hi=> ?_);by_cases hl:i<w.heap.size
    ·exact Or.inl (List.mem_filter.2 ⟨hi,by simpa using hl⟩)
    ·exact Or.inr (by omega)
   exact hk1.trans hky (fun i hi=>Or.inr (by simp at hi;omega))
  ·obtain⟨e1,e2⟩:=List.mem_filter.1 hi;have e2:i<w.heap.size:=by simpa using e2
   rcases t3 i e1 with e|e
   ·simp at e;omega
   ·exact Or.inr e
  ·rcases t4 i hi with e|e
   ·exact Or.inl e
   ·exact Or.inr (by omega)
 clear hrs5;go_wp2;obtain⟨w6,HW6⟩:∃w6,Hid (w6=w5.alloc (.cells #[.int .u8 (st:Int),.int .i64 (gs:Int),.string out,.slice none 0 0] 38)):=⟨_,rfl⟩;have hB6:Below w5.heap.size w5 (w5.alloc (.cells #[.int .u8 (st:Int),.int .i64 (gs:Int),.string out,.slice none 0 0] 38)):=bal (Below.refl _ w5) _;have hr6:ResAt (w5.alloc (.cells #[.int .u8 (st:Int),.int .i64 (gs:Int),.string out,.slice none 0 0] 38)) w5.heap.size st gs out noL:=by unfold ResAt;simp[go_sem]
 have hb6:w5.heap.size<(w5.alloc (.cells #[.int .u8 (st:Int),.int .i64 (gs:Int),.string out,.slice none 0 0] 38)).heap.size:=by simp
 rw[<-HW6.out] at hB6 hr6 hb6⊢;have t6w:=t1.below hB6;have hlg:=HLG.out;obtain⟨L5,hL5⟩:∃L5,L5=T'.logs:=⟨_,rfl⟩;rw[<-hL5] at hlg;have t6l:Lo w6 base V5.lv V5.tv L5:=hL5▸t6w.lo;clear hBR t7 c3
 refine zt (PhDl base w5.heap.size L5 V5.tv w6) (RelD w5.heap.size) [(0,(.pointer (some ⟨tb,0,none⟩))),(6,(.pointer (some ⟨w5.heap.size,0,none⟩)))] [(some 54,.v (.pointer (some ⟨w5.heap.size,3,none⟩))),(some 55,.v noL),(some 56,.v (.pointer (some ⟨tb,0,none⟩))),(some 57,.v (.pointer (some ⟨tb,0,none⟩))),(some 58,.v (.pointer (some ⟨tb,3,none⟩))),(some 59,.v V5.lv),(some 60,.l (NewLd base L5 V5.tv w6)),(some 61,.v (.pointer (some ⟨w5.heap.size,3,none⟩))),(none,.v undef)] [6,8] [1,5] (by kernel_rfl) (by rfl) (by rfl) (by kernel_rfl) ((Below.refl _ _).drew) (zq7 hb6)
   (zf _ _ _ rfl rfl
   (fun s x hph hdf hv hl K hK=>by
    have hx:Below w6.heap.size w6 x:=hph;obtain⟨v',x',hrun,h1,h2,h3⟩:=zfa x (t6l.kb (Kb.of_below (S:=[]) hx) (by simp) (by simp)) hlg (t6w.below hx).hb;exact zgy (hv 55 _ rfl) (hv 59 _ rfl) hrun (hK v' x' ((Kb.of_below (S:=[]) hx).grown h2 (fun k hk=>by cases hk)) (fun h=>absurd h (by omega)) nn1 ⟨by omega,h1,fun k hk=>Nat.le_trans hx.size (h3 k hk)⟩))
   (zf _ _ _ rfl rfl
   (fun s x hph hdf hv hl K hK=>by
    have hx:Kb [] w6 x:=hph;obtain⟨-,h1,h2⟩:=hl 60 _ rfl;obtain⟨ad,cp,e⟩:=zS h1;have hr:=hr6.kb hx (by simp);exact zbc (u:=noL) (fun _=>by kernel_rfl) ⟨_,_,_,e⟩ (hv 61 _ rfl) rfl hr.1.2.2.2 hr.2.2.2.2 (hK _ _ ⟨_,x,hx,Below.refl _ _,h1,h2⟩ (fun _=>⟨_,rfl⟩) (fun _=>rfl) rfl))
   True.intro))
   (zf _ _ _ rfl rfl
   (fun k s x hk hlo hhi hph hdf hv hl K hK=>by
    have hx:Below w6.heap.size w6 x:=ziR hph (hhi 0 6 rfl (by kernel_rfl));exact zv (v:=noL) (fun w=>by kernel_rfl) (hv 54 _ rfl) ((hr6.below hx).1.2.2.2) (hK _ x (Below.refl _ _) nn1 rfl))
   (zf _ _ _ rfl rfl
   (fun k s x hk hlo hhi hph hdf hv hl K hK=>by
    have hx:Below w6.heap.size w6 x:=ziR hph (hhi 0 6 rfl (by kernel_rfl));exact zv (v:=V5.lv) (fun w=>by kernel_rfl) (hv 58 _ rfl) ((t6w.below hx).row.cell (i:=3) (by decide)) (hK _ x (Below.refl _ _) nn1 rfl))
   True.intro))
   (fun i d T' he p v x x' hne hp hph hrel hT=>by
    have hm:=List.mem_of_getElem? he;simp only[List.mem_cons,Prod.mk.injEq,reduceCtorEq,and_false,false_or,or_false,List.not_mem_nil,En.l.injEq] at hm;obtain⟨-,rfl⟩:=hm;exact zqO hb6 hp hph hrel hT) (fun i d T' he p v x x' hph hb hT=>by
    have hm:=List.mem_of_getElem? he;simp only[List.mem_cons,Prod.mk.injEq,reduceCtorEq,and_false,false_or,or_false,List.not_mem_nil,En.l.injEq] at hm;obtain⟨-,rfl⟩:=hm;exact⟨hT.1,zj hT.2.1 hb,hT.2.2⟩) ?_
 intro gg z hz _;obtain⟨lv,y,q1,q2,q3,q4⟩:PhDl base w5.heap.size L5 V5.tv w6 2 z:=hz;rw[hL5] at q3;have hky:Kb [w5.heap.size] w5 z:=((((Kb.of_below hB6).trans (q1.mono (by simp)) (fun i hi=>Or.inl hi)).setCell (Or.inl (by simp)) _)).below q2;have hsy:=q1.size
 have hlz:Lo z base lv V5.tv T'.logs:=by
  have hl1:=t6w.lo.kb q1 (by simp) (by simp)
  have hl2:Lo (y.setCell ⟨w5.heap.size,3,none⟩ lv) base lv V5.tv T'.logs:=by
   refine⟨hl1.1,yR q3 (fun k hk e=>by have:=q4 k hk;omega) _ _,fun i l t h1 h2=>yR (hl1.2.2 i l t h1 h2) (fun k hk e=> ?_) _ _⟩;have:=t1.lt (Or.inr (Or.inr (Or.inr (Or.inr (Or.inr ⟨t,List.mem_of_getElem? h2,hk⟩)))));omega
  exact hl2.kb (Kb.of_below (S:=[]) q2) (by simp) (by simp)
 have htz:Tr base tb T' V5 z:=t1.kb hky (fun k hk hf=>by have:=t1.lt hf;simp at hk;omega) (by have:=t1.hb1;have:=t1.hb;simp;omega)
 have hrz:ResAt z w5.heap.size st gs out lv:=by
  have hr:=hr6.kb q1 (by simp);refine ResAt.below ?_ q2;unfold ResAt at hr⊢;obtain⟨⟨g0,g1,g2,g3⟩,f0,f1,f2,f3⟩:=hr;simp[go_sem,g0,g1,g2,g3,f0,f1,f2,f3]
 have hrz1:ResAt z (w.heap.size+1) 0 0 ⟨#[]⟩ noL:=HRS.out.kb hky (by simp;have:=HS5.out;omega);have HE:=zb (HEND.out lv z (fun k hk=>Nat.le_trans hB6.size (q4 k hk)) hky hlz htz);obtain⟨ad9,cp9,hsl⟩:=zS q3;have HRP:Hid (ResAt (yv z (w.heap.size+1) st gs out lv) (w.heap.size+1) st gs out lv):=hrz1.put;subst hsl;clear q1 q2 q3 q4 hky hlz htz t6w t6l HEND HRS hr6 hB6 HW6 HRA;simp only[yx,yB,yA,Zj,zF,List.foldl_cons,List.foldl_nil,Act.put];simp only[sx9];obtain⟨⟨g0,g1,g2,g3⟩,_⟩:=hrz;obtain⟨⟨k0,k1,k2,k3⟩,f0,f1,f2,f3⟩:=hrz1;go_wp2;change bodyPost prog f35 _ _ _ (yv z (w.heap.size+1) st gs out (.slice ad9 T'.logs.length cp9));generalize yv z (w.heap.size+1) st gs out (.slice ad9 T'.logs.length cp9)=z2 at*;obtain⟨⟨y0,y1,y2,y3⟩,_⟩:=HRP.out;refine bodyPost_ret (v:=zaJ st gs out (.slice ad9 T'.logs.length cp9)) (by simp[results,results35,go_sem,y0,y1,y2,y3]) rfl HE.out
end
section
open Go.RowKit Go.Maps Go.Sort Go.Shelf
def slC (s:Nat->Nat) (ts:List Nat):List Value:=ts.flatMap fun k=>ZF k++ZF (s k)
theorem zoK (s:Nat->Nat) (ts:List Nat) (k:Nat):slC s (ts++[k])=slC s ts++(ZF k++ZF (s k)):=by simp[slC]
theorem zdx {w:World} {b b' e size n:Nat} {v:Value} {xs:List Value} (h:w.ownsRow b e size v n xs) (hb:b'<=b):w.ownsRow b' e size v n xs:=by
 refine⟨h.1,h.2.imp id ?_⟩;rintro⟨g,cap,cur,h1,h2,h3⟩;exact⟨g,cap,cur,h1,Nat.le_trans hb h2,h3⟩
theorem zj5 (k:Nat):∀u∈ZF k,u.oneCell'=true:=by
 intro u hu;simp[ZF] at hu;rcases hu with rfl|rfl|rfl|rfl<;>rfl
theorem zi0 {w:World} {base g cap:Nat} {ts:List Nat} (h:w.ownsRow base 24 4 (.slice (some ⟨g,0,none⟩) ts.length cap) ts.length (Zu ts)) (i:Nat) (hi:i<ts.length):w.cell? ⟨g,i*4,none⟩=some (.int .u64 (za ts[i] 0))/\w.cell? ⟨g,i*4+1,none⟩=some (.int .u64 (za ts[i] 1))/\w.cell? ⟨g,i*4+2,none⟩=some (.int .u64 (za ts[i] 2))/\w.cell? ⟨g,i*4+3,none⟩=some (.int .u64 (za ts[i] 3)):=by
 have key:∀j,j<4->w.cell? ⟨g,i*4+j,none⟩=some ((ZF ts[i])[j]!):=fun j hj=>by
  rw[h.cellAt (i*4+j) (by omega),za3 _ _ (by omega)];rw[show(i*4+j)/4=i by omega,show(i*4+j)%4=j by omega,getElem!_pos ts i hi]
 exact⟨key 0 (by omega),key 1 (by omega),key 2 (by omega),key 3 (by omega)⟩
theorem info_sl:(prog.info? 54).map (fun i=>(i.zero,i.size,i.bytes))=some (some (.agg #[.int .u64 0,.int .u64 0,.int .u64 0,.int .u64 0,.int .u64 0,.int .u64 0,.int .u64 0,.int .u64 0]),8,64):=by kernel_rfl
def PhG (w3 wr:World):Nat->World->Prop
 |0,x=>Below wr.heap.size wr x
 |_,x=>Below w3.heap.size w3 x
theorem zc8 {w3 wr x:World} {k:Nat} (h:PhG w3 wr k x) (hk:k<=0):Below wr.heap.size wr x:=by
 obtain rfl:k=0:=by omega
 exact h
theorem phg_bel {w3 wr:World} (hb3:Below w3.heap.size w3 wr) (k:Nat) (x x':World) (h:PhG w3 wr k x) (hb:Below x.heap.size x x'):PhG w3 wr k x':=by
 match k,h with
 |0,h=>exact(show Below wr.heap.size wr x from h).trans (hb.mono (show Below wr.heap.size wr x from h).size)
 |_+1,h=>exact(show Below w3.heap.size w3 x from h).trans (hb.mono (show Below w3.heap.size w3 x from h).size)
def OneE (cs:Array Value):Kp:=fun p v x=>∃q,v=.slice (some ⟨q,0,none⟩) 1 1/\(p<=0->q<x.heap.size/\∀(j:Nat) u,cs.toList[j]? =some u->x.cell? ((⟨q,0,none⟩:Addr).add j)=some u)
def NewE (base e size n:Nat) (xs:List Value):Kp:=fun p v x=>p≠0/\x.ownsRow base e size v n xs
theorem zgG {s:Act} {x:World} {pos:String} {af:Array Edge} {gd:Option (Nat×Bool)} {K:Act->World->Prop} {Q:Exit->Act->World->Prop} {n m t d:Nat} {ty:TypeId} (he:s.tmps.getD t undef=.agg #[.int .u64 (za n 0),.int .u64 (za n 1),.int .u64 (za n 2),.int .u64 (za n 3),.int .u64 (za m 0),.int .u64 (za m 1),.int .u64 (za m 2),.int .u64 (za m 3)]) (hK:K (s.put (some d) (.slice (some ⟨x.heap.size,0,none⟩) 1 1)) (x.alloc (.cells #[.int .u64 (za n 0),.int .u64 (za n 1),.int .u64 (za n 2),.int .u64 (za n 3),.int .u64 (za m 0),.int .u64 (za m 1),.int .u64 (za m 2),.int .u64 (za m 3)] 54))):
  Oper.wp prog ⟨some d,.buildSlice 32 1 #[(0,.tmp t)],ty,pos,af,gd⟩ s x K Q:=by
 have he2:s.eval (.tmp t)=.agg #[.int .u64 (za n 0),.int .u64 (za n 1),.int .u64 (za n 2),.int .u64 (za n 3),.int .u64 (za m 0),.int .u64 (za m 1),.int .u64 (za m 2),.int .u64 (za m 3)]:=he;have he3:s.tmps[t]?.getD undef=.agg #[.int .u64 (za n 0),.int .u64 (za n 1),.int .u64 (za n 2),.int .u64 (za n 3),.int .u64 (za m 0),.int .u64 (za m 1),.int .u64 (za m 2),.int .u64 (za m 3)]:=by rw[<-Array.getD_eq_getD_getElem?];exact he
 go_simp;exact hK
structure SLr (w3:World) (s:Nat->Nat) (ts:List Nat) (i:Nat) (v:Value) (wr:World):Prop where
 own:wr.ownsRow w3.heap.size 54 8 v i (slC s (ts.take i))
 below:Below w3.heap.size w3 wr
theorem zhr {n ab bl:Nat} {code:ByteArray} {sv:Value} {s:Nat->Nat} (w:World) (h:SlotsOk w n ab s sv) (hn:n<=1000000000000):
  Calls prog 76 #[Z2 bl code sv] w fun e w'=>∃(v:Value) (ts:List Nat),e=.returned v/\ts.length<=n/\SortedKeys (Zs s) ts/\w'.ownsRow w.heap.size 54 8 v ts.length (slC s ts)/\Below w.heap.size w w':=by
 obtain⟨o,rfl⟩:=h.is;have eg:∀args w,(callFunc 193 args).run prog w=.ok (.enter 193 args) w:=enters_of func193 (by kernel_rfl) rfl;obtain⟨w1,HW1⟩:∃w1,Hid (w1=w.alloc (.cells #[.int .u64 (za bl 0),.int .u64 (za bl 1),.int .u64 (za bl 2),.int .u64 (za bl 3),.string code,.map o] 95)):=⟨_,rfl⟩;have hB1:Below w.heap.size w w1:=by rw[HW1.out];exact bal (Below.refl _ w) _
 have hs1:w1.heap.size=w.heap.size+1:=by rw[HW1.out];simp
 have a5:w1.cell? ⟨w.heap.size,5,none⟩=some (.map o):=by rw[HW1.out];simp[go_sem]
 have hB2:Below w1.heap.size w1 (w1.alloc (.cells #[.map o] 93)):=bal (Below.refl _ w1) _;have HK:=zb (keys_s o w1)
 have hseq:SeqGives FA 3 prog 193 #[.pointer (some ⟨w1.heap.size,0,none⟩)] wv (zci (Zs s)) n (w1.alloc (.cells #[.map o] 93)):=by
  have hc:(w1.alloc (.cells #[.map o] 93)).cell? ⟨w1.heap.size,0,none⟩=some (.map o):=by simp[go_sem]
  rcases h with⟨e,hz⟩|⟨b,e,hb,ha⟩
  ·cases e;have e2:Zs s=fun _=>none:=funext fun k=>if_pos (hz k)
   rw[e2];exact zpp 3 n _ _ (by simp) hc
  ·cases e;exact gives_s 3 (by omega) _ b n _ _ (by simp) hc ((ha.kb (Kb.of_below (S:=[]) hB1) (by simp)).kb (Kb.of_below (S:=[]) hB2) (by simp))
 have HS:=zb (zdB 5 (by omega) _ _ eg (Zs s) n hn _ hseq);have HL:Hid (∀x,Below w.heap.size w x->∀k,(Instr.lookup 93 (.map o) (wv k) false).run prog x=.ok (wv (s k)) x):=fun x hx k=>zg6 (h.kb (Kb.of_below (S:=[]) hx) (by simp) (Nat.le_refl _)) k
 clear hseq h;go_enter func76,ntmps76;go_wp2_with fail
 rw[<-HW1.out];refine HK.out.mono ?_;rintro e w2 ⟨rfl,rfl⟩;have hB12:=hB1.trans (hB2.mono hB1.size);have hc5:=(hB2.cell (p:=⟨w.heap.size,5,none⟩) (by show w.heap.size<_;omega)).trans a5;generalize w1.alloc (.cells #[.map o] 93)=w2 at*;have hs2:w.heap.size<w2.heap.size:=by have:=hB2.size;omega
 clear HK;rw[hs1] at HS;go_wp2_with fail
 refine HS.out.mono ?_;rintro e w3 ⟨v,ts,rfl,hlen,hts,hrow,hb3⟩;obtain⟨adv,cpv,rfl⟩:=zS hrow;have HX:=zb (And.intro hts (And.intro hrow hb3));have hB3:Below w.heap.size w w3:=hB12.trans (hb3.mono hB12.size);have hc53:=(hb3.cell (p:=⟨w.heap.size,5,none⟩) hs2).trans hc5;have hs3:w.heap.size<w3.heap.size:=Nat.lt_of_lt_of_le hs2 hb3.size;clear HS hrow hts a5 hB2 hB1 hs1 hc5 hB12 hb3;obtain⟨L,HLL⟩:∃L,Hid (L=ts.length):=⟨_,rfl⟩;rw[<-HLL.out] at hlen⊢;go_wp2
 go_loopw [3,11] (fun t3 t11 wr=>∃(i:Nat) (ad:Option Addr) (cp:Nat),i<=L/\t11=.int .i64 (i:Int)/\t3=.slice ad i cp/\Hid (SLr w3 s ts i (.slice ad i cp) wr)) (fun _ t11 _=>L - (RowKit.intOf t11).toNat)
 case atStart=>exact⟨0,none,0,Nat.zero_le _,rfl,rfl,⟨World.ownsRow_nil _ _ _ _,Below.refl _ _⟩⟩
 case round=>
  obtain⟨i,ad,cp,hi,rfl,rfl,HR⟩:=hrel;by_cases hlt:i<L
  ·have hd:decide ((i:Int)<(L:Int))=true:=decide_eq_true (by omega);obtain⟨hts,hrow,hb3⟩:=HX.out;have hil:i<ts.length:=by rw[<-HLL.out];exact hlt
   obtain⟨kb,cap,he,hkb⟩:=zfF hrow (by omega);obtain⟨rfl,rfl⟩:adv=some ⟨kb,0,none⟩/\cpv=cap:=by injection he with h1 h2 h3;exact⟨h1,h3⟩
   have hkl3:kb<w3.heap.size:=(hrow.lt kb rfl).2;obtain⟨c0,c1,c2,c3⟩:=zi0 hrow i hil;obtain⟨k9,HK9⟩:∃k9:Nat,Hid (k9=ts[i]):=⟨ts[i],zb rfl⟩;rw[<-HK9.out] at c0 c1 c2 c3;have c0:=(HR.out.below.cell (p:=⟨kb,i*4,none⟩) hkl3).trans c0;have c1:=(HR.out.below.cell (p:=⟨kb,i*4+1,none⟩) hkl3).trans c1;have c2:=(HR.out.below.cell (p:=⟨kb,i*4+2,none⟩) hkl3).trans c2;have c3:=(HR.out.below.cell (p:=⟨kb,i*4+3,none⟩) hkl3).trans c3;clear hrow hts hb3 he;go_wp2;obtain⟨wr9,HW9⟩:∃wr9,Hid (wr9=wr.alloc (.cells #[.int .u64 (za k9 0),.int .u64 (za k9 1),.int .u64 (za k9 2),.int .u64 (za k9 3)] 24)):=⟨_,rfl⟩;rw[<-HW9.out];have hBw:Below wr.heap.size wr wr9:=by rw[HW9.out];exact bal (Below.refl _ wr) _
   obtain⟨kb9,HKB⟩:∃kb9,Hid (kb9=wr.heap.size):=⟨_,rfl⟩
   have hkc:wr9.cell? ⟨kb9,0,none⟩=some (.int .u64 (za k9 0))/\wr9.cell? ⟨kb9,0+1,none⟩=some (.int .u64 (za k9 1))/\wr9.cell? ⟨kb9,0+2,none⟩=some (.int .u64 (za k9 2))/\wr9.cell? ⟨kb9,0+3,none⟩=some (.int .u64 (za k9 3)):=by
    rw[HW9.out,HKB.out];refine⟨?_, ?_, ?_, ?_⟩<;>simp[go_sem]
   have hkl:kb9<wr9.heap.size:=by rw[HW9.out,HKB.out];simp
   rw[<-HKB.out];have hb39:Below w3.heap.size w3 wr9:=HR.out.below.trans (hBw.mono HR.out.below.size);have hown9:=zj HR.out.own hBw;have hal:w.heap.size<wr9.heap.size:=Nat.lt_of_lt_of_le hs3 hb39.size;have ha5:wr9.cell? ⟨w.heap.size,5,none⟩=some (.map o):=(hb39.cell (p:=⟨w.heap.size,5,none⟩) hs3).trans hc53;have hBww:Below w.heap.size w wr9:=hB3.trans (hb39.mono hB3.size);have hlook:∀x,Below wr9.heap.size wr9 x->∀k,(Instr.lookup 93 (.map o) (wv k) false).run prog x=.ok (wv (s k)) x:=fun x hx k=>HL.out x (hBww.trans (hx.mono hBww.size)) k
   clear c0 c1 c2 c3
   refine zt (PhG w3 wr9) (fun _ _ _=>True) [(1,(.pointer (some ⟨w.heap.size,0,none⟩))),(3,(.slice ad i cp)),(5,(.pointer (some ⟨kb9,0,none⟩)))] [(some 15,.v (.slice ad i cp)),(some 16,.v (wv k9)),(some 17,.v (.pointer (some ⟨w.heap.size,5,none⟩))),(some 18,.v (.map o)),(some 19,.v (wv k9)),(some 20,.v (wv (s k9))),(some 21,.v (.agg #[.int .u64 (za k9 0),.int .u64 (za k9 1),.int .u64 (za k9 2),.int .u64 (za k9 3),.int .u64 (za (s k9) 0),.int .u64 (za (s k9) 1),.int .u64 (za (s k9) 2),.int .u64 (za (s k9) 3)])),(some 22,.l (OneE #[.int .u64 (za k9 0),.int .u64 (za k9 1),.int .u64 (za k9 2),.int .u64 (za k9 3),.int .u64 (za (s k9) 0),.int .u64 (za (s k9) 1),.int .u64 (za (s k9) 2),.int .u64 (za (s k9) 3)])),(some 23,.l (NewE w3.heap.size 54 8 (i+1) (slC s (ts.take i)++(ZF k9++ZF (s k9))))),(some 3,.l (NewE w3.heap.size 54 8 (i+1) (slC s (ts.take i)++(ZF k9++ZF (s k9)))))] [8] [1,4,3,5,7,9] (by kernel_rfl) (by rfl) (by rfl) (by kernel_rfl) ((Below.refl _ _).drew) (phg_bel hb39)
     (zf _ _ _ rfl rfl
     (fun s9 x hph hdf hv hl K hK=>by
      have hx:Below wr9.heap.size wr9 x:=hph;obtain⟨q,e1,e2⟩:=hl 22 _ rfl;obtain⟨hq,hcells⟩:=e2 (by omega);obtain⟨i0,hi0,hz0,hz1,hz2⟩:=info_parts info_sl;refine zaS w3.heap.size 54 i0 _ 8 64 (by kernel_rfl) hi0 hz0 hz1 hz2 rfl (by decide) (.slice ad i cp) i (slC s (ts.take i)) (hv 15 _ rfl) (zj hown9 hx) ⟨q,0,none⟩ 1 1 (ZF k9++ZF (s k9)) e1 rfl hcells (fun u hu=>(List.mem_append.1 hu).elim (zj5 _ u) (zj5 _ u)) (by unfold maxLen;omega) (by omega) (by have:=hb39.size;have:=hx.size;omega) ?_;intro v' y ho hgr hfr;exact hK v' y ((hb39.trans (hx.mono hb39.size)).grown hgr (Nat.le_trans hb39.size hx.size) (fun k hk=>(hown9.lt k hk).1)) trivial nn1 ⟨by omega,ho⟩)
     True.intro)
     (zf _ _ _ rfl rfl
     (fun k s9 x hk hlo hhi hph hdf hv hl K hK=>by
      have hx:Below wr9.heap.size wr9 x:=zc8 hph (hhi 0 8 rfl (by kernel_rfl));obtain⟨q0,q1,q2,q3⟩:=hkc;exact zD (n:=k9) (hv 5 _ rfl) ((hx.cell hkl).trans q0) ((hx.cell hkl).trans q1) ((hx.cell hkl).trans q2) ((hx.cell hkl).trans q3) (hK _ x (Below.refl _ _) nn1 rfl))
     (zf _ _ _ rfl rfl
     (fun k s9 x hk hlo hhi hph hdf hv hl K hK=>by
      have hx:Below wr9.heap.size wr9 x:=zc8 hph (hhi 0 8 rfl (by kernel_rfl));obtain⟨q0,q1,q2,q3⟩:=hkc;exact zD (n:=k9) (hv 5 _ rfl) ((hx.cell hkl).trans q0) ((hx.cell hkl).trans q1) ((hx.cell hkl).trans q2) ((hx.cell hkl).trans q3) (hK _ x (Below.refl _ _) nn1 rfl))
     (zf _ _ _ rfl rfl
     (fun k s9 x hk hlo hhi hph hdf hv hl K hK=>by
      have hx:Below wr9.heap.size wr9 x:=zc8 hph (hhi 0 8 rfl (by kernel_rfl));exact zv (v:=.map o) (fun w=>by kernel_rfl) (hv 17 _ rfl) ((hx.cell hal).trans ha5) (hK _ x (Below.refl _ _) nn1 rfl))
     (zf _ _ _ rfl rfl
     (fun k s9 x hk hlo hhi hph hdf hv hl K hK=>by
      have hx:Below wr9.heap.size wr9 x:=zc8 hph (hhi 0 8 rfl (by kernel_rfl));exact zdU (v:=wv (s k9)) (x':=x) hv (znh (hlook x hx k9)) (hK _ x (Below.refl _ _) nn1 rfl))
     (zf _ _ _ rfl rfl
     (fun k s9 x hk hlo hhi hph hdf hv hl K hK=>by
      have hx:Below wr9.heap.size wr9 x:=zc8 hph (hhi 0 8 rfl (by kernel_rfl));exact zgG (hv 21 _ rfl) (hK _ _ (bal (Below.refl _ x) _) nn1 ⟨x.heap.size,rfl,fun _=>⟨by simp,zV x #[.int .u64 (za k9 0),.int .u64 (za k9 1),.int .u64 (za k9 2),.int .u64 (za k9 3),.int .u64 (za (s k9) 0),.int .u64 (za (s k9) 1),.int .u64 (za (s k9) 2),.int .u64 (za (s k9) 3)] 54⟩⟩))
     (zf _ _ _ rfl rfl
     (fun k s9 x hk hlo hhi hph hdf hv hl K hK=>by
      have hp:k≠0:=by have:=hlo 0 8 rfl (by kernel_rfl);omega
      exact zdQ 23 3 _ rfl (hK _ x (Below.refl _ _) nn1 (hl 23 _ rfl)))
     True.intro))))))
     (fun i9 d T' he p v x x' hne hp hph hrel hT=>by
      rcases ltq10 (show i9<10 from(List.getElem?_eq_some_iff.1 he).1) with rfl|rfl|rfl|rfl|rfl|rfl|rfl|rfl|rfl|rfl
      all_goals first
       |(cases he;done)
       |(obtain rfl:=Sum.inr.inj (Prod.mk.inj (Option.some.inj he)).2;first|(obtain⟨q,e1,e2⟩:=hT;exact⟨q,e1,fun h=>by omega⟩)|exact absurd (show p=0 by have hp:p<1:=hp;omega) hT.1)) (fun i9 d T' he p v x x' hph hb hT=>by
      rcases ltq10 (show i9<10 from(List.getElem?_eq_some_iff.1 he).1) with rfl|rfl|rfl|rfl|rfl|rfl|rfl|rfl|rfl|rfl
      all_goals first
       |(cases he;done)
       |(obtain rfl:=Sum.inr.inj (Prod.mk.inj (Option.some.inj he)).2;first|(obtain⟨q,e1,e2⟩:=hT;exact⟨q,e1,fun h=>⟨Nat.lt_of_lt_of_le (e2 h).1 hb.size,fun j u hu=>(hb.cell (by rw[zbW];exact(e2 h).1)).trans ((e2 h).2 j u hu)⟩⟩)|exact⟨hT.1,zj hT.2 hb⟩)) ?_
   intro gg z hz hgv;have hn9:NewE w3.heap.size 54 8 (i+1) (slC s (ts.take i)++(ZF k9++ZF (s k9))) 1 (gg 9) z:=hgv 9 _ _ rfl;have hz:Below w3.heap.size w3 z:=hz;have hown2:=hn9.2;obtain⟨ad2,cp2,e9⟩:=zS hown2
   have HSL:Hid (SLr w3 s ts (i+1) (.slice ad2 (i+1) cp2) z):=by
    refine⟨?_,hz⟩;rw[e9] at hown2;rw[List.take_add_one,List.getElem?_eq_getElem hil,<-HK9.out];show z.ownsRow _ _ _ _ _ (slC s (ts.take i++[k9]));rw[zoK];exact hown2
   clear hn9 hown2 hz hgv hlook hBww ha5 hal hown9 hb39 hkl hkc hBw;simp only[yx,yB,yA,Zj,zF,List.foldl_cons,List.foldl_nil,Act.put];simp only[sx9];rw[e9];go_wp2
   go_roundw
   case rel=>exact⟨i+1,ad2,cp2,by omega,by go_num,rfl,HSL⟩
   case measure=>simp[RowKit.intOf];omega
  ·obtain rfl:i=L:=by omega
   have hd:decide ((i:Int)<(i:Int))=false:=decide_eq_false (by omega);obtain⟨hts,hrow,hb3⟩:=HX.out
   have HE:Hid (∃(v:Value) (ts:List Nat),Ending.returned (.slice ad i cp)=.returned v/\ts.length<=n/\SortedKeys (Zs s) ts/\wr.ownsRow w.heap.size 54 8 v ts.length (slC s ts)/\Below w.heap.size w wr):=by
    refine⟨_,ts,rfl,by rw[<-HLL.out];exact hlen,hts, ?_,hB3.trans (HR.out.below.mono hB3.size)⟩;have:=HR.out.own;rw[HLL.out,List.take_length] at this;rw[HLL.out];exact zdx this (Nat.le_of_lt hs3)
   clear hts hrow hb3 HR HX;go_wp2;go_ret;exact HE.out
end
end cin
end Go.Proofs.YtohoajjdoihekaaGreatDoor
