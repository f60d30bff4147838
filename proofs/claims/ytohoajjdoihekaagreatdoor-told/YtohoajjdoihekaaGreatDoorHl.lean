import Derived.Test.YtohoajjdoihekaaGreatDoorSs
import Derived.Lib.AppendZerosOnto
set_option linter.unusedVariables false
set_option linter.unusedSimpArgs false
namespace Go.Proofs.YtohoajjdoihekaaGreatDoor
namespace cin
open Go.RowKit Go.Proofs.Tryz Tryz
set_option maxRecDepth 100000
set_option maxHeartbeats 8000000
section
open Go.Maps
theorem ltq4 {i:Nat} (h:i<4):i=0\/i=1\/i=2\/i=3:=by omega
theorem ltq3 {i:Nat} (h:i<3):i=0\/i=1\/i=2:=by omega
theorem ltq2 {i:Nat} (h:i<2):i=0\/i=1:=by omega
theorem zkI (a:Addr) (j:Nat):(a.add j).block=a.block:=by
 unfold Addr.add;split<;>rfl
section
variable {s:Act} {x:World} {pos:String} {af:Array Edge} {g:Option (Nat×Bool)} {K:Act->World->Prop} {Q:Exit->Act->World->Prop}
theorem zjI {kind at' key r t d:Nat} {ty:TypeId} (he:s.tmps.getD t undef=.agg #[.int .i64 (kind:Int),.int .u64 (za at' 0),.int .u64 (za at' 1),.int .u64 (za at' 2),.int .u64 (za at' 3),.int .u64 (za key 0),.int .u64 (za key 1),.int .u64 (za key 2),.int .u64 (za key 3),.int .u64 (za r 0),.int .u64 (za r 1),.int .u64 (za r 2),.int .u64 (za r 3)]) (hK:K (s.put (some d) (.slice (some ⟨x.heap.size,0,none⟩) 1 1)) (x.alloc (.cells #[.int .i64 (kind:Int),.int .u64 (za at' 0),.int .u64 (za at' 1),.int .u64 (za at' 2),.int .u64 (za at' 3),.int .u64 (za key 0),.int .u64 (za key 1),.int .u64 (za key 2),.int .u64 (za key 3),.int .u64 (za r 0),.int .u64 (za r 1),.int .u64 (za r 2),.int .u64 (za r 3)] 220))):
  Oper.wp prog ⟨some d,.buildSlice 129 1 #[(0,.tmp t)],ty,pos,af,g⟩ s x K Q:=by
 have he2:s.eval (.tmp t)=.agg #[.int .i64 (kind:Int),.int .u64 (za at' 0),.int .u64 (za at' 1),.int .u64 (za at' 2),.int .u64 (za at' 3),.int .u64 (za key 0),.int .u64 (za key 1),.int .u64 (za key 2),.int .u64 (za key 3),.int .u64 (za r 0),.int .u64 (za r 1),.int .u64 (za r 2),.int .u64 (za r 3)]:=he;have he3:s.tmps[t]?.getD undef=.agg #[.int .i64 (kind:Int),.int .u64 (za at' 0),.int .u64 (za at' 1),.int .u64 (za at' 2),.int .u64 (za at' 3),.int .u64 (za key 0),.int .u64 (za key 1),.int .u64 (za key 2),.int .u64 (za key 3),.int .u64 (za r 0),.int .u64 (za r 1),.int .u64 (za r 2),.int .u64 (za r 3)]:=by rw[<-Array.getD_eq_getD_getElem?];exact he
 go_simp;exact hK
theorem zfS {t1 t2 b off n c:Nat} {ad:Option Addr} {u:Value} {ty:TypeId} (h1:s.tmps.getD t1 undef=.pointer (some ⟨b,off,none⟩)) (h2:s.tmps.getD t2 undef=.slice ad n c) (hc:x.cell? ⟨b,off,none⟩=some u) (hf:x.frozen? ⟨b,off,none⟩=false) (hK:K (s.put none undef) (x.setCell ⟨b,off,none⟩ (.slice ad n c))):
  Oper.wp prog ⟨none,.store 129 (.tmp t1) (.tmp t2),ty,pos,af,g⟩ s x K Q:=by
 have e1:s.eval (.tmp t1)=.pointer (some ⟨b,off,none⟩):=h1;have e2:s.eval (.tmp t2)=.slice ad n c:=h2;go_simp;exact hK
theorem zkG {P:Program} {t1 t2 d:Nat} {ty t:TypeId} (base:Nat) (e:TypeId) (i:TypeInfo) (z:Value) (size bytes:Nat) (ht:P.underlying t=some (.slice e)) (hi:P.info? e=some i) (hz:i.zero=some z)
  (hsize:i.size=size) (hby:i.bytes=bytes) (hzs:z.cells.size=size) (hsz:0<size)
  (v:Value) (n:Nat) (xs:List Value) (hs:s.tmps.getD t1 undef=v) (hown:x.ownsRow base e size v n xs)
  (ad:Addr) (m c:Nat) (news:List Value) (hx:s.tmps.getD t2 undef=.slice (some ad) m c) (hl:news.length=m*size) (hnews:∀j u,news[j]? =some u->x.cell? (ad.add j)=some u) (h1:∀u∈news,u.oneCell'=true)
  (h63:n+m<=maxLen) (hbytes:(n+m)*bytes<=140737488355328) (hbase:base<=x.heap.size)
  (h:∀v' w',w'.ownsRow base e size v' (n+m) (xs++news)->x.grownBy w' v.ownBlock->zar x v v'->K (s.put (some d) v') w'):
  Oper.wp P ⟨some d,.call ⟨.builtin .append,#[.tmp t1,.tmp t2],#[t,t]⟩,ty,pos,af,none⟩ s x K Q:=by
 have h2:=Yz (P:=P) (ops:=#[]) (o:=⟨some d,.call ⟨.builtin .append,#[.tmp t1,.tmp t2],#[t,t]⟩,ty,pos,af,none⟩) (a:=s) (w:=x) (K:=K) (Q:=Q) (E:=True) rfl (.tmp t1) (.tmp t2) t rfl base e i z size bytes ht hi hz hsize hby hzs hsz v n xs hs hown ad m c news hx hl hnews h1 h63 hbytes hbase h;rw[if_pos (zg rfl)] at h2;exact h2
end
def CellAt (x:World) (cb kind at' key:Nat):Prop:=x.cell? ⟨cb,0,none⟩=some (.int .i64 (kind:Int))/\x.cell? ⟨cb,1,none⟩=some (.int .u64 (za at' 0))/\x.cell? ⟨cb,2,none⟩=some (.int .u64 (za at' 1))/\x.cell? ⟨cb,3,none⟩=some (.int .u64 (za at' 2))/\x.cell? ⟨cb,4,none⟩=some (.int .u64 (za at' 3))/\
   x.cell? ⟨cb,5,none⟩=some (.int .u64 (za key 0))/\x.cell? ⟨cb,6,none⟩=some (.int .u64 (za key 1))/\x.cell? ⟨cb,7,none⟩=some (.int .u64 (za key 2))/\x.cell? ⟨cb,8,none⟩=some (.int .u64 (za key 3))
theorem zaM {x:World} {b o:Nat} {v:Value} (h:x.cell? ⟨b,o,none⟩=some v):b<x.heap.size:=by
 cases e:x.heap[b]? with
 |none=>simp[World.cell?,e] at h
 |some ob=>exact(Array.getElem?_eq_some_iff.1 e).1
theorem CellAt.below {w x:World} {cb kind at' key:Nat} (h:CellAt w cb kind at' key) (hb:Below w.heap.size w x):CellAt x cb kind at' key:=by
 obtain⟨q0,q1,q2,q3,q4,q5,q6,q7,q8⟩:=h;have hl:cb<w.heap.size:=zaM q0;have e:∀i,x.cell? ⟨cb,i,none⟩=w.cell? ⟨cb,i,none⟩:=fun i=>hb.cell hl
 exact⟨(e 0).trans q0,(e 1).trans q1,(e 2).trans q2,(e 3).trans q3,(e 4).trans q4,(e 5).trans q5,(e 6).trans q6,(e 7).trans q7,(e 8).trans q8⟩
def PhS (base tb:Nat) (V:TV) (c':List Chg) (w:World):Nat->World->Prop
 |0,x=>Below w.heap.size w x
 |1,x=>Below w.heap.size w x
 |2,x=>Below w.heap.size w x
 |3,x=>Kb V.cv.ownBlock.toList w x
 |_,x=>∃v',x.ownsRow base 220 13 v' c'.length (chL c')/\zar w V.cv v'/\Up V.cv.ownBlock.toList tb 2 v' w x
theorem zfq {base tb:Nat} {V:TV} {c':List Chg} {w x:World} {k:Nat} (h:PhS base tb V c' w k x) (hk:k<=2):Below w.heap.size w x:=by
 match k,hk,h with
 |0,_,h=>exact h
 |1,_,h=>exact h
 |2,_,h=>exact h
def RelS (tb:Nat) (V:TV):Nat->World->World->Prop
 |0,x,x'=>Below x.heap.size x x'
 |1,x,x'=>Below x.heap.size x x'
 |2,x,x'=>True
 |_,x,x'=>Kb [tb] x x'
def OneL (c:Chg):Kp:=fun p v x=>∃q,v=.slice (some ⟨q,0,none⟩) 1 1/\(p<=2->q<x.heap.size/\∀(j:Nat) u,(chC c)[j]? =some u->x.cell? ((⟨q,0,none⟩:Addr).add j)=some u)
def NewL (base:Nat) (V:TV) (c':List Chg) (w:World):Kp:=fun _ v x=>x.ownsRow base 220 13 v c'.length (chL c')/\zar w V.cv v
theorem cv_tb {base tb:Nat} {T:TS} {V:TV} {w:World} (h:Tr base tb T V w):tb∉V.cv.ownBlock.toList:=fun hm=>zQ h.row h.ch ziv tb (by simpa using hm) rfl
theorem set_r1 {base tb:Nat} {T:TS} {V:TV} {kind at' key r cb:Nat} {Q:Exit->Act->World->Prop} (a:Act) (w:World) (h:Tr base tb T V w) (hl:T.ch.length<1000000000) (hget:∀x,Below w.heap.size w x->Calls prog 202 #[.pointer (some ⟨tb,0,none⟩),.agg #[.int .i64 (kind:Int),.int .u64 (za at' 0),.int .u64 (za at' 1),.int .u64 (za at' 2),.int .u64 (za at' 3),.int .u64 (za key 0),.int .u64 (za key 1),.int .u64 (za key 2),.int .u64 (za key 3)]] x fun e w'=>e=.returned (wv r)/\Below x.heap.size x w') (hbx:CellAt w cb kind at' key) (h0:Below w.heap.size w w.drew) (hsz:([6,7,8,9,10,11,12,13,14,15,16,17,18,19]:List Nat).all (fun d=>decide (d<a.tmps.size))=true) (c0:a.tmps.getD 0 undef=.pointer (some ⟨tb,0,none⟩)) (c4:a.tmps.getD 4 undef=.pointer (some ⟨cb,0,none⟩))
  (hok:∀(x:World) (z10:Value) (z11:Value),(PhS base tb V (T.ch++[⟨kind,at',key,r⟩]) w) 4 x->(OneL ⟨kind,at',key,r⟩) 4 z10 x->(NewL base V (T.ch++[⟨kind,at',key,r⟩]) w) 4 z11 x->Q .normal (zL a [(6,.pointer (some ⟨tb,0,none⟩)),(7,.pointer (some ⟨tb,0,none⟩)),(8,.pointer (some ⟨tb,0,none⟩)),(9,.pointer (some ⟨tb,2,none⟩)),(10,V.cv),(11,.agg #[.int .i64 (kind:Int),.int .u64 (za at' 0),.int .u64 (za at' 1),.int .u64 (za at' 2),.int .u64 (za at' 3),.int .u64 (za key 0),.int .u64 (za key 1),.int .u64 (za key 2),.int .u64 (za key 3)]),(12,.pointer (some ⟨tb,0,none⟩)),(13,.agg #[.int .i64 (kind:Int),.int .u64 (za at' 0),.int .u64 (za at' 1),.int .u64 (za at' 2),.int .u64 (za at' 3),.int .u64 (za key 0),.int .u64 (za key 1),.int .u64 (za key 2),.int .u64 (za key 3)]),(14,wv r),(15,.agg #[.int .i64 (kind:Int),.int .u64 (za at' 0),.int .u64 (za at' 1),.int .u64 (za at' 2),.int .u64 (za at' 3),.int .u64 (za key 0),.int .u64 (za key 1),.int .u64 (za key 2),.int .u64 (za key 3),.int .u64 (za r 0),.int .u64 (za r 1),.int .u64 (za r 2),.int .u64 (za r 3)]),(16,z10),(17,z11),(18,.pointer (some ⟨tb,0,none⟩)),(19,.pointer (some ⟨tb,2,none⟩))]) x):
  (Code.region 1 #[⟨some 6,.move (.tmp 0),96,"trail.go:71",#[],none⟩,⟨some 7,.move (.tmp 0),96,"trail.go:71",#[],none⟩,⟨some 8,.nilCheck (.tmp 7),0,"trail.go:71",#[⟨1,.data⟩],none⟩,⟨some 9,.fieldAddr 131 (.tmp 8) 2,0,"trail.go:71",#[⟨2,.data⟩],none⟩,⟨some 10,.load 129 (.tmp 9),129,"trail.go:71",#[⟨3,.data⟩],none⟩,⟨some 11,.load 217 (.tmp 4),217,"trail.go:71",#[],none⟩,⟨some 12,.move (.tmp 0),96,"trail.go:71",#[],none⟩,⟨some 13,.load 217 (.tmp 4),217,"trail.go:71",#[],none⟩,⟨some 14,.call ⟨.value (.func 202),#[.tmp 12,.tmp 13],#[96,217]⟩,24,"trail.go:71",#[⟨6,.data⟩,⟨7,.data⟩],none⟩,⟨some 15,.build 220 #[(0,.tmp 11),(1,.tmp 14)],220,"trail.go:71",#[⟨5,.data⟩,⟨8,.data⟩],none⟩,⟨some 16,.buildSlice 129 1 #[(0,.tmp 15)],129,"trail.go:71",#[⟨9,.data⟩],none⟩,⟨some 17,.call ⟨.builtin Builtin.append,#[.tmp 10,.tmp 16],#[129,129]⟩,129,"trail.go:71",#[⟨4,.data⟩,⟨10,.data⟩,⟨8,.chain⟩],none⟩,⟨some 18,.nilCheck (.tmp 6),0,"trail.go:71",#[⟨0,.data⟩,⟨0,.phase⟩,⟨1,.phase⟩,⟨2,.phase⟩,⟨3,.phase⟩,⟨4,.phase⟩,⟨5,.phase⟩,⟨6,.phase⟩,⟨7,.phase⟩,⟨8,.phase⟩,⟨9,.phase⟩,⟨10,.phase⟩,⟨11,.phase⟩],none⟩,⟨some 19,.fieldAddr 131 (.tmp 18) 2,0,"trail.go:71",#[⟨12,.data⟩,⟨0,.phase⟩,⟨1,.phase⟩,⟨2,.phase⟩,⟨3,.phase⟩,⟨4,.phase⟩,⟨5,.phase⟩,⟨6,.phase⟩,⟨7,.phase⟩,⟨8,.phase⟩,⟨9,.phase⟩,⟨10,.phase⟩,⟨11,.phase⟩],none⟩,⟨none,.store 129 (.tmp 19) (.tmp 17),0,"trail.go:71",#[⟨13,.data⟩,⟨11,.data⟩,⟨11,.chain⟩,⟨0,.phase⟩,⟨1,.phase⟩,⟨2,.phase⟩,⟨3,.phase⟩,⟨4,.phase⟩,⟨5,.phase⟩,⟨6,.phase⟩,⟨7,.phase⟩,⟨8,.phase⟩,⟨9,.phase⟩,⟨10,.phase⟩,⟨11,.phase⟩],none⟩] true).wp prog Q a w:=by
 refine zX (PhS base tb V (T.ch++[⟨kind,at',key,r⟩]) w) (RelS tb V) [(0,.pointer (some ⟨tb,0,none⟩)),(4,.pointer (some ⟨cb,0,none⟩))] [(some 6,.v (.pointer (some ⟨tb,0,none⟩))),(some 7,.v (.pointer (some ⟨tb,0,none⟩))),(some 8,.v (.pointer (some ⟨tb,0,none⟩))),(some 9,.v (.pointer (some ⟨tb,2,none⟩))),(some 10,.v (V.cv)),(some 11,.v (.agg #[.int .i64 (kind:Int),.int .u64 (za at' 0),.int .u64 (za at' 1),.int .u64 (za at' 2),.int .u64 (za at' 3),.int .u64 (za key 0),.int .u64 (za key 1),.int .u64 (za key 2),.int .u64 (za key 3)])),(some 12,.v (.pointer (some ⟨tb,0,none⟩))),(some 13,.v (.agg #[.int .i64 (kind:Int),.int .u64 (za at' 0),.int .u64 (za at' 1),.int .u64 (za at' 2),.int .u64 (za at' 3),.int .u64 (za key 0),.int .u64 (za key 1),.int .u64 (za key 2),.int .u64 (za key 3)])),(some 14,.v (wv r)),(some 15,.v (.agg #[.int .i64 (kind:Int),.int .u64 (za at' 0),.int .u64 (za at' 1),.int .u64 (za at' 2),.int .u64 (za at' 3),.int .u64 (za key 0),.int .u64 (za key 1),.int .u64 (za key 2),.int .u64 (za key 3),.int .u64 (za r 0),.int .u64 (za r 1),.int .u64 (za r 2),.int .u64 (za r 3)])),(some 16,.l (OneL ⟨kind,at',key,r⟩)),(some 17,.l (NewL base V (T.ch++[⟨kind,at',key,r⟩]) w)),(some 18,.v (.pointer (some ⟨tb,0,none⟩))),(some 19,.v (.pointer (some ⟨tb,2,none⟩))),(none,.v undef)] [8,10,11,14] [4,5,7] (by kernel_rfl) hsz (zW c0 (zW c4 rfl)) (by kernel_rfl) h0
  (zk _ _ _ rfl rfl (fun s x hph hdf hv hl K hK=>by
   refine zN zjg (ev2 (hv 12 _ rfl) (hv 13 _ rfl)) (hget x hph) ?_;rintro e y ⟨rfl,hB⟩;have hph:Below w.heap.size w x:=hph;exact⟨_,rfl,hK _ y (hph.trans (hB.mono hph.size)) hB nn1 rfl⟩
  )
  (zk _ _ _ rfl rfl (fun s x hph hdf hv hl K hK=>by
   have hph:Below w.heap.size w x:=hph;have hB:Below x.heap.size x (x.alloc (.cells #[.int .i64 (kind:Int),.int .u64 (za at' 0),.int .u64 (za at' 1),.int .u64 (za at' 2),.int .u64 (za at' 3),.int .u64 (za key 0),.int .u64 (za key 1),.int .u64 (za key 2),.int .u64 (za key 3),.int .u64 (za r 0),.int .u64 (za r 1),.int .u64 (za r 2),.int .u64 (za r 3)] 220)):=bal (Below.refl _ x) _;have hL:=Ze x #[.int .i64 (kind:Int),.int .u64 (za at' 0),.int .u64 (za at' 1),.int .u64 (za at' 2),.int .u64 (za at' 3),.int .u64 (za key 0),.int .u64 (za key 1),.int .u64 (za key 2),.int .u64 (za key 3),.int .u64 (za r 0),.int .u64 (za r 1),.int .u64 (za r 2),.int .u64 (za r 3)] 220;exact zjI (hv 15 _ rfl) (hK _ _ (hph.trans (hB.mono hph.size)) hB nn1 ⟨x.heap.size,rfl,fun _=>⟨by simp,hL⟩⟩)
  )
  (zk _ _ _ rfl rfl (fun s x hph hdf hv hl K hK=>by
   have h16:=(hl 16 _ rfl);obtain⟨q,e16,hq⟩:=h16;obtain⟨hq1,hq2⟩:=hq (by omega);have hph:Below w.heap.size w x:=hph;obtain⟨i0,hi0,hz0,hz1,hz2⟩:=info_parts info_ch;refine zkG base 220 i0 _ 13 104 ty_ch hi0 hz0 hz1 hz2 rfl (by decide) V.cv T.ch.length (chL T.ch) (hv 10 _ rfl) (zA h.ch hph) ⟨q,0,none⟩ 1 1 (chC ⟨kind,at',key,r⟩) e16 rfl hq2 (by intro u hu;simp[chC] at hu;rcases hu with rfl|rfl|rfl|rfl|rfl|rfl|rfl|rfl|rfl|rfl|rfl|rfl|rfl<;>rfl) (by unfold maxLen;omega) (by omega) (Nat.le_trans h.hb hph.size) ?_;intro v' y ho hg hf;have ho2:y.ownsRow base 220 13 v' (T.ch++[(⟨kind,at',key,r⟩:Chg)]).length (chL (T.ch++[(⟨kind,at',key,r⟩:Chg)])):=by rw[zkX,List.length_append];exact ho
   exact hK v' y ((Kb.of_below hph).grown hg (fun k hk=>Or.inl (by rw[hk];simp))) trivial nn1 ⟨ho2,hf.imp id (fun h k hk=>Nat.le_trans hph.size (h k hk))⟩
  )
  (zk _ _ _ rfl rfl (fun s x hph hdf hv hl K hK=>by
   have h17:=(hl 17 _ rfl);obtain⟨ho,hf⟩:=h17;generalize e17:s.tmps.getD 17 undef=v17 at ho hf;have hph:Kb V.cv.ownBlock.toList w x:=hph;have hr:=hph.row h.row (cv_tb h);have hne:=zQ hr ho ziv;obtain⟨ad,cp,rfl⟩:=ZN ho;exact zfS (hv 19 _ rfl) e17 (hr.cell (i:=2) (by decide)) (hr.frozen 2) (hK undef _ ⟨_,zbZ ho hne 2 _,hf,Up.mk' _ hph (cv_tb h) h.row.lt⟩ ((Kb.refl [tb] x).setCell (Or.inl (by simp)) _) (fun _=>rfl) rfl)
  )
  True.intro))))
  (zk _ _ _ rfl rfl (fun k s x hk hlo hhi hph hdf hv hl K hK=>by
   have k2:=(h.below (zfq hph (by have:=hhi 2 11 rfl (by kernel_rfl);omega))).row.cell (i:=2) (by decide);rw[show trC V 2=V.cv from rfl] at k2;exact Zh (fun w=>by kernel_rfl) (hv 9 _ rfl) k2 (hK _ x rfl nn1 rfl)
  )
  (zk _ _ _ rfl rfl (fun k s x hk hlo hhi hph hdf hv hl K hK=>by
   obtain⟨q0,q1,q2,q3,q4,q5,q6,q7,q8⟩:=hbx.below (zfq hph (by have:=hhi 1 10 rfl (by kernel_rfl);omega));have e4:=hv 4 _ rfl;have f4:s.eval (.tmp 4)=_:=e4;clear hv hl hlo hhi hdf;go_simp;exact(hK _ x rfl nn1 rfl)
  )
  (zk _ _ _ rfl rfl (fun k s x hk hlo hhi hph hdf hv hl K hK=>by
   obtain⟨q0,q1,q2,q3,q4,q5,q6,q7,q8⟩:=hbx.below (zfq hph (by have:=hhi 0 8 rfl (by kernel_rfl);omega));have e4:=hv 4 _ rfl;have f4:s.eval (.tmp 4)=_:=e4;clear hv hl hlo hhi hdf;go_simp;exact(hK _ x rfl nn1 rfl)
  )
  True.intro)))
  (zcp (And.intro (fun p v x x' hne hpl hph hrel ht=>by
   obtain⟨q,e,hq⟩:=ht;have hp2:p≠1:=fun e2=>hne (by rw[e2];rfl)
   refine⟨q,e,fun hp3=> ?_⟩;obtain rfl:p=0:=by omega
   obtain⟨h1,h2⟩:=hq (by omega);have hB:Below x.heap.size x x':=hrel;exact⟨Nat.lt_of_lt_of_le h1 hB.size,fun j u hj=>(hB.cell (by rw[zkI];exact h1)).trans (h2 j u hj)⟩)
  (And.intro (fun p v x x' hne hpl hph hrel ht=>by
   have hp2:p≠2:=fun e2=>hne (by rw[e2];rfl)
   rcases ltq4 hpl with rfl|rfl|rfl|rfl
   ·exact⟨zA ht.1 hrel,ht.2⟩
   ·exact⟨zA ht.1 hrel,ht.2⟩
   ·exact absurd rfl hp2
   ·have hk:Kb V.cv.ownBlock.toList w x:=hph;have hr:=hk.row h.row (cv_tb h);exact⟨Kb.own (S:=[tb]) hrel ht.1 (fun k hk2=>by simpa using zQ hr ht.1 ziv k hk2),ht.2⟩)
  trivial))) ?_
 intro g x hph hT;exact hok x (g 10) (g 11) hph (hT 10 _ _ rfl) (hT 11 _ _ rfl)
end
section
open Go.Maps
theorem TTo.comp {base tb m m':Nat} {T T1 T2:TS} {V V1:TV} {S:List Nat} {w w1 w2:World} (h2:V1.n<=V.n+m) (h3:Kb S w w1) (h4:∀k∈S,zF tb T V k) (h5:∀k,zF tb T1 V1 k->zF tb T V k\/w.heap.size<=k) (h6:V1.ab=V.ab) (k:TTo base tb T1 V1 T2 m' w1 w2):TTo base tb T V T2 (m+m') w w2:=by
 obtain⟨V2,S2,k1,k2,k3,k4,k5,k6⟩:=k;refine⟨V2,S++S2.filter (fun k=>decide (k<w.heap.size)),k1,by omega,(h3.mono (fun i hi=>List.mem_append_left _ hi)).trans k3 (fun i hi=> ?_),fun i hi=> ?_,fun i hi=> ?_,k6.trans h6⟩
 ·by_cases hl:i<w.heap.size
  ·exact Or.inl (List.mem_append_right _ (List.mem_filter.2 ⟨hi,by simpa using hl⟩))
  ·exact Or.inr (by omega)
 ·rcases List.mem_append.1 hi with e|e
  ·exact h4 i e
  ·obtain⟨e1,e2⟩:=List.mem_filter.1 e;rcases h5 i (k4 i e1) with e3|e3
   ·exact e3
   ·have:i<w.heap.size:=by simpa using e2
    omega
 ·rcases k5 i hi with e|e
  ·exact h5 i e
  ·exact Or.inr (Nat.le_trans h3.size e)
theorem Kb.undrew {S:List Nat} {w x:World} (h:Kb S w x):Kb S w.drew x:=⟨h.os,h.tape,h.output,h.size,h.block⟩
theorem znd {base tb:Nat} {T:TS} {V:TV} (kind at' key v r:Nat) (w:World) (h:Tr base tb T V w) (hr:r=zgH T kind at' key) (hl:T.ch.length<1000000000)
  (hget:∀x,Tr base tb T V x->Calls prog 202 #[.pointer (some ⟨tb,0,none⟩),Z6 kind at' key] x fun e w'=>e=.returned (wv r)/\Below x.heap.size x w')
  (hput:∀T' V' x,Tr base tb T' V' x->V'.n<=V.n->Calls prog 159 #[.pointer (some ⟨tb,0,none⟩),Z6 kind at' key,wv v] x fun e w'=>e=.returned (.tuple #[])/\TTo base tb T' V' (zbw T' kind at' key v) 2 x w'):
  Calls prog 154 #[.pointer (some ⟨tb,0,none⟩),Z6 kind at' key,wv v] w fun e w'=>e=.returned (.tuple #[])/\TTo base tb T V (yi T kind at' key v) 2 w w':=by
 go_enter func154,ntmps154;go_wp2;have hB:Below w.heap.size w ((w.alloc (.cells (zce kind at' key) 217)).alloc (wc v)):=bal (bal (Below.refl _ w) _) _;have h2:=h.below hB
 have hbx:CellAt ((w.alloc (.cells (zce kind at' key) 217)).alloc (wc v)) w.heap.size kind at' key:=by
  unfold CellAt;simp[go_sem]
 refine set_r1 (r:=r) (cb:=w.heap.size) _ _ h2 hl (fun x hx=>hget x (h2.below hx)) hbx (Below.refl _ _).drew rfl rfl rfl ?_;rintro x z10 z11 ⟨v',ho,hf,hu⟩ - -;have hcb:∀k,V.cv.ownBlock=some k->base<=k/\k<w.heap.size:=fun k hk=>h.ch.lt k hk
 obtain⟨hT,hTo⟩:=h2.ch_to hu ho hf (fun k hk=>(hcb k hk).1)
 obtain⟨⟨k0,k1,k2,k3,k4,k5,k6,k7,k8⟩,l0,l1,l2,l3⟩:=zmh hu.kb.undrew (fun hm=>by
  rcases List.mem_cons.1 hm with e|e
  ·have:=h.row.lt;omega
  ·have:=(hcb _ (by simpa using e)).2;omega) (fun hm=>by
  rcases List.mem_cons.1 hm with e|e
  ·have:=h.row.lt;omega
  ·have:=(hcb _ (by simpa using e)).2;omega)
 obtain⟨V1,S1,j1,j2,j3,j4,j5,j6⟩:=hTo;have HP:=ze (hput _ V1 x j1 (by omega))
 have HO:Hid (∀y,TTo base tb {T with ch:=T.ch++[⟨kind,at',key,r⟩]} V1 (zbw {T with ch:=T.ch++[⟨kind,at',key,r⟩]} kind at' key v) 2 x y->TTo base tb T V (yi T kind at' key v) 2 w y):=by
  intro y hy;unfold yi;rw[<-hr];exact TTo.pre hB (TTo.comp (m:=0) j2 j3 j4 j5 j6 hy)
 clear hT hu hf ho hcb j1 j2 j3 j4 j5 j6 h h2 hbx hB hget hput hl hr;simp only[zL,List.foldl_cons,List.foldl_nil,Act.put];simp only[sx9];go_wp2_with fail
 refine HP.out.mono ?_;rintro e y ⟨rfl,hy⟩;have HY:=ze (HO.out y hy);clear hy HO HP;go_wp2;go_end0;exact⟨rfl,HY.out⟩
theorem zke {base tb:Nat} {T:TS} {V:TV} (at' key v:Nat) (w:World) (h:Tr base tb T V w) (hl:T.ch.length<1000000000) (hn:V.n<900000000000):
  Calls prog 154 #[.pointer (some ⟨tb,0,none⟩),Z6 0 at' key,wv v] w fun e w'=>e=.returned (.tuple #[])/\TTo base tb T V (yi T 0 at' key v) 2 w w':=
 znd 0 at' key v _ w h rfl hl (fun x hx=>zdN at' key x hx) (fun T' V' x hx hv=>zh2 at' key v x hx (by omega))
theorem zfL {base tb:Nat} {T:TS} {V:TV} (at' key v:Nat) (w:World) (h:Tr base tb T V w) (hl:T.ch.length<1000000000) (hn:V.n<900000000000):
  Calls prog 154 #[.pointer (some ⟨tb,0,none⟩),Z6 1 at' key,wv v] w fun e w'=>e=.returned (.tuple #[])/\TTo base tb T V (yi T 1 at' key v) 2 w w':=
 znd 1 at' key v _ w h rfl hl (fun x hx=>zbB at' key x hx) (fun T' V' x hx hv=>zeG at' key v x hx (by omega))
end
section
open Go.Maps
abbrev zc:Obj:=.cells #[.int .u64 0,.int .u64 0,.int .u64 0,.int .u64 0] 24
theorem zfZ (w:World):zS (w.alloc zc) w.heap.size 0:=zh _ rfl rfl rfl rfl rfl
theorem zbG {base tb:Nat} {T:TS} {V:TV} (at':Nat) (w:World) (h:Tr base tb T V w):
  Calls prog 156 #[.pointer (some ⟨tb,0,none⟩),wv at'] w fun e w'=>e=.returned (wv (T.acc at').bal)/\Below w.heap.size w w':=by
 have hB:Below w.heap.size w ((w.alloc (wc at')).alloc zc):=bal (bal (Below.refl _ w) _) _;have HG:=ze (zdN at' 0 _ (h.below hB));have HB:=ze hB
 have HZ:Hid (zS ((w.alloc (wc at')).alloc zc) (w.heap.size+1) 0):=by
  have:=zfZ (w.alloc (wc at'));rw[show(w.alloc (wc at')).heap.size=w.heap.size+1 by simp] at this;exact this
 clear h hB;generalize(T.acc at').bal=bl at*;unfold Z6 zce at HG;simp only[zl] at HG;go_enter func156,ntmps156;go_wp2_with fail
 refine HG.out.mono ?_;rintro e w1 ⟨rfl,hb⟩;have hrz:=zf HZ.out hb;have HBL:Hid (Below w.heap.size w w1):=HB.out.trans (hb.mono HB.out.size);obtain⟨x0,x1,x2,x3⟩:=zb hrz;have fz:=hrz.frozen;clear hb HG;go_wp2;obtain⟨q0,q1,q2,q3⟩:=zb (zm hrz (za bl) rfl rfl rfl rfl);refine bodyPost_ret (v:=wv bl) (by simp[results,results156,go_sem,q0,q1,q2,q3]) rfl ⟨rfl,zn HBL.out (by omega) _ _ _ _⟩
abbrev r3 (w:World) (a b:Nat):World:=((w.alloc (wc a)).alloc (wc b)).alloc zc
theorem zms (w:World) (a b:Nat):Below w.heap.size w (r3 w a b):=bal (bal (bal (Below.refl _ w) _) _) _
theorem zcM (op:Nat) (ho:op<=255) (a b:Nat) (w:World) (hz:Zr w):
  Calls prog 155 #[.int .u8 (op:Int),wv a,wv b] w fun e w'=>e=.returned (wv (zI op (a%M) (b%M) 0))/\Below w.heap.size w w':=by
 have HC:=ze (YF op ho a b 0 (r3 w a b));have HB:=ze (zms w a b)
 have HZ:Hid (zS (r3 w a b) (w.heap.size+1+1) 0):=by
  have:=zfZ ((w.alloc (wc a)).alloc (wc b));rw[show((w.alloc (wc a)).alloc (wc b)).heap.size=w.heap.size+1+1 by simp] at this;exact this
 obtain⟨⟨z0,z1,z2,z3⟩,_⟩:=hz.below (bal (Below.refl _ w) (wc a));unfold wv at HC;simp only[zl] at HC;rw[show(0:Nat)%M=0 from rfl] at HC;generalize zbp op=er at*;generalize zI op (a%M) (b%M) 0=res at*;clear hz;go_enter func155,ntmps155;go_wp2_with fail
 refine HC.out.mono ?_;rintro e w1 ⟨r,hr,rfl,hb⟩;have hrz:=zf HZ.out hb;have HBL:Hid (Below w.heap.size w w1):=HB.out.trans (hb.mono HB.out.size);have hrz2:=zf hrz (bal (Below.refl _ w1) (wc r));obtain⟨x0,x1,x2,x3⟩:=zb hrz2;have fz:=hrz2.frozen;clear hb HC;go_wp2;obtain⟨q0,q1,q2,q3⟩:=zb (zm hrz2 (za r) rfl rfl rfl rfl);refine bodyPost_ret (v:=wv r) (by simp[results,results155,go_sem,q0,q1,q2,q3]) rfl ⟨by rw[hr.out],zn (bal HBL.out _) (by omega) _ _ _ _⟩
end
section
open Go.Maps
theorem zbH:Own 156:=fun _ _=>by kernel_rfl
theorem zco:Own 155:=fun _ _=>by kernel_rfl
theorem zcR:Own 154:=fun _ _=>by kernel_rfl
def PhM (R:World->Prop) (w:World):Nat->World->Prop
 |0,x=>Below w.heap.size w x
 |1,x=>Below w.heap.size w x
 |2,x=>Below w.heap.size w x
 |_,x=>R x
theorem YZ {R:World->Prop} {w x:World} {k:Nat} (h:PhM R w k x) (hk:k<=2):Below w.heap.size w x:=by
 match k,hk,h with
 |0,_,h=>exact h
 |1,_,h=>exact h
 |2,_,h=>exact h
theorem move_r1 {tb fr amt bl v ba bf:Nat} {R:World->Prop} {Q:Exit->Act->World->Prop} (a:Act) (w:World) (ra:zS w ba amt) (rf:zS w bf fr) (hbal:∀x,Below w.heap.size w x->Calls prog 156 #[.pointer (some ⟨tb,0,none⟩),wv fr] x fun e w'=>e=.returned (wv bl)/\Below x.heap.size x w') (hrec:∀x,Below w.heap.size w x->Calls prog 155 #[.int .u8 3,wv bl,wv amt] x fun e w'=>e=.returned (wv v)/\Below x.heap.size x w') (hset:∀x,Below w.heap.size w x->Calls prog 154 #[.pointer (some ⟨tb,0,none⟩),.agg #[.int .i64 0,.int .u64 (za fr 0),.int .u64 (za fr 1),.int .u64 (za fr 2),.int .u64 (za fr 3),.int .u64 0,.int .u64 0,.int .u64 0,.int .u64 0],wv v] x fun e w'=>e=.returned (.tuple #[])/\R w') (h0:Below w.heap.size w w.drew) (hsz:([8,9,10,11,12,13,14,15,16]:List Nat).all (fun d=>decide (d<a.tmps.size))=true) (c0:a.tmps.getD 0 undef=.pointer (some ⟨tb,0,none⟩)) (c5:a.tmps.getD 5 undef=.pointer (some ⟨ba,0,none⟩)) (c6:a.tmps.getD 6 undef=.pointer (some ⟨bf,0,none⟩))
  (hok:∀(x:World),(PhM R w) 3 x->Q .normal (zL a [(8,.pointer (some ⟨tb,0,none⟩)),(9,wv fr),(10,.agg #[.int .i64 0,.int .u64 (za fr 0),.int .u64 (za fr 1),.int .u64 (za fr 2),.int .u64 (za fr 3),.int .u64 0,.int .u64 0,.int .u64 0,.int .u64 0]),(11,.pointer (some ⟨tb,0,none⟩)),(12,wv fr),(13,wv bl),(14,wv amt),(15,wv v),(16,Value.tuple #[])]) x):
  (Code.region 1 #[⟨some 8,.move (.tmp 0),96,"trail.go:93",#[],none⟩,⟨some 9,.load 24 (.tmp 6),24,"trail.go:93",#[],none⟩,⟨some 10,.build 217 #[(0,.const (.int .i64 0)),(1,.tmp 9)],217,"trail.go:93",#[⟨1,.data⟩],none⟩,⟨some 11,.move (.tmp 0),96,"trail.go:93",#[],none⟩,⟨some 12,.load 24 (.tmp 6),24,"trail.go:93",#[],none⟩,⟨some 13,.call ⟨.value (.func 156),#[.tmp 11,.tmp 12],#[96,24]⟩,24,"trail.go:93",#[⟨3,.data⟩,⟨4,.data⟩],none⟩,⟨some 14,.load 24 (.tmp 5),24,"trail.go:93",#[],none⟩,⟨some 15,.call ⟨.value (.func 155),#[.const (.int .u8 3),.tmp 13,.tmp 14],#[5,24,24]⟩,24,"trail.go:93",#[⟨5,.data⟩,⟨6,.data⟩,⟨5,.chain⟩],none⟩,⟨some 16,.call ⟨.value (.func 154),#[.tmp 8,.tmp 10,.tmp 15],#[96,217,24]⟩,0,"trail.go:93",#[⟨0,.data⟩,⟨2,.data⟩,⟨7,.data⟩,⟨7,.chain⟩],none⟩] true).wp prog Q a w:=by
 refine zX (PhM R w) (fun _ _ _=>True) [(0,.pointer (some ⟨tb,0,none⟩)),(5,.pointer (some ⟨ba,0,none⟩)),(6,.pointer (some ⟨bf,0,none⟩))] [(some 8,.v (.pointer (some ⟨tb,0,none⟩))),(some 9,.v (wv fr)),(some 10,.v (.agg #[.int .i64 0,.int .u64 (za fr 0),.int .u64 (za fr 1),.int .u64 (za fr 2),.int .u64 (za fr 3),.int .u64 0,.int .u64 0,.int .u64 0,.int .u64 0])),(some 11,.v (.pointer (some ⟨tb,0,none⟩))),(some 12,.v (wv fr)),(some 13,.v (wv bl)),(some 14,.v (wv amt)),(some 15,.v (wv v)),(some 16,.v (Value.tuple #[]))] [5,7,8] [1,4,6] (by kernel_rfl) hsz (zW c0 (zW c5 (zW c6 rfl))) (by kernel_rfl) h0
  (zk _ _ _ rfl rfl (fun s x hph hdf hv hl K hK=>by
   refine zN zbH (ev2 (hv 11 _ rfl) (hv 12 _ rfl)) (hbal x hph) ?_;rintro e y ⟨rfl,hB⟩;have hph:Below w.heap.size w x:=hph;exact⟨_,rfl,hK _ y (hph.trans (hB.mono hph.size)) trivial nn1 rfl⟩
  )
  (zk _ _ _ rfl rfl (fun s x hph hdf hv hl K hK=>by
   refine zN zco (ev3 rfl (hv 13 _ rfl) (hv 14 _ rfl)) (hrec x hph) ?_;rintro e y ⟨rfl,hB⟩;have hph:Below w.heap.size w x:=hph;exact⟨_,rfl,hK _ y (hph.trans (hB.mono hph.size)) trivial nn1 rfl⟩
  )
  (zk _ _ _ rfl rfl (fun s x hph hdf hv hl K hK=>by
   refine zN zcR (ev3 (hv 8 _ rfl) (hv 10 _ rfl) (hv 15 _ rfl)) (hset x hph) ?_;rintro e y ⟨rfl,hR⟩;exact⟨_,rfl,hK _ y hR trivial nn1 rfl⟩
  )
  True.intro)))
  (zk _ _ _ rfl rfl (fun k s x hk hlo hhi hph hdf hv hl K hK=>by
   obtain⟨y0,y1,y2,y3⟩:=zb (zf rf (YZ hph (by have:=hhi 2 8 rfl (by kernel_rfl);omega)));exact Zb (n:=fr) (hv 6 _ rfl) y0 y1 y2 y3 (hK _ x rfl nn1 rfl)
  )
  (zk _ _ _ rfl rfl (fun k s x hk hlo hhi hph hdf hv hl K hK=>by
   obtain⟨y0,y1,y2,y3⟩:=zb (zf rf (YZ hph (by have:=hhi 0 5 rfl (by kernel_rfl);omega)));exact Zb (n:=fr) (hv 6 _ rfl) y0 y1 y2 y3 (hK _ x rfl nn1 rfl)
  )
  (zk _ _ _ rfl rfl (fun k s x hk hlo hhi hph hdf hv hl K hK=>by
   obtain⟨y0,y1,y2,y3⟩:=zb (zf ra (YZ hph (by have:=hhi 1 7 rfl (by kernel_rfl);omega)));exact Zb (n:=amt) (hv 5 _ rfl) y0 y1 y2 y3 (hK _ x rfl nn1 rfl)
  )
  True.intro)))
  (fun _ _ _ h=>(yH rfl h).elim) ?_
 intro g x hph hT;exact hok x hph
theorem move_r2 {tb fr amt bl v ba bf:Nat} {R:World->Prop} {Q:Exit->Act->World->Prop} (a:Act) (w:World) (ra:zS w ba amt) (rf:zS w bf fr) (hbal:∀x,Below w.heap.size w x->Calls prog 156 #[.pointer (some ⟨tb,0,none⟩),wv fr] x fun e w'=>e=.returned (wv bl)/\Below x.heap.size x w') (hrec:∀x,Below w.heap.size w x->Calls prog 155 #[.int .u8 1,wv bl,wv amt] x fun e w'=>e=.returned (wv v)/\Below x.heap.size x w') (hset:∀x,Below w.heap.size w x->Calls prog 154 #[.pointer (some ⟨tb,0,none⟩),.agg #[.int .i64 0,.int .u64 (za fr 0),.int .u64 (za fr 1),.int .u64 (za fr 2),.int .u64 (za fr 3),.int .u64 0,.int .u64 0,.int .u64 0,.int .u64 0],wv v] x fun e w'=>e=.returned (.tuple #[])/\R w') (h0:Below w.heap.size w w.drew) (hsz:([17,18,19,20,21,22,23,24,25]:List Nat).all (fun d=>decide (d<a.tmps.size))=true) (c0:a.tmps.getD 0 undef=.pointer (some ⟨tb,0,none⟩)) (c5:a.tmps.getD 5 undef=.pointer (some ⟨ba,0,none⟩)) (c7:a.tmps.getD 7 undef=.pointer (some ⟨bf,0,none⟩))
  (hok:∀(x:World),(PhM R w) 3 x->Q .normal (zL a [(17,.pointer (some ⟨tb,0,none⟩)),(18,wv fr),(19,.agg #[.int .i64 0,.int .u64 (za fr 0),.int .u64 (za fr 1),.int .u64 (za fr 2),.int .u64 (za fr 3),.int .u64 0,.int .u64 0,.int .u64 0,.int .u64 0]),(20,.pointer (some ⟨tb,0,none⟩)),(21,wv fr),(22,wv bl),(23,wv amt),(24,wv v),(25,Value.tuple #[])]) x):
  (Code.region 2 #[⟨some 17,.move (.tmp 0),96,"trail.go:94",#[],none⟩,⟨some 18,.load 24 (.tmp 7),24,"trail.go:94",#[],none⟩,⟨some 19,.build 217 #[(0,.const (.int .i64 0)),(1,.tmp 18)],217,"trail.go:94",#[⟨1,.data⟩],none⟩,⟨some 20,.move (.tmp 0),96,"trail.go:94",#[],none⟩,⟨some 21,.load 24 (.tmp 7),24,"trail.go:94",#[],none⟩,⟨some 22,.call ⟨.value (.func 156),#[.tmp 20,.tmp 21],#[96,24]⟩,24,"trail.go:94",#[⟨3,.data⟩,⟨4,.data⟩],none⟩,⟨some 23,.load 24 (.tmp 5),24,"trail.go:94",#[],none⟩,⟨some 24,.call ⟨.value (.func 155),#[.const (.int .u8 1),.tmp 22,.tmp 23],#[5,24,24]⟩,24,"trail.go:94",#[⟨5,.data⟩,⟨6,.data⟩,⟨5,.chain⟩],none⟩,⟨some 25,.call ⟨.value (.func 154),#[.tmp 17,.tmp 19,.tmp 24],#[96,217,24]⟩,0,"trail.go:94",#[⟨0,.data⟩,⟨2,.data⟩,⟨7,.data⟩,⟨7,.chain⟩],none⟩] true).wp prog Q a w:=by
 refine zX (PhM R w) (fun _ _ _=>True) [(0,.pointer (some ⟨tb,0,none⟩)),(5,.pointer (some ⟨ba,0,none⟩)),(7,.pointer (some ⟨bf,0,none⟩))] [(some 17,.v (.pointer (some ⟨tb,0,none⟩))),(some 18,.v (wv fr)),(some 19,.v (.agg #[.int .i64 0,.int .u64 (za fr 0),.int .u64 (za fr 1),.int .u64 (za fr 2),.int .u64 (za fr 3),.int .u64 0,.int .u64 0,.int .u64 0,.int .u64 0])),(some 20,.v (.pointer (some ⟨tb,0,none⟩))),(some 21,.v (wv fr)),(some 22,.v (wv bl)),(some 23,.v (wv amt)),(some 24,.v (wv v)),(some 25,.v (Value.tuple #[]))] [5,7,8] [1,4,6] (by kernel_rfl) hsz (zW c0 (zW c5 (zW c7 rfl))) (by kernel_rfl) h0
  (zk _ _ _ rfl rfl (fun s x hph hdf hv hl K hK=>by
   refine zN zbH (ev2 (hv 20 _ rfl) (hv 21 _ rfl)) (hbal x hph) ?_;rintro e y ⟨rfl,hB⟩;have hph:Below w.heap.size w x:=hph;exact⟨_,rfl,hK _ y (hph.trans (hB.mono hph.size)) trivial nn1 rfl⟩
  )
  (zk _ _ _ rfl rfl (fun s x hph hdf hv hl K hK=>by
   refine zN zco (ev3 rfl (hv 22 _ rfl) (hv 23 _ rfl)) (hrec x hph) ?_;rintro e y ⟨rfl,hB⟩;have hph:Below w.heap.size w x:=hph;exact⟨_,rfl,hK _ y (hph.trans (hB.mono hph.size)) trivial nn1 rfl⟩
  )
  (zk _ _ _ rfl rfl (fun s x hph hdf hv hl K hK=>by
   refine zN zcR (ev3 (hv 17 _ rfl) (hv 19 _ rfl) (hv 24 _ rfl)) (hset x hph) ?_;rintro e y ⟨rfl,hR⟩;exact⟨_,rfl,hK _ y hR trivial nn1 rfl⟩
  )
  True.intro)))
  (zk _ _ _ rfl rfl (fun k s x hk hlo hhi hph hdf hv hl K hK=>by
   obtain⟨y0,y1,y2,y3⟩:=zb (zf rf (YZ hph (by have:=hhi 2 8 rfl (by kernel_rfl);omega)));exact Zb (n:=fr) (hv 7 _ rfl) y0 y1 y2 y3 (hK _ x rfl nn1 rfl)
  )
  (zk _ _ _ rfl rfl (fun k s x hk hlo hhi hph hdf hv hl K hK=>by
   obtain⟨y0,y1,y2,y3⟩:=zb (zf rf (YZ hph (by have:=hhi 0 5 rfl (by kernel_rfl);omega)));exact Zb (n:=fr) (hv 7 _ rfl) y0 y1 y2 y3 (hK _ x rfl nn1 rfl)
  )
  (zk _ _ _ rfl rfl (fun k s x hk hlo hhi hph hdf hv hl K hK=>by
   obtain⟨y0,y1,y2,y3⟩:=zb (zf ra (YZ hph (by have:=hhi 1 7 rfl (by kernel_rfl);omega)));exact Zb (n:=amt) (hv 5 _ rfl) y0 y1 y2 y3 (hK _ x rfl nn1 rfl)
  )
  True.intro)))
  (fun _ _ _ h=>(yH rfl h).elim) ?_
 intro g x hph hT;exact hok x hph
end
section
open Go.Maps
theorem Tr.lt {base tb:Nat} {T:TS} {V:TV} {w:World} (h:Tr base tb T V w) {k:Nat} (hk:zF tb T V k):k<w.heap.size:=by
 rcases hk with e|e|e|e|e|⟨t,ht,e⟩
 ·rw[e];exact h.row.lt
 ·exact h.acc.lt e
 ·rw[e];exact h.pas.lt
 ·exact(h.ch.lt k e).2
 ·exact(h.lo.2.1.lt k e).2
 ·obtain⟨l,hl⟩:=h.lo.tv ht;exact(hl.lt k e).2
def zc5 (T:TS) (amt fr:Nat):TS:=yi T 0 fr 0 (zI 3 ((T.acc fr).bal%M) (amt%M) 0)
def moveB (T:TS) (amt tt:Nat):TS:=yi T 0 tt 0 (zI 1 ((T.acc tt).bal%M) (amt%M) 0)
def za4 (T:TS) (amt fr tt:Nat):TS:=moveB (zc5 T amt fr) amt tt
theorem zcg {base tb:Nat} {T:TS} {V:TV} (at' v:Nat) (w:World) (h:Tr base tb T V w) (hl:T.ch.length<1000000000) (hn:V.n<900000000000):
  Calls prog 154 #[.pointer (some ⟨tb,0,none⟩),.agg #[.int .i64 0,.int .u64 (za at' 0),.int .u64 (za at' 1),.int .u64 (za at' 2),.int .u64 (za at' 3),.int .u64 0,.int .u64 0,.int .u64 0,.int .u64 0],wv v] w fun e w'=>e=.returned (.tuple #[])/\TTo base tb T V (yi T 0 at' 0 v) 2 w w':=by
 have hs:=zke at' 0 v w h hl hn;unfold Z6 zce at hs;simp only[zl] at hs;exact hs
theorem setT_ch (T:TS) (kind a key v:Nat):(yi T kind a key v).ch.length=T.ch.length+1:=by
 unfold yi zbw;split
 ·simp
 ·split<;>simp
theorem zm0 {base tb:Nat} {T:TS} {V:TV} (amt fr tt:Nat) (w:World) (h:Tr base tb T V w) (hl:T.ch.length<999999990) (hn:V.n<899999999990):
  Calls prog 94 #[.pointer (some ⟨tb,0,none⟩),wv amt,wv fr,wv tt] w fun e w'=>e=.returned (.tuple #[])/\TTo base tb T V (za4 T amt fr tt) 4 w w':=by
 go_enter func94,ntmps94;go_wp2;have hB:Below w.heap.size w (b3 w amt fr tt):=zdb w amt fr tt;have h2:=h.below hB;have ra:zS (b3 w amt fr tt) w.heap.size amt:=zf (zf (Zn w amt) (bal (Below.refl _ _) _)) (bal (Below.refl _ _) _)
 have rf:zS (b3 w amt fr tt) (w.heap.size+1) fr:=by
  have:=zf (Zn (w.alloc (wc amt)) fr) (bal (Below.refl _ _) (wc tt));rw[show(w.alloc (wc amt)).heap.size=w.heap.size+1 by simp] at this;exact this
 have rt:zS (b3 w amt fr tt) (w.heap.size+1+1) tt:=by
  have:=Zn ((w.alloc (wc amt)).alloc (wc fr)) tt;rw[show((w.alloc (wc amt)).alloc (wc fr)).heap.size=w.heap.size+1+1 by simp] at this;exact this
 refine move_r1 (R:=fun x=>TTo base tb T V (zc5 T amt fr) 2 (b3 w amt fr tt) x) (fr:=fr) (amt:=amt) (bl:=(T.acc fr).bal) (v:=zI 3 ((T.acc fr).bal%M) (amt%M) 0) (ba:=w.heap.size) (bf:=w.heap.size+1) _ _ ra rf (fun x hx=>zbG fr x (h2.below hx)) (fun x hx=>zcM 3 (by omega) _ amt x (h2.below hx).zr) ?_ (Below.refl _ _).drew rfl rfl rfl rfl ?_
 ·intro x hx;exact(zcg fr _ x (h2.below hx) (by omega) (by omega)).mono fun e w' ⟨h1,h3⟩=>⟨h1,TTo.pre hx h3⟩
 intro x hR;obtain⟨V1,S1,j1,j2,j3,j4,j5,j6⟩:TTo base tb T V (zc5 T amt fr) 2 (b3 w amt fr tt) x:=hR
 have hno:∀k,w.heap.size<=k->k∉S1:=fun k hk hm=>by
  have:=h.lt (j4 k hm);omega
 have ra1:zS x w.heap.size amt:=j3.row ra (hno _ (Nat.le_refl _));have rt1:zS x (w.heap.size+1+1) tt:=j3.row rt (hno _ (by omega));have hch:(zc5 T amt fr).ch.length=T.ch.length+1:=setT_ch _ _ _ _ _;simp only[zL,List.foldl_cons,List.foldl_nil,Act.put];simp only[sx9];go_wp2;refine move_r2 (R:=fun y=>TTo base tb (zc5 T amt fr) V1 (za4 T amt fr tt) 2 x y) (fr:=tt) (amt:=amt) (bl:=((zc5 T amt fr).acc tt).bal) (v:=zI 1 (((zc5 T amt fr).acc tt).bal%M) (amt%M) 0) (ba:=w.heap.size) (bf:=w.heap.size+1+1) _ _ ra1 rt1 (fun y hy=>zbG tt y (j1.below hy)) (fun y hy=>zcM 1 (by omega) _ amt y (j1.below hy).zr) ?_ (Below.refl _ _).drew rfl rfl rfl rfl ?_
 ·intro y hy;exact(zcg tt _ y (j1.below hy) (by omega) (by omega)).mono fun e w' ⟨h1,h3⟩=>⟨h1,TTo.pre hy h3⟩
 intro y hR;have HO:Hid (TTo base tb T V (za4 T amt fr tt) 4 w y):=TTo.pre hB (TTo.comp (m:=2) (m':=2) j2 j3 j4 j5 j6 hR);clear hR j1 j2 j3 j4 j5 j6 hno ra1 rt1 ra rf rt hB h2 h;simp only[zL,List.foldl_cons,List.foldl_nil,Act.put];simp only[sx9];go_wp2;go_end0;exact⟨rfl,HO.out⟩
end
theorem zmN {env:Nat->Option Value} {s:Act} (h:∀t c,env t=some c->s.tmps.getD t undef=c):rhoE env s=s.eval:=by
 funext q;cases q with
 |tmp t=>
  show(env t).getD _=_;cases hv:env t with
  |none=>rfl
  |some c=>exact(h t c hv).symm
 |const v=>rfl
 |global g=>rfl
 |func f=>rfl
def PhF (base fb:Nat) (G:Nat->Fz) (S:List Nat) (w:World) (k:Nat) (x:World):Prop:=∃S' sv mv,Fr base fb (G k) S' sv mv x/\Kb S w x/\∀j∈S',j∈S\/w.heap.size<=j
section
abbrev Ek:=Value ⊕ Kn
abbrev Ek.v (c:Value):Ek:=.inl c
abbrev Ek.l (T:Kn):Ek:=.inr T
def Ek.kn:Ek->Kn
 |.inl c=>Cst c
 |.inr T=>T
def Ek.en:Ek->En
 |.inl c=>.inl c
 |.inr _=>.inr fun _ _ _=>True
abbrev Eks:=List (Option Nat×Ek)
def Yw (es:Eks):Tb:=es.map fun p=>(p.1,p.2.kn)
def enK (es:Eks):Es:=es.map fun p=>(p.1,p.2.en)
def elK (ops:Array Oper) (es:Eks) (o:Oper) (t:Nat):Option Kn:=match onE ops t o.after.toList with
 |some j=>match es[j]? with
  |some (_,.inr T)=>some T
  |_=>none
 |none=>none
def zer:Eks->Prop
 |[]=>True
 |(_,.inl _)::r=>zer r
 |(_,.inr T)::r=>yv T/\zer r
theorem zd5:∀{es:Eks},zer es->∀(i:Nat) (d:Option Nat) (T:Kn),(Yw es)[i]? =some (d,T)->yv T
 |[],_,i,_,_,h=>by simp[Yw] at h
 |(d',.inl c)::r,hl,0,d,T,h=>by
  obtain⟨_,rfl⟩:d'=d/\Cst c=T:=by simpa[Yw,Ek.kn] using h
  exact zcV c
 |(d',.inr U)::r,hl,0,d,T,h=>by
  obtain⟨_,rfl⟩:d'=d/\U=T:=by simpa[Yw,Ek.kn] using h
  exact hl.1
 |(d',.inl _)::r,hl,i+1,d,T,h=>zd5 (es:=r) hl i d T (by simpa[Yw] using h)
 |(d',.inr U)::r,hl,i+1,d,T,h=>zd5 (es:=r) hl.2 i d T (by simpa[Yw] using h)
theorem zjl {es:Eks} {i:Nat} {d:Option Nat} {T:Kn} (h:(Yw es)[i]? =some (d,T)):∃E,es[i]? =some (d,E)/\T=E.kn:=by
 unfold Yw at h;rw[List.getElem?_map] at h;cases he:es[i]? with
 |none=>rw[he] at h;cases h
 |some p=>rw[he] at h;obtain⟨rfl,rfl⟩:=Prod.mk.inj (Option.some.inj h);exact⟨p.2,rfl,rfl⟩
theorem zfl {es:Eks} {i:Nat} {d:Option Nat} {E:Ek} (h:es[i]? =some (d,E)):(Yw es)[i]? =some (d,E.kn):=by
 unfold Yw;rw[List.getElem?_map,h];rfl
theorem enK_at {es:Eks} {i:Nat} {d:Option Nat} {c:Value} (h:(enK es)[i]? =some (d,.v c)):es[i]? =some (d,.v c):=by
 unfold enK at h;rw[List.getElem?_map] at h;cases he:es[i]? with
 |none=>rw[he] at h;cases h
 |some p=>
  rw[he] at h;obtain⟨d',E⟩:=p;cases E with
  |inl c'=>
   obtain⟨rfl,rfl⟩:d'=d/\c'=c:=by simpa[Ek.en] using h
   rfl
  |inr T=>simp[Ek.en] at h
theorem zk9 (vs:List Value):∀(es:Eks) (i:Nat),i+es.length=vs.length->(∀j d c,es[j]? =some (d,.v c)->vs.getD (i+j) undef=c)->zai (Yw es) (vs.drop i)=feE (fun k=>vs.getD k undef) (enK es) i
 |[],i,hl,_=>by
  rw[List.drop_eq_nil_of_le (by simp at hl;omega)];rfl
 |(d,E)::r,i,hl,hv=>by
  have hi:i<vs.length:=by simp at hl;omega
  rw[List.drop_eq_getElem_cons hi];have ih:=zk9 vs r (i+1) (by simp at hl;omega) (fun j d c h=>by have:=hv (j+1) d c (by simpa using h);rwa[show i+(j+1)=i+1+j by omega] at this);have hg:vs[i]=vs.getD i undef:=by rw[List.getD_eq_getElem?_getD,List.getElem?_eq_getElem hi];rfl
  cases d with
  |none=>exact ih
  |some d=>
   show(d,vs[i])::zai (Yw r) (vs.drop (i+1))=_;cases E with
   |inl c=>rw[hg,show vs.getD i undef=c from hv 0 (some d) c rfl,ih];rfl
   |inr T=>rw[hg,ih];rfl
section
variable (ops:Array Oper) (bas:List (Nat×Value)) (es:Eks) (calls:List Nat) (base fb:Nat) (Fk:Nat->Fz) (S0:List Nat) (w0:World) (df:List Deferred) (Q:Exit->Act->World->Prop)
def LoadF (i:Nat) (o:Oper) (d:Option Nat) (E:Ek):Prop:=
 ∀(s:Act) (x:World) (k:Nat) (S1:List Nat) (sv1 mv1:Value),Fr base fb (Fk k) S1 sv1 mv1 x->Kb S0 w0 x->(∀p c,calls[p]? =some c->YQ ops 3 c i=true->k<=p)->
  (∀t c,evE ops bas (enK es) o t=some c->s.tmps.getD t undef=c)->(∀t T,elK ops es o t=some T->T (k,mv1) S1 (s.tmps.getD t undef) x)->
  ∀K:Act->World->Prop,(∀v x',Below x.heap.size x x'->(d=none->v=undef)->E.kn (k,mv1) S1 v x'->K (s.put d v) x')->Oper.wp prog o s x K Q
def CallF (p:Nat) (o:Oper) (d:Option Nat) (E:Ek):Prop:=
 ∀(s:Act) (x:World) (S1:List Nat) (sv1 mv1:Value),Fr base fb (Fk p) S1 sv1 mv1 x->Kb S0 w0 x->(∀j∈S1,j∈S0\/w0.heap.size<=j)->s.defers=df->
  (∀t c,evE ops bas (enK es) o t=some c->s.tmps.getD t undef=c)->(∀t T,elK ops es o t=some T->T (p,mv1) S1 (s.tmps.getD t undef) x)->
  ∀K:Act->World->Prop,(∀v S' sv' mv' x',Fr base fb (Fk (p+1)) S' sv' mv' x'->Kb S1 x x'->(∀j∈S',j∈S1\/x.heap.size<=j)->(d=none->v=undef)->E.kn (p+1,mv') S' v x'->K (s.put d v) x')->Oper.wp prog o s x K Q
end
theorem Z1 {ops:Array Oper} {Q:Exit->Act->World->Prop} {id base fb:Nat} {S:List Nat} {sv mv:Value} {a:Act} {w:World} (Fk:Nat->Fz) (h:Fr base fb (Fk 0) S sv mv w) (bas:List (Nat×Value)) (es:Eks) (calls loads:List Nat)
  (hst:(zat ops&&(es.length==ops.size)&&decide (zs (Yw es)).Nodup&&(bas.all fun p=> !(zs (Yw es)).contains p.1)&&((List.range (calls.length - 1)).all fun q=>YQ ops 3 (calls.getD (q+1) 0) (calls.getD q 0))&&decide calls.Nodup&&(calls.all fun c=>decide (c<ops.size))&&(es.map Prod.fst==ops.toList.map (·.dst))&&(ops.toList.all fun o=>o.guard.isNone))=true) (hsz:((zs (Yw es)).all fun d=>decide (d<a.tmps.size))=true) (hbas:(bas.map fun p=>a.tmps.getD p.1 undef)=bas.map Prod.snd)
  (hauto:(fun s x=>(List.range ops.size).map fun i=>bif (calls++loads).contains i then none else match ops[i]? with|some o=>some ((execOp (rhoE (evE ops bas (enK es) o) s) o).run prog x)|none=>none)=fun _ x=>(List.range ops.size).map fun i=>bif (calls++loads).contains i then none else match(enK es)[i]? with|some (some _,.inl c)=>some (.ok (.value c) x)|_=>none) (hstab:zer es)
  (hcalls:AllOb ops es (fun p _=>CallF ops bas es base fb Fk S w a.defers Q p) 0 calls)
  (hloads:AllOb ops es (fun _=>LoadF ops bas es calls base fb Fk S w Q) 0 loads)
  (hdone:∀(g:Nat->Value) x S' sv' mv',Fr base fb (Fk calls.length) S' sv' mv' x->Kb S w x->(∀j∈S',j∈S\/w.heap.size<=j)->(∀(i:Nat) (d:Option Nat) (T:Kn),es[i]? =some (d,.l T)->T (calls.length,mv') S' (g i) x)->Q .normal (zL a (feE g (enK es) 0)) x):
  (Code.region id ops true).wp prog Q a w:=by
 simp only[Bool.and_eq_true] at hst;obtain⟨⟨⟨⟨⟨⟨⟨⟨e1,e2⟩,e3⟩,e4⟩,e5⟩,e6⟩,e7⟩,e8⟩,e9⟩:=hst;have hlen:es.length=ops.size:=by simpa using e2
 have hdst:∀(i:Nat) (o:Oper) (d:Option Nat) (E:Ek),ops[i]? =some o->es[i]? =some (d,E)->o.dst=d:=fun i o d E ho he=>by
  have h8:es.map Prod.fst=ops.toList.map (·.dst):=by simpa using e8
  have h:=congrArg (fun l:List (Option Nat)=>l[i]?) h8;simp only[List.getElem?_map,he,Array.getElem?_toList,ho,Option.map_some] at h;exact(Option.some.inj h).symm
 have hbase:∀p∈bas,a.tmps.getD p.1 undef=p.2:=fun p hp=>by
  obtain⟨i,hi,rfl⟩:=List.getElem_of_mem hp;have h:=congrArg (fun l:List Value=>l[i]?) hbas;simp only[List.getElem?_map,List.getElem?_eq_getElem hi,Option.map_some] at h;exact Option.some.inj h
 have hval:∀(c:Nat×Value) (S1:List Nat) (o:Oper) (s:Act) (x:World),(∀p∈bas,s.tmps.getD p.1 undef=p.2)->(∀e∈o.after,Region.binds .any e=true->∀(d':Option Nat) (T':Kn),(Yw es)[e.on]? =some (d',T')->T' c S1 (Zk s d') x)->(∀t v,evE ops bas (enK es) o t=some v->s.tmps.getD t undef=v)/\(∀t T,elK ops es o t=some T->T c S1 (s.tmps.getD t undef) x):=fun c S1 o s x hb hdep=>by
  have key:∀(j t:Nat) (E:Ek) (d:Option Nat),onE ops t o.after.toList=some j->es[j]? =some (d,E)->E.kn c S1 (s.tmps.getD t undef) x:=fun j t E d h1 h2=>by
   obtain⟨e,he,hbi,rfl,hd⟩:=zcC h1;have h3:=hdep e (by simpa using he) hbi d E.kn (zfl h2);unfold zgL at hd;cases ho:ops[e.on]? with
   |none=>rw[ho] at hd;cases hd
   |some o'=>
    rw[ho] at hd;have h4:o'.dst=some t:=by simpa using hd
    rw[hdst _ _ _ _ ho h2] at h4;rw[h4] at h3;exact h3
  constructor
  ·intro t v h;unfold evE at h;cases hl:bas.lookup t with
   |some c'=>
    rw[hl] at h;obtain rfl:=Option.some.inj h;obtain⟨l1,l2,h1,_⟩:=List.lookup_eq_some_iff.1 hl;exact hb (t,c') (by rw[h1];simp)
   |none=>
    rw[hl] at h;cases hj:onE ops t o.after.toList with
    |none=>rw[hj] at h;cases h
    |some j=>
     rw[hj] at h;dsimp only at h;split at h
     ·obtain rfl:=Option.some.inj h;exact key j t _ _ hj (enK_at (by assumption))
     ·cases h
  ·intro t T h;unfold elK at h;cases hj:onE ops t o.after.toList with
   |none=>rw[hj] at h;cases h
   |some j=>
    rw[hj] at h;dsimp only at h;split at h
    ·obtain rfl:=Option.some.inj h;exact key j t _ _ hj (by assumption)
    ·cases h
 have hwant:∀(i:Nat) (o:Oper) (s:Act),ops[i]? =some o->Region.wanted o (yielded ops s.tmps)=true:=fun i o s ho=>zg (by simpa using List.all_eq_true.1 e9 o (by rw[<-Array.mem_def];exact Array.mem_of_getElem? ho))
 refine zbh (by kernel_rfl) e1 base fb Fk S w h.hs (Yw es) calls [] (by simpa[Yw] using hlen) e3 hsz (zd5 hstab) (fun hne=>absurd rfl hne) S sv mv (h.below (Below.refl _ _).drew) (Kb.refl _ _).drew (fun j hj=>Or.inl hj) bas hbase e4 e5 (by simpa using e6) e7 (fun b hb=>by cases hb) ?_ ?_ (fun b hb=>by cases hb) (fun b hb=>by cases hb) ?_
 ·intro i o d T ho ht hic _ s x k S1 sv1 mv1 hfr hkb hb hdep hkp;obtain⟨E,he,rfl⟩:=zjl ht;obtain⟨v1,v2⟩:=hval (k,mv1) S1 o s x hb hdep;refine⟨hwant i o s ho,fun K hK=> ?_⟩;by_cases hil:i∈loads
  ·obtain⟨q,hq⟩:=List.getElem?_of_mem hil;exact hloads.at hq o d E ho he s x k S1 sv1 mv1 hfr hkb hkp v1 v2 K hK
  ·have hi:i<ops.size:=(Array.getElem?_eq_some_iff.1 ho).1;have h:=congrArg (fun l:List (Option (Result Next))=>l[i]?) (congrFun (congrFun hauto s) x);have hsk:(calls++loads).contains i=false:=by simp[hic,hil]
   have he2:(enK es)[i]? =some (d,E.en):=by unfold enK;rw[List.getElem?_map,he];rfl
   simp only[List.getElem?_map,List.getElem?_range hi,Option.map_some,hsk,cond_false,ho,he2] at h;cases E with
   |inr T=>cases d<;>simp[Ek.en] at h
   |inl c=>
    cases d with
    |none=>simp[Ek.en] at h
    |some d=>
     have h':(execOp s.eval o).run prog x=.ok (.value c) x:=by rw[<-zmN v1];exact Option.some.inj (Option.some.inj h)
     unfold Oper.wp;rw[h',Oper.upon_value,hdst _ _ _ _ ho he];exact hK c x (Below.refl _ _) (fun hd=>by cases hd) rfl
 ·intro p i o d T hp ho ht s x S1 sv1 mv1 hfr hkb hsub hdf hb hdep;obtain⟨E,he,rfl⟩:=zjl ht;obtain⟨v1,v2⟩:=hval (p,mv1) S1 o s x hb hdep;refine⟨hwant i o s ho,fun K hK=> ?_⟩;have:=hcalls.at hp o d E ho he;rw[Nat.zero_add] at this;exact this s x S1 sv1 mv1 hfr hkb hsub hdf v1 v2 K hK
 ·intro vs x S' sv' mv' hfr hkb hsub hl hT _;have hl2:vs.length=es.length:=by rw[hl];simp[Yw]
  have h:=hdone (fun k=>vs.getD k undef) x S' sv' mv' hfr hkb hsub (fun i d T he=>hT i d _ (zfl he));rw[<-zk9 vs es 0 (by omega) (fun j d c he=>by rw[Nat.zero_add];exact hT j d _ (zfl he))] at h;simpa using h
section
variable {s:Act} {x:World} {pos:String} {af:Array Edge} {g:Option (Nat×Bool)} {K:Act->World->Prop} {Q:Exit->Act->World->Prop}
theorem zet {f d base fb p:Nat} {xs:Array Operand} {vs:Array Value} {A:Array TypeId} {ty:TypeId} {α:Type} {r:Option (α×Fz)} {val:α->Value} {S:List Nat} {F2:Fz} {c:Value} (hf:Own f) (hv:#[]++xs.map s.eval++#[]=vs) (hc:Calls prog f vs x (Out r val base fb S x)) (hg:F2=zv r) (hval:∀a F',r=some (a,F')->val a=c)
  (hpan:r=none->∀u pv x',Kb S x x'->Q (.panic [{v:=.iface u pv,recovered:=false}]) s x')
  (hK:∀v S' sv' mv' x',Fr base fb F2 S' sv' mv' x'->Kb S x x'->(∀j∈S',j∈S\/x.heap.size<=j)->(some d=none->v=undef)->(Ek.v c).kn (p,mv') S' v x'->K (s.put (some d) v) x'):
  Oper.wp prog ⟨some d,.call ⟨.value (.func f),xs,A⟩,ty,pos,af,g⟩ s x K Q:=
 zh3 hf hv hc (fun u pv x' hr hk=>hpan hr u pv x' hk) fun y F' S2 sv2 mv2 x' hr h1 h2 h3=>hK _ S2 sv2 mv2 x' (by rw[hg,hr];exact h1) h2 h3 nn1 (hval y F' hr)
end
end
theorem Zs (k:Nat):(Builtin.zeroCells #[.int .u8 0] k).toList=(List.replicate k (0:UInt8)).map u8v:=by
 rw[List.map_replicate,List.eq_replicate_iff];unfold Builtin.zeroCells;refine⟨by simp,fun b hb=> ?_⟩;simp at hb;obtain⟨x,_,rfl⟩:=hb;rw[Nat.mod_one];rfl
theorem ZE (k:Nat):(Builtin.zeroCells #[.int .u8 0] k).size=k:=by rw[<-Array.length_toList,Zs];simp
theorem zeE:prog.underlying 3=some (.int .i64):=by kernel_rfl
theorem YB {P:Program} {k:Nat} (w:World) (t tn ty e:TypeId) (i:TypeInfo) (z:Value) (kq kn:IntKind) (ht:P.underlying t=some (.slice e)) (htn:P.underlying tn=some (.int kn)) (hi:P.info? e=some i) (hz:i.zero=some z) (hs:i.size=1)
  (g sLen sCap:Nat) (cur:Array Value) (hg:w.heap[g]? =some (.cells cur e (0,0))) (hcs:cur.size=sCap) (h1:∀v∈(Builtin.zeroCells z.cells k).toList,v.oneCell'=true) (hzl:(Builtin.zeroCells z.cells k).size=k)
  (h0:0<k) (hr:sLen+k<=sCap) (h48:k*i.bytes<=281474976710656) (h63:k<=9223372036854775807):
  (Builtin.append_ #[t,tn] ty #[.slice (some ⟨g,0,none⟩) sLen sCap,.int kq (k:Nat)]).run P w=
   .ok (.slice (some ⟨g,0,none⟩) (sLen+k) sCap) (w.setRow g (cur.toList.take sLen++(Builtin.zeroCells z.cells k).toList++cur.toList.drop (sLen+k)).toArray):=by
 have hw:IntKind.i64.wrap (k:Int)=k:=by rw[IntKind.wrap_i64];omega
 have h48i:¬(281474976710656<(k:Int)*(i.bytes:Int)):=by
  rw[<-Int.natCast_mul];omega
 have hneg:¬((k:Int)<0):=by omega
 have hk:k≠0:=by omega
 have hst:=run_storeCells_at P g sLen e (Builtin.zeroCells z.cells k).toList 0 cur w hg (by rw[Array.length_toList,hzl];omega) h1;rw[Array.length_toList,hzl] at hst;simp only[Nat.add_zero] at hst;simp[Builtin.append_,run_underlying ht,run_underlying htn,sizeOf,typeInfo,zeroValue,hi,hz,hs,asInt,asIntOf,hw,hr,hneg,hk,h48i,Addr.add_lit,hst]
theorem zes (w:World) (base k:Nat) (v:Value) (l:List UInt8) (hv:Bys w base v l) (hk:0<k) (hl:l.length+k<=100000) (hb:base<=w.heap.size) (ty:TypeId):
  ∃v' w',(Builtin.append_ #[26,3] ty #[v,.int .i64 (k:Int)]).run prog w=.ok v' w'/\Bys w' base v' (l++List.replicate k 0)/\w.grownBy w' v.ownBlock/\zar w v v':=by
 obtain⟨i,hi,hz,hs,hby⟩:=info_parts zep;have hzc:(Value.int .u8 0).cells=#[.int .u8 0]:=rfl;have hln:(l++List.replicate k (0:UInt8)).length=l.length+k:=by simp
 have hmap:(l++List.replicate k (0:UInt8)).map u8v=l.map u8v++(List.replicate k (0:UInt8)).map u8v:=List.map_append;rcases hv.2 with⟨rfl,h0⟩|⟨g,cap,cur,rfl,hg1,hg,hnc,hcm,hcs,htk⟩
 ·obtain rfl:l=[]:=List.length_eq_zero_iff.1 h0;have hrun:=Lib.run_append_nil_zeros (P:=prog) w 26 3 ty 5 i (.int .u8 0) .i64 .i64 Yf zeE hi hz k hk (by omega) (by simp at hl;omega) (by rw[hby];simp at hl;omega);rw[hzc] at hrun;have hge:=grownCap_ge w k 0 5;have hcm:=grownCap_le_maxLen w k 0 5 (by unfold maxLen;simp at hl;omega);refine⟨_,_,hrun,⟨by simp,Or.inr ⟨w.heap.size,_,_, ?_,hb,heap_alloc_new w.drew _,by rw[hln];simpa using hge,hcm, ?_, ?_⟩⟩,⟨rfl,rfl,rfl,by simp,fun j hj _=>Below.heap_alloc w.drew _ j hj⟩,Or.inr fun k hk=>by simp[Value.ownBlock] at hk;omega⟩
  ·simp
  ·rw[Array.size_append,ZE,ZE];omega
  ·rw[Array.toList_append,Zs,Zs];simp
 ·have hcur:cur.size=cap:=by rw[hcs,Nat.mul_one]
  rw[Nat.mul_one] at htk;have hlv:l.length=(l.map u8v).length:=by simp
  by_cases hr:l.length+k<=cap
  ·have hrun:=YB (P:=prog) (k:=k) w 26 3 ty 5 i (.int .u8 0) .i64 .i64 Yf zeE hi hz hs g l.length cap cur hg hcur (by rw[hzc,Zs];exact zba _) (by rw[hzc];exact ZE k) hk hr (by rw[hby];omega) (by omega);rw[hzc,Zs,htk] at hrun;refine⟨_,_,hrun,⟨by simp,Or.inr ⟨g,cap,_,by rw[hln],hg1,setRow_heap w g _ _ _ _ hg,by rw[hln];exact hr,hcm, ?_, ?_⟩⟩,⟨rfl,rfl,rfl,by simp[World.setRow],fun j hj hne=>setRow_other w g j _ (fun e=>hne (by rw[e];rfl))⟩,Or.inl rfl⟩
   ·simp;omega
   ·rw[hln,Nat.mul_one,hmap];simp only[List.append_assoc];rw[<-List.append_assoc,List.take_append_of_le_length (by simp),List.take_of_length_le (by simp)]
  ·have hrun:=Lib.run_append_grow_zeros (P:=prog) w 26 3 ty 5 i (.int .u8 0) .i64 .i64 Yf zeE hi hz (some ⟨g,0,none⟩) l.length cap (l.map u8v)
    (run_firstCells_some (P:=prog) w.drew i.size l.length ⟨g,0,none⟩ l.length cap (l.map u8v) (by rw[hs];simp) (fun j u hj=>hv.cells rfl j u hj)) k hk (by omega) (by omega) (by omega) (by rw[hby];omega) (growslice_fits (by omega) (by rw[hby];omega))
   rw[hzc] at hrun;have hge:=grownCap_ge w (l.length+k) cap 5;have hcm2:=grownCap_le_maxLen w (l.length+k) cap 5 (by unfold maxLen;omega);refine⟨_,_,hrun,⟨by simp,Or.inr ⟨w.heap.size,_,_,by rw[hln],hb,heap_alloc_new w.drew _,by rw[hln];exact hge,hcm2, ?_, ?_⟩⟩,⟨rfl,rfl,rfl,by simp,fun j hj _=>Below.heap_alloc w.drew _ j hj⟩,Or.inr fun k hk=>by simp[Value.ownBlock] at hk;omega⟩
   ·rw[Array.size_append,Array.size_append,ZE,ZE];simp;omega
   ·rw[hln,Nat.mul_one,hmap,Array.toList_append,Array.toList_append,Zs,Zs];rw[List.take_append_of_le_length (by simp),List.take_of_length_le (by simp)]
theorem ziP (F:Fz) (sv mv v':Value) (m:List UInt8):(fun i=>if i=20 then v' else F.cell sv mv i)=({F with mem:=m}:Fz).cell sv v':=by
 funext i;by_cases h:i=20
 ·subst h;rfl
 ·simp only[Fz.cell,if_neg h]
theorem Fr.ms {base fb:Nat} {F:Fz} {S:List Nat} {sv mv:Value} {w:World} (h:Fr base fb F S sv mv w):∀k,sv.ownBlock=some k->k∉fb::mv.ownBlock.toList:=fun k hk hm=>by
 rcases List.mem_cons.1 hm with h1|h1
 ·exact h.fs k hk h1
 ·have h2:mv.ownBlock=some k:=by simpa using h1
  rcases zct h.st h.me tWB with h3|h3
  ·rw[h3] at hk;cases hk
  ·exact h3 (hk.trans h2.symm)
theorem Fr.memory {base fb:Nat} {F:Fz} {S:List Nat} {sv mv v':Value} {w w':World} {m:List UInt8} (h:Fr base fb F S sv mv w) (hl:m.length<=65536) (h32:m.length%32=0) (hw:Bys w' base v' m) (hf:zar w mv v') (hu:Up mv.ownBlock.toList fb 20 v' w w'):To base fb {F with mem:=m} S w w':=by
 refine⟨_,sv,v',⟨(ziP F sv mv v' m)▸hu.row h.row,hu.kb.own h.st h.ms,hw,rfl,h.stl,hl,h.gal,Nat.le_trans h.hb hu.kb.size,zc0 h.zr hu.kb (fun hm=>h.no0 (by rw[h.foot];rcases List.mem_cons.1 hm with e|e;simp[e];exact List.mem_cons_of_mem _ (List.mem_append_right _ e))) h.hs,h.hb1,h.hfb,h32,h.jr.kb hu.kb (fun g N f hr hm=>h.bno g N f hr (by rw[h.foot];rcases List.mem_cons.1 hm with e|e;simp[e];exact List.mem_cons_of_mem _ (List.mem_append_right _ e)))⟩, ?_, ?_⟩
 ·rw[h.foot];exact hu.kb.mono (fun i hi=>by rcases List.mem_cons.1 hi with h1|h1;simp[h1];exact List.mem_cons_of_mem _ (List.mem_append_right _ h1))
 ·intro k hk;rw[h.foot];rcases List.mem_cons.1 hk with h1|h1
  ·exact Or.inl (by simp[h1])
  ·rcases List.mem_append.1 h1 with h2|h2
   ·exact Or.inl (List.mem_cons_of_mem _ (List.mem_append_left _ h2))
   ·have h3:v'.ownBlock=some k:=by simpa using h2
    rcases hf with h4|h4
    ·exact Or.inl (List.mem_cons_of_mem _ (List.mem_append_right _ (by rw[<-h4];exact h2)))
    ·exact Or.inr (h4 k h3)
theorem To.pre {base fb:Nat} {F2:Fz} {S S1:List Nat} {w w1 w2:World} (hk:Kb S w w1) (hs:∀k∈S1,k∈S\/w.heap.size<=k) (k:To base fb F2 S1 w1 w2):To base fb F2 S w w2:=by
 obtain⟨S2,sv2,mv2,k1,k2,k3⟩:=k;refine⟨S2,sv2,mv2,k1,hk.trans k2 hs,fun i hi=> ?_⟩;rcases k3 i hi with h4|h4
 ·exact hs i h4
 ·exact Or.inr (Nat.le_trans hk.size h4)
def Zz (n:Nat):Nat:=(n+31)/32
def zaZ (needed:Nat) (F:Fz):Option (Unit×Fz):=
 if needed<=Zz F.mem.length then some ((),F) else match yQ (3*(needed - Zz F.mem.length)) F with
  |none=>none
  |some (_,F1)=>some ((),{F1 with mem:=F1.mem++List.replicate (32*(needed - Zz F.mem.length)) 0})
theorem zgD {c:Nat} {F F1:Fz} {u:Unit} (h:yQ c F=some (u,F1)):F1.mem=F.mem/\F1.st=F.st/\c<=F.gas:=by
 unfold yQ at h;split at h
 ·cases h
 ·obtain⟨_,rfl⟩:=Prod.mk.inj (Option.some.inj h);exact⟨rfl,rfl,by omega⟩
theorem grow_I {base fb:Nat} {F:Fz} {S:List Nat} {sv mv:Value} (n:Nat) (hn:n<=2048) (w:World) (h:Fr base fb F S sv mv w):
  Calls prog 293 #[.pointer (some ⟨fb,0,none⟩),.int .i64 (n:Int)] w (Out (zaZ n F) zM base fb S w):=by
 have hml:=h.mel;obtain⟨ad,cap,rfl⟩:=ZN h.me;have hc:w.cell? ⟨fb,20,none⟩=some (.slice ad F.mem.length cap):=h.row.cell (i:=20) (by decide);obtain⟨q,hq⟩:∃q,q=Zz F.mem.length:=⟨_,rfl⟩;have hqb:q<=2048:=by rw[hq];unfold Zz;omega
 have HS:Hid (∀w,Calls prog 287 #[.int .i64 (F.mem.length:Int)] w fun e w'=>e=.returned (.int .i64 (q:Int))/\w'=w):=fun w=>by rw[hq];exact zdK F.mem.length (by omega) w
 unfold zaZ;rw[<-hq];by_cases hle:n<=q
 ·rw[if_pos hle];have d:decide ((n:Int) - (q:Int)<=0)=true:=decide_eq_true (by omega);have HT:=ze h.to;clear h hq;go_enter func293,ntmps293;go_wp2_with fail
  refine(HS.out _).mono ?_;rintro e w1 ⟨rfl,rfl⟩;go_wp2
  first|go_end0|refine bodyPost_ret (results_none rfl _ _ _) rfl ?_
  exact⟨rfl,HT.out⟩
 ·rw[if_neg hle];obtain⟨m,hm⟩:∃m:Nat,(n:Int) - (q:Int)=(m:Int):=⟨n - q,by omega⟩;have hm2:n - q=m:=by omega
  have hm3:0<m:=by omega
  have hm4:m<=2048:=by omega
  have d:decide ((m:Int)<=0)=false:=decide_eq_false (by omega);rw[hm2]
  have HP:Hid (Calls prog 204 #[.pointer (some ⟨fb,0,none⟩),.int .i64 (3*(m:Int))] w (Out (yQ (3*m) F) zM base fb S w)):=by
   have h9:=zjn (3*m) (by omega) w h;rw[show((3*m:Nat):Int)=3*(m:Int) by omega] at h9;exact h9
  have HQ:Hid (F.mem.length+32*m<=65536):=by show _<=_;rw[hq] at hm2;unfold Zz at hm2;omega
  cases hp:yQ (3*m) F with
  |none=>
   rw[hp] at HP;clear h hq;go_enter func293,ntmps293;go_wp2_with fail
   refine(HS.out _).mono ?_;rintro e w1 ⟨rfl,rfl⟩;go_wp2_with fail
   refine HP.out.mono ?_;rintro e w2 ⟨⟨u,pv,rfl⟩,hk⟩;exact⟨rfl,⟨_,_,rfl⟩,hk⟩
  |some r=>
   obtain⟨u,F1⟩:=r;rw[hp] at HP;have HM:=ze (zgD hp);clear h hq hp;go_enter func293,ntmps293;go_wp2_with fail
   refine(HS.out _).mono ?_;rintro e w1 ⟨rfl,rfl⟩;go_wp2_with fail
   refine HP.out.mono ?_;rintro e w2 ⟨rfl,S1,sv1,mv1,hf1,hk1,hs1⟩;obtain⟨ad1,cap1,rfl⟩:=ZN hf1.me;have hlen:F1.mem.length+32*m<=65536:=by rw[HM.out.1];exact HQ.out
   obtain⟨v',w3,hrun,hby,hgr,hfr⟩:=zes w2 base (32*m) (.slice ad1 F1.mem.length cap1) F1.mem hf1.me (by omega) (by omega) hf1.hb 26;rw[show((32*m:Nat):Int)=32*(m:Int) by omega] at hrun;obtain⟨g',cap',rfl,hg1,hg2,hg3⟩:=zB hby (by simp;omega);have hc2:w2.cell? ⟨fb,20,none⟩=some (.slice ad1 F1.mem.length cap1):=hf1.row.cell (i:=20) (by decide);have hkb:Kb (Value.slice ad1 F1.mem.length cap1).ownBlock.toList w2 w3:=(Kb.refl _ _).grown hgr (fun k hk=>Or.inl (by rw[hk];simp));have hni:fb∉(Value.slice ad1 F1.mem.length cap1).ownBlock.toList:=fun hm=>hf1.fm fb (by simpa using hm) rfl
   have hro3:=hkb.row hf1.row hni;have hc3:w3.cell? ⟨fb,20,none⟩=some (.slice ad1 F1.mem.length cap1):=hro3.cell (i:=20) (by decide);have hz3:=hro3.frozen 20;have HR3:=ze hro3;have HBY:=ze hby;have HFR:=ze hfr;have HKB:=ze hkb;have HF1:=ze hf1;have HK1:=ze hk1;have HS1:=ze hs1;have HRUN:=ze hrun;have HNI:=ze hni;clear hro3 hby hfr hkb hf1 hk1 hs1 hrun hgr hni HP HS hm2 hg1 hg2 hg3;go_wp2_with (at_builtin;refine Lib.wpList_append_run _ rfl _ _ _ _ rfl _ _ rfl rfl _ _ HRUN.out ?_)
   go_end0;have e:(F1.mem++List.replicate (32*m) (0:UInt8)).length=F1.mem.length+32*m:=by simp
   have hby:=HBY.out;have hfr:=HFR.out;rw[e] at hby hfr;exact⟨rfl,To.pre HK1.out HS1.out (HF1.out.memory (by rw[e];exact hlen) (by rw[e];have:=HF1.out.m32;omega) (zbZ hby (zQ HR3.out hby tB) _ _) hfr (Up.mk' _ HKB.out HNI.out HF1.out.row.lt))⟩
def zG (p n:Nat) (F:Fz):Option ((Nat×Nat)×Fz):=
 if n%M=0 then some ((0,0),F) else if zcL p n 65536 then(match zaZ (Zz (p%M+n%M)) F with
  |none=>none
  |some (_,F1)=>some ((p%M,n%M),F1)) else none
def zjm (x:Nat×Nat):Value:=.tuple #[.int .i64 (x.1:Int),.int .i64 (x.2:Int)]
theorem zim {n:Nat} (h:n%M=0):eqw n 0=true:=by unfold eqw;rw[h];rfl
theorem zix {n:Nat} (h:n%M≠0):eqw n 0=false:=by unfold eqw;exact decide_eq_false (by simpa using h)
theorem reach_I {base fb:Nat} {F:Fz} {S:List Nat} {sv mv:Value} (p n:Nat) (w:World) (h:Fr base fb F S sv mv w):
  Calls prog 288 #[.pointer (some ⟨fb,0,none⟩),wv p,wv n] w (Out (zG p n F) zjm base fb S w):=by
 have hez:=yl n;have hs:=W2.start w p n;have hf2:=h.below hs.be;obtain⟨z0,z1,z2,z3⟩:_/\_/\_/\_:=⟨hf2.zr 0 (by omega),hf2.zr 1 (by omega),hf2.zr 2 (by omega),hf2.zr 3 (by omega)⟩;unfold zG;by_cases hn:n%M=0
 ·rw[if_pos hn];rw[zim hn] at hez;have HT:Hid (To base fb F S w ((w.alloc (wc p)).alloc (wc n))):=⟨S,sv,mv,hf2,Kb.of_below hs.be,fun k hk=>Or.inl hk⟩;clear hf2 hs h hn;go_enter func288,ntmps288;go_wp2;go_ret2;exact⟨rfl,HT.out⟩
 ·rw[if_neg hn];rw[zix hn] at hez;by_cases hsp:zcL p n 65536
  ·rw[if_pos hsp];have hsi:=span_in p n 65536 (by omega) hsp;have hsle:p%M+n%M<=65536:=hsp.2.2;obtain⟨q,HQ⟩:∃q:Nat,Hid (q=p%M):=⟨_,rfl⟩;obtain⟨m,HM⟩:∃m:Nat,Hid (m=n%M):=⟨_,rfl⟩;have HSP:Hid (∀w,Calls prog 286 #[wv p,wv n,.int .i64 65536] w fun e w'=>e=.returned (.tuple #[.int .i64 (q:Int),.int .i64 (m:Int),.bool true])/\Below w.heap.size w w'):=fun w=>(hsi w).mono fun e w' ⟨q',m',h1,h2,h3,h4⟩=>⟨by rw[h3,h1.out,h2.out,HQ.out,HM.out],h4⟩
   rw[<-HQ.out,<-HM.out] at hsle⊢;have HF:=ze h;have HS:=ze hs
   have HST:Hid (∀w,Calls prog 287 #[.int .i64 ((q:Int)+(m:Int))] w fun e w'=>e=.returned (.int .i64 ((Zz (q+m):Nat):Int))/\w'=w):=fun w=>by
    have h9:=zdK (q+m) (by omega) w;rw[show((q+m:Nat):Int)=(q:Int)+(m:Int) by omega] at h9;exact h9
   have HG:Hid (∀w1,Below w.heap.size w w1->Calls prog 293 #[.pointer (some ⟨fb,0,none⟩),.int .i64 ((Zz (q+m):Nat):Int)] w1 (Out (zaZ (Zz (q+m)) F) zM base fb S w1)):=fun w1 hb=>grow_I (Zz (q+m)) (by unfold Zz;omega) w1 (HF.out.below hb)
   generalize Zz (q+m)=t at*;clear hf2 hs h hn hsp hsi HQ HM;cases hg:zaZ t F with
   |none=>
    rw[hg] at HG;show Calls _ _ _ _ (Out none zjm base fb S w);go_enter func288,ntmps288;go_wp2_with fail
    refine(HSP.out _).mono ?_;rintro e w1 ⟨rfl,hb1⟩;have HBE:=ze (HS.out.call hb1).be;clear hb1;go_wp2_with fail
    refine(HST.out _).mono ?_;rintro e w2 ⟨rfl,rfl⟩;go_wp2_with fail
    refine(HG.out _ HBE.out).mono ?_;rintro e w3 ⟨⟨u,pv,rfl⟩,hk⟩;exact⟨rfl,⟨_,_,rfl⟩,(Kb.of_below HBE.out).trans hk (fun i hi=>Or.inl hi)⟩
   |some r=>
    obtain⟨u,F1⟩:=r;rw[hg] at HG;show Calls _ _ _ _ (Out (some ((q,m),F1)) zjm base fb S w);go_enter func288,ntmps288;go_wp2_with fail
    refine(HSP.out _).mono ?_;rintro e w1 ⟨rfl,hb1⟩;have HBE:=ze (HS.out.call hb1).be;clear hb1;go_wp2_with fail
    refine(HST.out _).mono ?_;rintro e w2 ⟨rfl,rfl⟩;go_wp2_with fail
    refine(HG.out _ HBE.out).mono ?_;rintro e w3 ⟨rfl,hto⟩;have HTO:=ze (To.pre (Kb.of_below HBE.out) (fun k hk=>Or.inl hk) hto);clear hto;go_wp2;go_ret2;exact⟨rfl,HTO.out⟩
  ·rw[if_neg hsp];have HSP:=ze (zkS p n 65536 (by omega) hsp);have HS:=ze hs;clear hf2 hs h hn hsp;go_enter func288,ntmps288;go_wp2_with fail
   refine(HSP.out _).mono ?_;rintro e w1 ⟨rfl,hb1⟩;have HBE:=ze (HS.out.call hb1).be;clear hb1;go_wp2;exact⟨rfl,⟨_,_,rfl⟩,Kb.of_below HBE.out⟩
def PartOf (mv v:Value) (a b:Nat):Prop:=∃(ad:Option Addr) (c:Nat),v=.slice ad b c/\b<=c/\(b≠0->∃g len cap:Nat,mv=.slice (some ⟨g,0,none⟩) len cap/\ad=some ⟨g,a,none⟩/\a+b<=len)
def OutP (r:Option ((Nat×Nat)×Fz)) (base fb:Nat) (S:List Nat) (w:World) (e:Ending) (w':World):Prop:=
 match r with
 |some (x,F')=>∃v S' sv' mv',e=.returned v/\Fr base fb F' S' sv' mv' w'/\Kb S w w'/\(∀k∈S',k∈S\/w.heap.size<=k)/\PartOf mv' v x.1 x.2
 |none=>Pan e/\Kb S w w'
theorem zjZ {n:Nat} {F F1:Fz} {u:Unit} (h:zaZ n F=some (u,F1)) (h32:F.mem.length%32=0):32*n<=F1.mem.length:=by
 unfold zaZ at h;split at h
 ·rename_i hle;obtain⟨_,rfl⟩:=Prod.mk.inj (Option.some.inj h);unfold Zz at hle;omega
 ·split at h
  ·cases h
  ·rename_i hp;obtain⟨_,rfl⟩:=Prod.mk.inj (Option.some.inj h);have hm:=(zgD hp).1;show 32*n<=(_++_:List UInt8).length;rw[List.length_append,List.length_replicate,hm];unfold Zz at*;omega
theorem zaw {p n a b:Nat} {F F1:Fz} (h:zG p n F=some ((a,b),F1)) (h32:F.mem.length%32=0):a+b<=F1.mem.length:=by
 unfold zG at h;split at h
 ·obtain⟨h1,rfl⟩:=Prod.mk.inj (Option.some.inj h);obtain⟨rfl,rfl⟩:=Prod.mk.inj h1;omega
 ·split at h
  ·split at h
   ·cases h
   ·rename_i hg;obtain⟨h1,rfl⟩:=Prod.mk.inj (Option.some.inj h);obtain⟨rfl,rfl⟩:=Prod.mk.inj h1;have:=zjZ hg h32;unfold Zz at this;omega
  ·cases h
theorem zff {base fb:Nat} {F:Fz} {S:List Nat} {sv mv:Value} (p n:Nat) (w:World) (h:Fr base fb F S sv mv w):
  Calls prog 275 #[.pointer (some ⟨fb,0,none⟩),wv p,wv n] w (OutP (zG p n F) base fb S w):=by
 have hs:=W2.start w p n;have HR:=ze (reach_I p n _ (h.below hs.be));have HBE:=ze hs.be;have h32:=h.m32;clear hs h;cases hr:zG p n F with
 |none=>
  rw[hr] at HR;clear hr;go_enter func275,ntmps275;go_wp2_with fail
  refine HR.out.mono ?_;rintro e w1 ⟨⟨u,pv,rfl⟩,hk⟩;exact⟨rfl,⟨_,_,rfl⟩,(Kb.of_below HBE.out).trans hk (fun i hi=>Or.inl hi)⟩
 |some r=>
  obtain⟨⟨a,b⟩,F1⟩:=r;have HL:=ze (zaw hr h32);rw[hr] at HR;clear hr;go_enter func275,ntmps275;go_wp2_with fail
  refine HR.out.mono ?_;rintro e w1 ⟨rfl,S1,sv1,mv1,hf1,hk1,hs1⟩;obtain⟨ad1,cap1,rfl⟩:=ZN hf1.me
  have hcap:F1.mem.length<=cap1:=by
   rcases hf1.me.2 with⟨h1,h2⟩|⟨g,cap,cur,h1,_,_,h4,_⟩
   ·omega
   ·injection h1 with _ _ h5
    omega
  have hmel:=hf1.mel;have hc1:w1.cell? ⟨fb,20,none⟩=some (.slice ad1 F1.mem.length cap1):=hf1.row.cell (i:=20) (by decide);have hle:=HL.out;have HF1:=ze hf1;have HK:=ze ((Kb.of_below (S:=S) HBE.out).trans hk1 (fun i hi=>Or.inl hi));have HS1:Hid (∀k∈S1,k∈S\/w.heap.size<=k):=fun k hk=>(hs1 k hk).imp id (fun h=>Nat.le_trans HBE.out.size h)
  have HNIL:Hid (ad1=none->cap1=0):=fun e=>by
   rcases hf1.me.2 with⟨h1,h2⟩|⟨g,cap,cur,h1,_⟩
   ·injection h1
   ·rw[e] at h1;injection h1 with h1;cases h1
  clear hf1 hk1 hs1 HR;unfold zjm;go_wp2
  ·go_ret;refine⟨_,S1,sv1,_,rfl,HF1.out,HK.out,HS1.out,_,_,rfl,by omega,fun hb=>absurd hb (by omega)⟩
  ·go_ret;refine⟨_,S1,sv1,_,rfl,HF1.out,HK.out,HS1.out,_,_,rfl,by show b<=cap1 - a;omega,fun hb=> ?_⟩;obtain⟨g,cap',e1,_⟩:=zB HF1.out.me (by show F1.mem.length≠0;simp at hb;omega);injection e1 with e1 e2 e3
   subst e1;exact⟨g,F1.mem.length,cap1,rfl,by simp[Addr.add];exact fun h=>h.symm,hle⟩
theorem zaX {base fb:Nat} {F:Fz} {S:List Nat} {sv mv:Value} {Q:Exit->Act->World->Prop} (a:Act) (w:World) {n:Nat} (hsm11:F.nx<9223372036854775808) (hpc13:(F.code).size<=100000) (hpn13:n<=32) (h:Fr base fb F S sv mv w) (hsz:([4,5,6,7,8,9,10,11,12,13,14,15,16,17,18,19]:List Nat).all (fun d=>decide (d<a.tmps.size))=true) (c1:a.tmps.getD 1 undef=.int .i64 (n:Int)) (c0:a.tmps.getD 0 undef=.pointer (some ⟨fb,0,none⟩))
  (hpan:∀u pv s x,(zP (ofL (zH (F.code) ((F.nx)%M) (n))) (F)=none)->s.defers=a.defers->Kb S w x->Q (.panic [{v:=.iface u pv,recovered:=false}]) s x)
  (hok:∀(x:World) (S':List Nat) (sv' mv':Value) (z13:Value),Fr base fb (zv (zP (ofL (zH (F.code) ((F.nx)%M) (n))) (F))) S' sv' mv' x->Kb S w x->(∀j∈S',j∈S\/w.heap.size<=j)->(Pc (zH (F.code) ((F.nx)%M) (n))) (1,mv') S' z13 x->Q .normal (zL a [(4,.pointer (some ⟨fb,0,none⟩)),(5,.pointer (some ⟨fb,0,none⟩)),(6,.pointer (some ⟨fb,19,none⟩)),(7,.pointer (some ⟨fb,0,none⟩)),(8,.pointer (some ⟨fb,0,none⟩)),(9,.pointer (some ⟨fb,1,none⟩)),(10,.string F.code),(11,.pointer (some ⟨fb,0,none⟩)),(12,.pointer (some ⟨fb,0,none⟩)),(13,.pointer (some ⟨fb,23,none⟩)),(14,.int .i64 (F.nx:Int)),(15,wv (F.nx)),(16,.int .i64 (n:Int)),(17,z13),(18,wv (ofL (zH (F.code) ((F.nx)%M) (n)))),(19,Value.tuple #[])]) x):
  (Code.region 0 #[⟨some 4,.move (.tmp 0),132,"instructions.go:121",#[],none⟩,⟨some 5,.nilCheck (.tmp 4),0,"instructions.go:121",#[⟨0,.data⟩],none⟩,⟨some 6,.fieldAddr 137 (.tmp 5) 10,0,"instructions.go:121",#[⟨1,.data⟩],none⟩,⟨some 7,.move (.tmp 0),132,"instructions.go:121",#[],none⟩,⟨some 8,.nilCheck (.tmp 7),0,"instructions.go:121",#[⟨3,.data⟩],none⟩,⟨some 9,.fieldAddr 137 (.tmp 8) 1,0,"instructions.go:121",#[⟨4,.data⟩],none⟩,⟨some 10,.load 9 (.tmp 9),9,"instructions.go:121",#[⟨5,.data⟩],none⟩,⟨some 11,.move (.tmp 0),132,"instructions.go:121",#[],none⟩,⟨some 12,.nilCheck (.tmp 11),0,"instructions.go:121",#[⟨7,.data⟩],none⟩,⟨some 13,.fieldAddr 137 (.tmp 12) 14,0,"instructions.go:121",#[⟨8,.data⟩],none⟩,⟨some 14,.load 3 (.tmp 13),3,"instructions.go:121",#[⟨9,.data⟩],none⟩,⟨some 15,.call ⟨.value (.func 262),#[.tmp 14],#[3]⟩,24,"instructions.go:121",#[⟨10,.data⟩],none⟩,⟨some 16,.move (.tmp 1),3,"instructions.go:121",#[],none⟩,⟨some 17,.call ⟨.value (.func 261),#[.tmp 10,.tmp 15,.tmp 16],#[9,24,3]⟩,26,"instructions.go:121",#[⟨6,.data⟩,⟨11,.data⟩,⟨12,.data⟩,⟨11,.chain⟩],none⟩,⟨some 18,.call ⟨.value (.func 260),#[.tmp 17],#[26]⟩,24,"instructions.go:121",#[⟨13,.data⟩,⟨13,.chain⟩],none⟩,⟨some 19,.call ⟨.value (.func 259),#[.tmp 6,.tmp 18],#[135,24]⟩,0,"instructions.go:121",#[⟨2,.data⟩,⟨14,.data⟩,⟨14,.chain⟩],none⟩] true).wp prog Q a w:=by
 have hsame:∀k:Nat,100000<((fun k=>match k with|0=>F|_=>zv (zP (ofL (zH (F.code) ((F.nx)%M) (n))) (F))) k).gas\/Same F ((fun k=>match k with|0=>F|_=>zv (zP (ofL (zH (F.code) ((F.nx)%M) (n))) (F))) k):=by
  intro k;have s0:100000<(F).gas\/Same F F:=Or.inr (Same.refl F);have s1:=zdV s0 (ofL (zH (F.code) ((F.nx)%M) (n)))
  match k with
  |0=>exact s0
  |_+1=>exact s1
 exact Z1 (fun k=>match k with|0=>F|_=>zv (zP (ofL (zH (F.code) ((F.nx)%M) (n))) (F))) h [(1,.int .i64 (n:Int)),(0,.pointer (some ⟨fb,0,none⟩))] [(some 4,.v (.pointer (some ⟨fb,0,none⟩))),(some 5,.v (.pointer (some ⟨fb,0,none⟩))),(some 6,.v (.pointer (some ⟨fb,19,none⟩))),(some 7,.v (.pointer (some ⟨fb,0,none⟩))),(some 8,.v (.pointer (some ⟨fb,0,none⟩))),(some 9,.v (.pointer (some ⟨fb,1,none⟩))),(some 10,.v (.string F.code)),(some 11,.v (.pointer (some ⟨fb,0,none⟩))),(some 12,.v (.pointer (some ⟨fb,0,none⟩))),(some 13,.v (.pointer (some ⟨fb,23,none⟩))),(some 14,.v (.int .i64 (F.nx:Int))),(some 15,.v (wv (F.nx))),(some 16,.v (.int .i64 (n:Int))),(some 17,.l (Pc (zH (F.code) ((F.nx)%M) (n)))),(some 18,.v (wv (ofL (zH (F.code) ((F.nx)%M) (n))))),(some 19,.v (Value.tuple #[]))] [15] [6,10,11,13,14] (by kernel_rfl) hsz (zW c1 (zW c0 rfl)) (by kernel_rfl) (And.intro (zdW _) trivial)
  (zk _ _ _ rfl rfl (fun s x S1 sv1 mv1 hfr hkb hsub hdf hv hl K hK=>zet (r:=zP (ofL (zH (F.code) ((F.nx)%M) (n))) (F)) (val:=zM) zcU (ev2 (hv 6 _ rfl) (hv 18 _ rfl)) (zhX (ofL (zH (F.code) ((F.nx)%M) (n))) x hfr) rfl (fun _ _ _=>rfl) (fun hrn u pv x' hk=>hpan u pv s x' hrn hdf (hkb.trans hk hsub)) hK)
  True.intro)
  (zk _ _ _ rfl rfl (fun s x k S1 sv1 mv1 hfr hkb hkp hv hl K hK=>by
    rcases hsame k with hbd|hsm
    ·exact absurd hfr.gal (Nat.not_le.2 hbd)
    ·have e:=hsm.code;exact Zh (v:=.string F.code) (fun w=>by kernel_rfl) (hv 9 _ rfl) ((hfr.row.cell (i:=1) (by decide)).trans (congrArg (fun z=>some (Value.string z)) e)) (hK _ x (Below.refl _ _) nn1 rfl))
  (zk _ _ _ rfl rfl (fun s x k S1 sv1 mv1 hfr hkb hkp hv hl K hK=>by
    rcases hsame k with hbd|hsm
    ·exact absurd hfr.gal (Nat.not_le.2 hbd)
    ·have e:=hsm.nx;exact Zh (v:=.int .i64 (F.nx:Int)) (fun w=>by kernel_rfl) (hv 13 _ rfl) ((hfr.row.cell (i:=23) (by decide)).trans (congrArg (fun z:Nat=>some (Value.int .i64 (z:Int))) e)) (hK _ x (Below.refl _ _) nn1 rfl))
  (zk _ _ _ rfl rfl (fun s x k S1 sv1 mv1 hfr hkb hkp hv hl K hK=>zN zdX (ev1 (hv 14 _ rfl)) (Yu (F.nx) hsm11 x) (fun e x' h9=>⟨_,h9.1,hK _ x' h9.2 nn1 rfl⟩))
  (zk _ _ _ rfl rfl (fun s x k S1 sv1 mv1 hfr hkb hkp hv hl K hK=>zN zjS (ev3 (hv 10 _ rfl) (hv 15 _ rfl) (hv 16 _ rfl)) (zkz (F.code) (F.nx) (n) hpc13 (by omega) x) (fun e x' h9=>by obtain⟨v,h1,h2,h3⟩:=h9;exact⟨_,h1,hK _ x' h3 nn1 ⟨_,h2,fun k hk hm=>by have:=(h2.lt k hk).1;have:=hfr.footlt k hm;omega⟩⟩))
  (zk _ _ _ rfl rfl (fun s x k S1 sv1 mv1 hfr hkb hkp hv hl K hK=>by
    obtain⟨b9,h8,_⟩:=(hl 17 _ rfl);exact zN zdj (ev1 rfl) (zdk (zH (F.code) ((F.nx)%M) (n)) (by rw[zaA];omega) _ x (Bys.rds h8)) (fun e x' h9=>⟨_,h9.1,hK _ x' h9.2 nn1 rfl⟩))
  True.intro)))))
  fun g x S' sv' mv' hfr hkb hsub hT=>hok x S' sv' mv' (g 13) hfr hkb hsub (hT 13 _ _ rfl)
theorem zd8 (F:Fz) (sv mv:Value) (n:Nat):(fun i=>if i=23 then .int .i64 (n:Int) else F.cell sv mv i)=({F with nx:=n}:Fz).cell sv mv:=by
 funext i;by_cases h:i=23
 ·subst h;rfl
 ·simp only[Fz.cell,if_neg h]
theorem Fr.set1 {base fb:Nat} {F F':Fz} {S:List Nat} {sv mv:Value} {w:World} (h:Fr base fb F S sv mv w) (o:Nat) (v:Value) (hc:(fun i=>if i=o then v else F.cell sv mv i)=F'.cell sv mv) (hst:F'.st=F.st) (hme:F'.mem=F.mem) (hjd:F'.jd=F.jd) (hcd:F'.code=F.code) (hg:F'.gas<=100000):To base fb F' S w (w.setCell ⟨fb,o,none⟩ v):=
 h.own hst hme hjd hcd hg (hc▸h.row.set o v) ((Kb.refl [fb] w).setCell (Or.inl (by simp)) _)
def Yp (n:Nat) (F:Fz):Option (Unit×Fz):=match zP (ofL (zH F.code (F.nx%M) n)) F with
 |none=>none
 |some (_,F1)=>some ((),{F1 with nx:=F1.nx+n})
theorem zkM {n:Nat} {F F1:Fz} {u:Unit} (h:zP n F=some (u,F1)):F1={F with st:=n::F.st}:=by
 unfold zP at h;split at h
 ·cases h
 ·exact(Prod.mk.inj (Option.some.inj h)).2.symm
theorem zf6 {base fb:Nat} {F:Fz} {S:List Nat} {sv mv:Value} (n:Nat) (hn:n<=32) (hcs:F.code.size<=1000) (hnx:F.nx<=100000) (w:World) (h:Fr base fb F S sv mv w):
  Calls prog 236 #[.pointer (some ⟨fb,0,none⟩),.int .i64 (n:Int)] w (Out (Yp n F) zM base fb S w):=by
 have HB:Hid (F.code.size<=100000):=by show _<=_;omega
 unfold Yp;cases hp:zP (ofL (zH F.code (F.nx%M) n)) F with
 |none=>
  show Calls _ _ _ _ (Out none zM base fb S w);go_enter func236,ntmps236;go_wp2;refine zaX _ _ (by omega) HB.out hn h rfl rfl rfl ?_ ?_
  ·intro u pv s x _ hd hk;exact⟨hd,⟨_,_,rfl⟩,hk⟩
  ·intro x S' sv' mv' z hfr;rw[hp] at hfr;exact absurd hfr (fun h=>zcJ h)
 |some r=>
  obtain⟨u,F1⟩:=r;have hF1:=zkM hp;have hnx1:F1.nx<=100000:=by rw[hF1];exact hnx
  show Calls _ _ _ _ (Out (some ((),{F1 with nx:=F1.nx+n})) zM base fb S w);have HP:=ze hp;clear hF1 hp;go_enter func236,ntmps236;go_wp2;refine zaX _ _ (by omega) HB.out hn h rfl rfl rfl ?_ ?_
  ·intro u pv s x hno;exact absurd hno (fun h=>by rw[HP.out] at h;cases h)
  ·intro x S' sv' mv' z hfr hkb hsub hpc;rw[HP.out] at hfr;have hfr2:Fr base fb F1 S' sv' mv' x:=hfr;have hcn:x.cell? ⟨fb,23,none⟩=some (.int .i64 (F1.nx:Int)):=hfr2.row.cell (i:=23) (by decide);have hzn:=hfr2.row.frozen 23;have HF:=ze hfr2;have HK:=ze hkb;have HS:=ze hsub;clear hfr hfr2 hkb hsub hpc HP;generalize ofL (zH F.code (F.nx%M) n)=y at*;simp only[zL,List.foldl_cons,List.foldl_nil,Act.put];go_wp2;go_end0;exact⟨rfl,To.pre HK.out HS.out (HF.out.set1 23 _ (zd8 F1 sv' mv' (F1.nx+n)) rfl rfl rfl rfl HF.out.gal)⟩
theorem zcA {e0 e1 e2 e3 e4 e5 e6 e7 p0 p1 id:Nat} {q0 q1 q2 q3 q4 q5 q6 q7 q8 q9 q10 q11:String} {base fb:Nat} {F:Fz} {S:List Nat} {sv mv:Value} {Q:Exit->Act->World->Prop} (a:Act) (w:World) (h:Fr base fb F S sv mv w) (hnd:decide ([e0,e1,e2,e3,e4,e5,e6,e7,p0,p1]:List Nat).Nodup=true) (hz:(([e0,e1,e2,e3,e4,e5,e6,e7,p0,p1]:List Nat).all fun d=>decide (d<a.tmps.size))=true) (h0:(!([e0,e1,e2,e3,e4,e5,e6,e7,p0,p1]:List Nat).contains 0)=true) (c0:a.tmps.getD 0 undef=.pointer (some ⟨fb,0,none⟩))
  (hpan:∀u pv s x,(zu (F)=none\/zu (zv (zu (F)))=none)->s.defers=a.defers->Kb S w x->Q (.panic [{v:=.iface u pv,recovered:=false}]) s x)
  (hok:∀(x:World) (S':List Nat) (sv' mv':Value) (b0:Nat) (b1:Nat),Fr base fb (zv (zu (zv (zu (F))))) S' sv' mv' x->Kb S w x->(∀j∈S',j∈S\/w.heap.size<=j)->b0∉S'->w.heap.size<=b0->zS x b0 (ZH (zu (F)))->b1∉S'->w.heap.size<=b1->zS x b1 (ZH (zu (zv (zu (F)))))->Q .normal (zL a [(e0,.pointer (some ⟨fb,0,none⟩)),(e1,.pointer (some ⟨fb,0,none⟩)),(e2,.pointer (some ⟨fb,19,none⟩)),(e3,wv (ZH (zu (F)))),(e4,.pointer (some ⟨fb,0,none⟩)),(e5,.pointer (some ⟨fb,0,none⟩)),(e6,.pointer (some ⟨fb,19,none⟩)),(e7,wv (ZH (zu (zv (zu (F)))))),(p0,.pointer (some ⟨b0,0,none⟩)),(p1,.pointer (some ⟨b1,0,none⟩))]) x):
  (Code.region id #[⟨some e0,.move (.tmp 0),132,q0,#[],none⟩,⟨some e1,.nilCheck (.tmp e0),0,q1,#[⟨0,.data⟩],none⟩,⟨some e2,.fieldAddr 137 (.tmp e1) 10,0,q2,#[⟨1,.data⟩],none⟩,⟨some e3,.call ⟨.value (.func 257),#[.tmp e2],#[135]⟩,24,q3,#[⟨2,.data⟩],none⟩,⟨some e4,.move (.tmp 0),132,q4,#[],none⟩,⟨some e5,.nilCheck (.tmp e4),0,q5,#[⟨4,.data⟩],none⟩,⟨some e6,.fieldAddr 137 (.tmp e5) 10,0,q6,#[⟨5,.data⟩],none⟩,⟨some e7,.call ⟨.value (.func 257),#[.tmp e6],#[135]⟩,24,q7,#[⟨6,.data⟩,⟨3,.chain⟩],none⟩,⟨some p0,.alloc 24,0,q8,#[],none⟩,⟨some p1,.alloc 24,0,q9,#[],none⟩,⟨none,.store 24 (.tmp p0) (.tmp e3),0,q10,#[⟨8,.data⟩,⟨3,.data⟩,⟨7,.chain⟩,⟨0,.phase⟩,⟨1,.phase⟩,⟨2,.phase⟩,⟨3,.phase⟩,⟨4,.textOnly .lateStores⟩,⟨5,.textOnly .lateStores⟩,⟨6,.textOnly .lateStores⟩,⟨7,.textOnly .lateStoresUnsure⟩,⟨8,.phase⟩,⟨9,.phase⟩],none⟩,⟨none,.store 24 (.tmp p1) (.tmp e7),0,q11,#[⟨9,.data⟩,⟨7,.data⟩,⟨10,.chain⟩,⟨0,.phase⟩,⟨1,.phase⟩,⟨2,.phase⟩,⟨3,.phase⟩,⟨4,.phase⟩,⟨5,.phase⟩,⟨6,.phase⟩,⟨7,.phase⟩,⟨8,.phase⟩,⟨9,.phase⟩,⟨10,.phase⟩],none⟩] true).wp prog Q a w:=by
 refine zbh (by kernel_rfl) (by kernel_rfl) base fb (fun k=>match k with|0=>F|1=>zv (zu (F))|_=>zv (zu (zv (zu (F))))) S w h.hs [(some e0,Cst (.pointer (some ⟨fb,0,none⟩))),(some e1,Cst (.pointer (some ⟨fb,0,none⟩))),(some e2,Cst (.pointer (some ⟨fb,19,none⟩))),(some e3,Cst (wv (ZH (zu (F))))),(some e4,Cst (.pointer (some ⟨fb,0,none⟩))),(some e5,Cst (.pointer (some ⟨fb,0,none⟩))),(some e6,Cst (.pointer (some ⟨fb,19,none⟩))),(some e7,Cst (wv (ZH (zu (zv (zu (F))))))),(some p0,Plc),(some p1,Plc),(none,Cst undef),(none,Cst undef)] [3,7] [⟨8,10,p0,ZH (zu (F))⟩,⟨9,11,p1,ZH (zu (zv (zu (F))))⟩] rfl hnd hz ?_ ?_ S sv mv (h.below (Below.refl _ _).drew) (Kb.refl _ _).drew (fun j hj=>Or.inl hj) [(0,.pointer (some ⟨fb,0,none⟩))] ?_ (by show(_&&true)=true;rw[Bool.and_true];exact h0) (by kernel_rfl) (by rfl) (by rfl) ?_ ?_ ?_ ?_ ?_ ?_
 ·intro i d T ht;have hm:=List.mem_of_getElem? ht;simp only[List.mem_cons,List.not_mem_nil,or_false,Prod.mk.injEq] at hm;rcases hm with⟨_,rfl⟩|⟨_,rfl⟩|⟨_,rfl⟩|⟨_,rfl⟩|⟨_,rfl⟩|⟨_,rfl⟩|⟨_,rfl⟩|⟨_,rfl⟩|⟨_,rfl⟩|⟨_,rfl⟩|⟨_,rfl⟩|⟨_,rfl⟩<;>first|exact zcV _|exact zhP|exact zdW _|exact zkl _|exact zdH _ _|exact zci|exact zir _ _|exact stk_stable _|exact wat_stable _|exact nv_stable
 ·intro _ i d T ht;have hm:=List.mem_of_getElem? ht;simp only[List.mem_cons,List.not_mem_nil,or_false,Prod.mk.injEq] at hm;rcases hm with⟨_,rfl⟩|⟨_,rfl⟩|⟨_,rfl⟩|⟨_,rfl⟩|⟨_,rfl⟩|⟨_,rfl⟩|⟨_,rfl⟩|⟨_,rfl⟩|⟨_,rfl⟩|⟨_,rfl⟩|⟨_,rfl⟩|⟨_,rfl⟩<;>first|exact zhh _|exact zhm
 ·intro p hp;simp only[List.mem_cons,List.not_mem_nil,or_false] at hp;rcases hp with rfl
  ·exact c0
 ·intro b hb;simp only[List.mem_cons,List.not_mem_nil,or_false] at hb;rcases hb with rfl|rfl<;>exact⟨rfl,rfl,by kernel_rfl⟩
 ·intro i o d T ho ht hic hnb s x k S1 sv1 mv1 hfr hkb hb hdep hkp;have hi:i<12:=(Array.getElem?_eq_some_iff.1 ho).1;rcases ltq12 hi with rfl|rfl|rfl|rfl|rfl|rfl|rfl|rfl|rfl|rfl|rfl|rfl
  ·obtain rfl:=sj ho;obtain⟨rfl,rfl⟩:=pk ht;exact⟨zg rfl,fun K hK=>zbY 0 e0 _ (hb (0,.pointer (some ⟨fb,0,none⟩)) (List.Mem.head _)) (hK _ x (Below.refl _ _) nn1 rfl)⟩
  ·obtain rfl:=sj ho;obtain⟨rfl,rfl⟩:=pk ht;exact⟨zg rfl,fun K hK=>zmn (hdep ⟨0,.data⟩ (by simp) rfl _ _ rfl) (hK _ x (Below.refl _ _) nn1 rfl)⟩
  ·obtain rfl:=sj ho;obtain⟨rfl,rfl⟩:=pk ht;exact⟨zg rfl,fun K hK=>zcz (hdep ⟨1,.data⟩ (by simp) rfl _ _ rfl) (hK _ x (Below.refl _ _) nn1 rfl)⟩
  ·exact absurd (by simp) hic
  ·obtain rfl:=sj ho;obtain⟨rfl,rfl⟩:=pk ht;exact⟨zg rfl,fun K hK=>zbY 0 e4 _ (hb (0,.pointer (some ⟨fb,0,none⟩)) (List.Mem.head _)) (hK _ x (Below.refl _ _) nn1 rfl)⟩
  ·obtain rfl:=sj ho;obtain⟨rfl,rfl⟩:=pk ht;exact⟨zg rfl,fun K hK=>zmn (hdep ⟨4,.data⟩ (by simp) rfl _ _ rfl) (hK _ x (Below.refl _ _) nn1 rfl)⟩
  ·obtain rfl:=sj ho;obtain⟨rfl,rfl⟩:=pk ht;exact⟨zg rfl,fun K hK=>zcz (hdep ⟨5,.data⟩ (by simp) rfl _ _ rfl) (hK _ x (Below.refl _ _) nn1 rfl)⟩
  ·exact absurd (by simp) hic
  ·exact absurd rfl (hnb _ (List.Mem.head _)).1
  ·exact absurd rfl (hnb _ (List.Mem.tail _ (List.Mem.head _))).1
  ·exact absurd rfl (hnb _ (List.Mem.head _)).2
  ·exact absurd rfl (hnb _ (List.Mem.tail _ (List.Mem.head _))).2
 ·intro p i o d T hp ho ht s x S1 sv1 mv1 hfr hkb hsub hdf hb hdep
  match p,hp with
  |0,hp=>
   obtain rfl:=Option.some.inj (show some 3=some i from hp);obtain rfl:=sj ho;obtain⟨rfl,rfl⟩:=pk ht;refine⟨zg rfl,fun K hK=>zh3 (r:=zu (F)) (val:=wv) zd4 (ev1 (hdep ⟨2,.data⟩ (by simp) rfl _ _ rfl)) (zbC x hfr) (fun u pv x' hrn hk=>hpan u pv s x' (Or.inl hrn) hdf (hkb.trans hk hsub)) (fun y F' S2 sv2 mv2 x' hr h1 h2 h3=> ?_)⟩;refine hK _ S2 sv2 mv2 x' ?_ h2 h3 nn1 ?_
   ·show Fr base fb (zv (zu (F))) S2 sv2 mv2 x';rw[hr];exact h1
   ·show _=wv (ZH (zu (F)))
    first|rfl|(rw[hr];rfl)
  |1,hp=>
   obtain rfl:=Option.some.inj (show some 7=some i from hp);obtain rfl:=sj ho;obtain⟨rfl,rfl⟩:=pk ht;refine⟨zg rfl,fun K hK=>zh3 (r:=zu (zv (zu (F)))) (val:=wv) zd4 (ev1 (hdep ⟨6,.data⟩ (by simp) rfl _ _ rfl)) (zbC x hfr) (fun u pv x' hrn hk=>hpan u pv s x' (Or.inr hrn) hdf (hkb.trans hk hsub)) (fun y F' S2 sv2 mv2 x' hr h1 h2 h3=> ?_)⟩;refine hK _ S2 sv2 mv2 x' ?_ h2 h3 nn1 ?_
   ·show Fr base fb (zv (zu (zv (zu (F))))) S2 sv2 mv2 x';rw[hr];exact h1
   ·show _=wv (ZH (zu (zv (zu (F)))))
    first|rfl|(rw[hr];rfl)
  |_+2,hp=>cases hp
 ·intro b hb o ho s x;simp only[List.mem_cons,List.not_mem_nil,or_false] at hb;rcases hb with rfl|rfl
  ·obtain rfl:=sj ho;exact⟨zg rfl,fun K hK=>zbu hK⟩
  ·obtain rfl:=sj ho;exact⟨zg rfl,fun K hK=>zbu hK⟩
 ·intro b hb o ho s x bl f S1 c1 hsl hrow hdep;simp only[List.mem_cons,List.not_mem_nil,or_false] at hb;rcases hb with rfl|rfl
  ·obtain rfl:=sj ho;exact⟨zg rfl,fun K hK=>zbi (n:=ZH (zu (F))) hsl (hdep ⟨3,.data⟩ (by simp) rfl _ _ rfl) hrow (fun x' hr2 e=>by rw[e];exact hK)⟩
  ·obtain rfl:=sj ho;exact⟨zg rfl,fun K hK=>zbi (n:=ZH (zu (zv (zu (F))))) hsl (hdep ⟨7,.data⟩ (by simp) rfl _ _ rfl) hrow (fun x' hr2 e=>by rw[e];exact hK)⟩
 ·intro vs x S1 sv1 mv1 hfr hkb hsub hl hT hB;obtain⟨v0,v1,v2,v3,v4,v5,v6,v7,v8,v9,v10,v11,rfl⟩:=lenq12 (hl:vs.length=12);obtain rfl:v0=.pointer (some ⟨fb,0,none⟩):=hT 0 _ _ rfl;obtain rfl:v1=.pointer (some ⟨fb,0,none⟩):=hT 1 _ _ rfl;obtain rfl:v2=.pointer (some ⟨fb,19,none⟩):=hT 2 _ _ rfl;obtain rfl:v3=wv (ZH (zu (F))):=hT 3 _ _ rfl;obtain rfl:v4=.pointer (some ⟨fb,0,none⟩):=hT 4 _ _ rfl;obtain rfl:v5=.pointer (some ⟨fb,0,none⟩):=hT 5 _ _ rfl;obtain rfl:v6=.pointer (some ⟨fb,19,none⟩):=hT 6 _ _ rfl;obtain rfl:v7=wv (ZH (zu (zv (zu (F))))):=hT 7 _ _ rfl;obtain⟨b0,e8,n8,l8⟩:=(hT 8 _ _ rfl:Plc (2,mv1) S1 v8 x);subst e8;obtain⟨b1,e9,n9,l9⟩:=(hT 9 _ _ rfl:Plc (2,mv1) S1 v9 x);subst e9;exact hok x S1 sv1 mv1 b0 b1 hfr hkb hsub n8 (hB _ (List.Mem.head _) _ rfl).1 (hB _ (List.Mem.head _) _ rfl).2 n9 (hB _ (List.Mem.tail _ (List.Mem.head _)) _ rfl).1 (hB _ (List.Mem.tail _ (List.Mem.head _)) _ rfl).2
end cin
end Go.Proofs.YtohoajjdoihekaaGreatDoor
