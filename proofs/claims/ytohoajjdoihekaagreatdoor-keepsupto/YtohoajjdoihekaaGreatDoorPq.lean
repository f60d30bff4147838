import Derived.Test.YtohoajjdoihekaaGreatDoorPc
set_option linter.unusedVariables false
set_option linter.unusedSimpArgs false
namespace Go.Proofs.YtohoajjdoihekaaGreatDoor
namespace cin
open Go.RowKit Go.Proofs.Tryz Tryz
set_option maxRecDepth 100000
set_option maxHeartbeats 8000000
section
theorem zml (w:World) (d:Option Addr) (c:Nat) (s:ByteArray) (ty sT:TypeId):(Builtin.copy_ #[26,sT] ty #[.slice d 0 c,.string s]).run prog w=.ok (goInt 0) w:=by
 have hs:=zkA;cases hq:prog.info? 5 with
 |none=>rw[hq] at hs;cases hs
 |some i=>
  cases d<;>simp[Builtin.copy_,run_underlying Yz,Builtin.lenOf,Builtin.firstCells,sizeOf,typeInfo,hq,storeCells]
theorem zmz {base fb:Nat} {F:Fz} {S:List Nat} {sv mv v:Value} {x:World} {a b:Nat} (s:ByteArray) (hf:Fr base fb F S sv mv x) (hp:PartOf mv v a b) (ty sT:TypeId):
  ∃r x',(Builtin.copy_ #[26,sT] ty #[v,.string s]).run prog x=.ok r x'/\Fr base fb {F with mem:=splice F.mem a ((bl s).take b)} S sv mv x'/\Kb S x x':=by
 obtain⟨ad,c,rfl,hbc,hp⟩:=hp;by_cases hb:b=0
 ·subst hb;refine⟨_,x,zml x ad c s ty sT, ?_,Kb.refl _ _⟩;rw[List.take_zero,zfj];exact hf
 ·obtain⟨g,len,cap,rfl,rfl,hle⟩:=hp hb;rcases hf.me with⟨hxl,⟨h1,_⟩|⟨g',cap',cur,h1,h2,h3,h4,h5,h6,h7⟩⟩
  ·injection h1 with h1;cases h1
  ·injection h1 with h1 h8 h9
   injection h1 with h1
   injection h1 with h1
   subst h1 h8 h9;have hL:((bl s).take b).length=Nat.min s.size b:=by rw[List.length_take,zaT];exact Nat.min_comm _ _
   have hLb:((bl s).take b).length<=b:=by rw[List.length_take];omega
   have hrun:=zja x g a b c (Nat.min s.size b) s cur 5 h3 rfl (by rw[<-hL,h6];omega) ty sT
   have e:((bl s).map u8v).take (Nat.min s.size b)=((bl s).take b).map u8v:=by
    rw[<-List.map_take];congr 1;by_cases hh:s.size<=b
    ·rw[show Nat.min s.size b=s.size from Nat.min_eq_left hh,List.take_of_length_le (by rw[zaT];omega),List.take_of_length_le (by rw[zaT];omega)]
    ·rw[show Nat.min s.size b=b from Nat.min_eq_right (by omega)]
   rw[e,<-hL] at hrun;generalize(bl s).take b=L at*;refine⟨_,_,hrun, ?_, ?_⟩
   ·refine hf.written (m:=splice F.mem a L) (length_splice _ _ _ (by omega)) ((Kb.refl _ x).setRow (Or.inl (by simp[Value.ownBlock])) _) ?_;refine⟨by rw[List.length_map];omega,Or.inr ⟨g,cap,_, ?_,h2,setRow_heap x g _ _ _ _ h3, ?_,h5, ?_, ?_⟩⟩
    ·rw[length_splice _ _ _ (by omega)]
    ·rw[length_splice _ _ _ (by omega)];exact h4
    ·have h9:cur.toList.length=cap*1:=by rw[<-h6];rfl
     show(_:List Value).length=_;rw[List.length_append,List.length_append,List.length_take,List.length_drop,List.length_map,h9];omega
    ·rw[length_splice _ _ _ (by omega),ze0,<-h7]
     have e:∀(q:List Value),q=splice cur.toList a (L.map u8v)->q.take (F.mem.length*1)=splice (cur.toList.take (F.mem.length*1)) a (L.map u8v):=fun q hq=>by
      rw[hq];exact zdN _ _ _ _ (by rw[List.length_map];omega) (by simp;omega)
     refine e _ ?_;unfold splice;rw[List.length_map,List.append_assoc]
   ·refine(Kb.refl _ x).setRow (Or.inl ?_) _;rw[hf.foot];exact List.mem_cons_of_mem _ (List.mem_append_right _ (by simp[Value.ownBlock]))
section
variable {s:Act} {x:World} {pos:String} {af:Array Edge} {gd:Option (Nat×Bool)} {K:Act->World->Prop} {Q:Exit->Act->World->Prop}
theorem st_addI {t u d a b:Nat} {ty:TypeId} (h1:s.tmps.getD t undef=.int .i64 (a:Int)) (h2:s.tmps.getD u undef=.int .i64 (b:Int)) (hl:a+b<=10000000) (hK:K (s.put (some d) (.int .i64 ((a+b:Nat):Int))) x):
  Oper.wp prog ⟨some d,.binOp .add 3 (.tmp t) (.tmp u) 3,ty,pos,af,gd⟩ s x K Q:=by
 have f1:s.eval (.tmp t)=.int .i64 (a:Int):=h1;have f2:s.eval (.tmp u)=.int .i64 (b:Int):=h2;have e:((a+b:Nat):Int)=(a:Int)+(b:Int):=by omega
 rw[e] at hK;have hw:IntKind.i64.wrap ((a:Int)+(b:Int))=(a:Int)+(b:Int):=by simp[IntKind.wrap,IntKind.bits,IntKind.signed];omega
 go_simp;exact hK
theorem ziX {d g n:Nat} {ty:TypeId} (c0:x.cell? ⟨g,0,none⟩=some (.int .u64 (za n 0))) (c1:x.cell? ⟨g,1,none⟩=some (.int .u64 (za n 1))) (c2:x.cell? ⟨g,2,none⟩=some (.int .u64 (za n 2))) (c3:x.cell? ⟨g,3,none⟩=some (.int .u64 (za n 3))) (hK:K (s.put (some d) (wv n)) x):
  Oper.wp prog ⟨some d,.load 24 (.global g),ty,pos,af,gd⟩ s x K Q:=by
 go_simp;exact hK
end
theorem ziP (F:Fz) (sv mv:Value) (v:ByteArray):(fun i=>if i=21 then .string v else F.cell sv mv i)=({F with ret:=v}:Fz).cell sv mv:=by
 funext i;by_cases h:i=21
 ·subst h;rfl
 ·simp only[Fz.cell,if_neg h]
def zeF (F:Fz) (g:Nat) (out:ByteArray) (a b:Nat):Fz:={F with gas:=F.gas+g,ret:=out,mem:=splice F.mem a ((bl out).take b)}
def yQ (F:Fz) (st g:Nat) (out:ByteArray) (a b:Nat):Option (Unit×Fz):=zl (if st=0 then 1 else 0) (zeF F g out a b)
theorem zig {α:Type} {r:Option (α×Fz)} {val:α->Value} {base fb:Nat} {S:List Nat} {w w1 w':World} {e:Ending} (hk:Kb S w w1) (h:Out r val base fb S w1 e w'):Out r val base fb S w e w':=by
 cases r with
 |none=>exact⟨h.1,hk.trans h.2 (fun i hi=>Or.inl hi)⟩
 |some y=>obtain⟨a,F'⟩:=y;exact⟨h.1,To.pre hk (fun k hk=>Or.inl hk) h.2⟩
theorem zhA {base fb:Nat} {F:Fz} {S:List Nat} {sv mv:Value} {room lv:Value} {a b:Nat} (st g:Nat) (out:ByteArray) (hst:st<=255) (hlv:∃ad n c,lv=.slice ad n c) (w:World) (h:Fr base fb F S sv mv w) (hg:F.gas+g<=100000) (hp:PartOf mv room a b):
  Calls prog 280 #[.pointer (some ⟨fb,0,none⟩),YL st g out lv,room] w (Out (yQ F st g out a b) zx base fb S w):=by
 obtain⟨lad,ln,lc,rfl⟩:=hlv;have hB:Below w.heap.size w (w.alloc (.cells (zdn st g out (.slice lad ln lc)) 38)):=bal (Below.refl _ w) _;have h1:=h.below hB;have hlt:=h1.row.lt;have cg:=h1.row.cell (i:=16) (by decide);have fg:=h1.row.frozen 16;rw[show F.cell sv mv 16=.int .i64 (F.gas:Int) from rfl] at cg;have b0:(w.alloc (.cells (zdn st g out (.slice lad ln lc)) 38)).cell? ⟨w.heap.size,0,none⟩=some (.int .u8 (st:Int)):=by simp[go_sem]
 have b1:(w.alloc (.cells (zdn st g out (.slice lad ln lc)) 38)).cell? ⟨w.heap.size,1,none⟩=some (.int .i64 (g:Int)):=by simp[go_sem]
 have b2:(w.alloc (.cells (zdn st g out (.slice lad ln lc)) 38)).cell? ⟨w.heap.size,2,none⟩=some (.string out):=by simp[go_sem]
 have hmlt:w.heap.size<(w.alloc (.cells (zdn st g out (.slice lad ln lc)) 38)).heap.size:=by simp
 have hnS:w.heap.size∉S:=fun hm=>absurd (h.footlt _ hm) (Nat.lt_irrefl _)
 obtain⟨w1,HW⟩:∃w1,Hid (w1=w.alloc (.cells (zdn st g out (.slice lad ln lc)) 38)):=⟨_,rfl⟩;obtain⟨mb,HMB⟩:∃mb,Hid (mb=w.heap.size):=⟨_,rfl⟩;rw[<-HW.out,<-HMB.out] at b0 b1 b2 hmlt;rw[<-HW.out] at h1 hlt cg fg hB;rw[<-HMB.out] at hnS;have HB:=zb hB;have H1:=zb h1;obtain⟨adr,cr,rfl,hp2⟩:=hp;have HP:Hid (PartOf mv (.slice adr b cr) a b):=⟨adr,cr,rfl,hp2⟩;clear h h1 hB hp2;unfold yQ;obtain⟨n,HN⟩:∃n:Nat,Hid (n=if st=0 then 1 else 0):=⟨_,rfl⟩;obtain⟨F3,HF3⟩:∃F3:Fz,Hid (F3=zeF F g out a b):=⟨_,rfl⟩;rw[<-HN.out,<-HF3.out];go_enter func280,ntmps280;go_wp2;rw[<-HW.out,<-HMB.out]
 refine zq (PhC w1 ⟨fb,16,none⟩ (.int .i64 ((F.gas+g:Nat):Int))) (fun _ _ _=>True) [(0,(.pointer (some ⟨fb,0,none⟩))),(4,(.pointer (some ⟨mb,0,none⟩)))] [(some 6,.v (.pointer (some ⟨fb,0,none⟩))),(some 7,.v (.pointer (some ⟨fb,0,none⟩))),(some 8,.v (.pointer (some ⟨fb,16,none⟩))),(some 9,.v (.int .i64 (F.gas:Int))),(some 10,.v (.pointer (some ⟨mb,1,none⟩))),(some 11,.v (.int .i64 (g:Int))),(some 12,.v (.int .i64 ((F.gas+g:Nat):Int))),(some 13,.v (.pointer (some ⟨fb,0,none⟩))),(some 14,.v (.pointer (some ⟨fb,16,none⟩))),(none,.v undef)] [9] [3,5,6] (by kernel_rfl) (by rfl) (by rfl) (by kernel_rfl) ((Below.refl _ _).drew) (zd8)
   (zf _ _ _ rfl rfl
   (fun s x hph hdf hv hl K hK=>by
    have hx:Below w1.heap.size w1 x:=hph;exact zdr (v:=((F.gas+g:Nat):Int)) (hv 14 _ rfl) (hv 12 _ rfl) ((hx.cell (by exact hlt)).trans cg) ((hx.frozen (by exact hlt)).trans fg) (hK _ _ ⟨x,hx,Below.refl _ _⟩ trivial (fun _=>rfl) rfl))
   True.intro)
   (zf _ _ _ rfl rfl
   (fun k s x hk hlo hhi hph hdf hv hl K hK=>by
    have hx:Below w1.heap.size w1 x:=zam hph (hhi 0 9 rfl (by kernel_rfl));exact zv (v:=.int .i64 (F.gas:Int)) (fun w=>by kernel_rfl) (hv 8 _ rfl) ((hx.cell (by exact hlt)).trans cg) (hK _ x (Below.refl _ _) nn1 rfl))
   (zf _ _ _ rfl rfl
   (fun k s x hk hlo hhi hph hdf hv hl K hK=>by
    have hx:Below w1.heap.size w1 x:=zam hph (hhi 0 9 rfl (by kernel_rfl));exact zv (v:=.int .i64 (g:Int)) (fun w=>by kernel_rfl) (hv 10 _ rfl) ((hx.cell (by exact hmlt)).trans b1) (hK _ x (Below.refl _ _) nn1 rfl))
   (zf _ _ _ rfl rfl
   (fun k s x hk hlo hhi hph hdf hv hl K hK=>by
    exact st_addI (a:=F.gas) (b:=g) (hv 9 _ rfl) (hv 11 _ rfl) (by omega) (hK _ x (Below.refl _ _) nn1 rfl))
   True.intro)))
   (fun _ _ _ h=>(zo rfl h).elim) (fun _ _ _ h=>(zo rfl h).elim) ?_
 intro gg x hph _;obtain⟨y,hy1,hy2⟩:PhC w1 ⟨fb,16,none⟩ (.int .i64 ((F.gas+g:Nat):Int)) 1 x:=hph;have hkx:Kb [fb] w1 x:=((Kb.of_below (S:=[fb]) hy1).setCell (p:=⟨fb,16,none⟩) (Or.inl (by simp)) _).below hy2
 have hfx:Fr base fb {F with gas:=F.gas+g} S sv mv x:=by
  refine((H1.out.below hy1).own' (F':={F with gas:=F.gas+g}) rfl rfl rfl rfl hg (Yn (H1.out.below hy1).row (zak F sv mv (F.gas+g))) ((Kb.refl [fb] y).setCell (p:=⟨fb,16,none⟩) (Or.inl (by simp)) _)).below hy2
 have cr1:=hfx.row.cell (i:=21) (by decide);have fr1:=hfx.row.frozen 21;change _=some (Value.string F.ret) at cr1;have hmf:mb≠fb:=fun e=>hnS (by rw[e,H1.out.foot];simp)
 have hbx:=hkx.block mb hmlt (by simpa using hmf);have b0':=(World.cell?_of_block (a:=⟨mb,0,none⟩) hbx).trans b0;have b2':=(World.cell?_of_block (a:=⟨mb,2,none⟩) hbx).trans b2;obtain⟨F2,HF2⟩:∃F2:Fz,Hid (F2={F with gas:=F.gas+g,ret:=out}):=⟨_,rfl⟩
 have hf2:Fr base fb F2 S sv mv (x.setCell ⟨fb,21,none⟩ (.string out)):=by
  rw[HF2.out];exact hfx.own' (F':={F with gas:=F.gas+g,ret:=out}) rfl rfl rfl rfl hg (Yn hfx.row (ziP _ sv mv out)) ((Kb.refl [fb] x).setCell (p:=⟨fb,21,none⟩) (Or.inl (by simp)) _)
 obtain⟨r,x',hrun,hf3,hk3⟩:=zmz out hf2 HP.out 3 9;have HX2:Hid (Kb [fb] w1 (x.setCell ⟨fb,21,none⟩ (.string out))):=hkx.setCell (p:=⟨fb,21,none⟩) (Or.inl (by simp)) _;have hne2:(⟨fb,21,none⟩:Addr).block≠mb:=fun e=>hmf e.symm
 have HFB:Hid (fb∈S):=by show fb∈S;rw[H1.out.foot];simp
 have HK3:Hid (Kb S w x'):=by
  refine((Kb.of_below (S:=S) HB.out).trans HX2.out (fun i hi=>Or.inl (by rw[List.mem_singleton.1 hi];exact HFB.out))).trans hk3 (fun i hi=>Or.inl hi)
 have hkS:Kb S w1 x':=(HX2.out.mono (fun i hi=>by rw[List.mem_singleton.1 hi];exact HFB.out)).trans hk3 (fun i hi=>Or.inl hi);have hb0:x'.cell? ⟨mb,0,none⟩=some (.int .u8 (st:Int)):=(World.cell?_of_block (a:=⟨mb,0,none⟩) (hkS.block mb hmlt hnS)).trans b0;have HS3:Hid (∀k∈S,k∈S\/w.heap.size<=k):=fun k hk=>Or.inl hk
 have hf3:Fr base fb F3 S sv mv x':=by
  rw[HF3.out];rw[HF2.out] at hf3;exact hf3
 clear hkS hk3 hf2 hfx hkx hy1 hy2 b0 b1 b2 cg fg HX2 hbx;simp only[yy,yw,yx,Zg,zF,List.foldl_cons,List.foldl_nil,Act.put];simp only[sx9];by_cases hs0:st=0
 ·subst hs0;have hn1:n=1:=HN.out;subst hn1;go_wp2
  refine zq (PhF base fb (fun k=>match k with|0=>F3|_=>zh (zl 1 F3)) S x') (fun _ _ _=>True) [(0,(.pointer (some ⟨fb,0,none⟩)))] [(some 27,.v (.pointer (some ⟨fb,0,none⟩))),(some 28,.v (.pointer (some ⟨fb,0,none⟩))),(some 29,.v (.pointer (some ⟨fb,19,none⟩))),(some 30,.v (wv 1)),(some 31,.v (.tuple #[]))] [4] [3] (by kernel_rfl) (by rfl) (by rfl) (by kernel_rfl) (PhF.init hf3) (PhF.bel)
    (zf _ _ _ rfl rfl
    (fun s x hph hdf hv hl K hK=>by
     refine ZP (val:=zx) (c:=.tuple #[]) hph hv (fun S' sv mv hf=>yg (1) x hf) (by kernel_rfl) rfl (fun _ _ _=>rfl) (fun hno u pv x' hk=> ?_) (fun x' hp=>hK _ x' hp trivial nn1 rfl);refine⟨hdf, ?_⟩;show Out (zl 1 F3) zx base fb S w _ _;rw[show zl 1 F3=none from hno];exact⟨⟨_,_,rfl⟩,HK3.out.trans hk HS3.out⟩)
    True.intro)
    (zf _ _ _ rfl rfl
    (fun k s x hk hlo hhi hph hdf hv hl K hK=>by
     refine zW hv (ZI 1 (by omega) x) (by kernel_rfl) (fun v y h=> ?_) (fun l y h=>absurd h.1 (by simp)) (fun y h=>absurd h.1 (by simp));obtain⟨e,hb⟩:=h;injection e with e
     subst e;exact hK _ y hb nn1 rfl)
    True.intro)
    (fun _ _ _ h=>(zo rfl h).elim) (fun _ _ _ h=>(zo rfl h).elim) ?_
  intro gg z hz _;have HO:=zb (zig HK3.out (PhF.out1 hz));clear hz hf3;simp only[yy,yw,yx,Zg,zF,List.foldl_cons,List.foldl_nil,Act.put];simp only[sx9];go_wp2;go_end0;exact HO.out
 ·have hn0:n=0:=HN.out.trans (if_neg hs0);subst hn0;have hsz:((st:Int)==0)=false:=by simp;omega
  go_wp2
  refine zq (PhF base fb (fun k=>match k with|0=>F3|_=>zh (zl 0 F3)) S x') (fun _ _ _=>True) [(0,(.pointer (some ⟨fb,0,none⟩)))] [(some 32,.v (.pointer (some ⟨fb,0,none⟩))),(some 33,.v (.pointer (some ⟨fb,0,none⟩))),(some 34,.v (.pointer (some ⟨fb,19,none⟩))),(some 35,.v (wv 0)),(some 36,.v (.tuple #[]))] [4] [3] (by kernel_rfl) (by rfl) (by rfl) (by kernel_rfl) (PhF.init hf3) (PhF.bel)
    (zf _ _ _ rfl rfl
    (fun s x hph hdf hv hl K hK=>by
     refine ZP (val:=zx) (c:=.tuple #[]) hph hv (fun S' sv mv hf=>yg (0) x hf) (by kernel_rfl) rfl (fun _ _ _=>rfl) (fun hno u pv x' hk=> ?_) (fun x' hp=>hK _ x' hp trivial nn1 rfl);refine⟨hdf, ?_⟩;show Out (zl 0 F3) zx base fb S w _ _;rw[show zl 0 F3=none from hno];exact⟨⟨_,_,rfl⟩,HK3.out.trans hk HS3.out⟩)
    True.intro)
    (zf _ _ _ rfl rfl
    (fun k s x hk hlo hhi hph hdf hv hl K hK=>by
     obtain⟨S',sv',mv',hf,_⟩:=hph;exact ziX (n:=0) ((hf.zr 0 (by omega)).trans (by rw[zs])) ((hf.zr 1 (by omega)).trans (by rw[zs])) ((hf.zr 2 (by omega)).trans (by rw[zs])) ((hf.zr 3 (by omega)).trans (by rw[zs])) (hK _ x (Below.refl _ _) nn1 rfl))
    True.intro)
    (fun _ _ _ h=>(zo rfl h).elim) (fun _ _ _ h=>(zo rfl h).elim) ?_
  intro gg z hz _;have HO:=zb (zig HK3.out (PhF.out1 hz));clear hz hf3;simp only[yy,yw,yx,Zg,zF,List.foldl_cons,List.foldl_nil,Act.put];simp only[sx9];go_wp2;go_end0;exact HO.out
end
theorem zhP:Own 276:=fun _ _=>by kernel_rfl
theorem call_r0 {base fb:Nat} {F:Fz} {S:List Nat} {sv mv:Value} {Q:Exit->Act->World->Prop} (a:Act) (w:World) {op:Nat} (hop:op<=255) (h:Fr base fb F S sv mv w) (hsz:decide (24<a.tmps.size)=true) (c1:a.tmps.getD 1 undef=.int .u8 (op:Int)) (c0:a.tmps.getD 0 undef=.pointer (some ⟨fb,0,none⟩))
  (hpan:∀u pv s x,(zi (F)=none\/zi (zh (zi (F)))=none\/Zt op (zh (zi (zh (zi (F)))))=none)->s.defers=a.defers->Kb S w x->Q (.panic [{v:=.iface u pv,recovered:=false}]) s x)
  (hok:∀(x:World) (S':List Nat) (sv' mv':Value) (b0:Nat) (b1:Nat) (b2:Nat),Fr base fb (zh (Zt op (zh (zi (zh (zi (F))))))) S' sv' mv' x->Kb S w x->(∀j∈S',j∈S\/w.heap.size<=j)->b0∉S'->w.heap.size<=b0->zX x b0 (zA (zi (F)))->b1∉S'->w.heap.size<=b1->zX x b1 (zA (zi (zh (zi (F)))))->b2∉S'->w.heap.size<=b2->zX x b2 (zA (Zt op (zh (zi (zh (zi (F)))))))->Q .normal (zF a [(14,.pointer (some ⟨fb,0,none⟩)),(15,.pointer (some ⟨fb,0,none⟩)),(16,.pointer (some ⟨fb,19,none⟩)),(17,wv (zA (zi (F)))),(18,.pointer (some ⟨fb,0,none⟩)),(19,.pointer (some ⟨fb,0,none⟩)),(20,.pointer (some ⟨fb,19,none⟩)),(21,wv (zA (zi (zh (zi (F)))))),(22,.pointer (some ⟨fb,0,none⟩)),(23,.int .u8 (op:Int)),(24,wv (zA (Zt op (zh (zi (zh (zi (F)))))))),(4,.pointer (some ⟨b0,0,none⟩)),(5,.pointer (some ⟨b1,0,none⟩)),(6,.pointer (some ⟨b2,0,none⟩))]) x):
  (Code.region 0 #[⟨some 14,.move (.tmp 0),132,"call.go:14",#[],none⟩,⟨some 15,.nilCheck (.tmp 14),0,"call.go:14",#[⟨0,.data⟩],none⟩,⟨some 16,.fieldAddr 137 (.tmp 15) 10,0,"call.go:14",#[⟨1,.data⟩],none⟩,⟨some 17,.call ⟨.value (.func 257),#[.tmp 16],#[135]⟩,24,"call.go:14",#[⟨2,.data⟩],none⟩,⟨some 18,.move (.tmp 0),132,"call.go:14",#[],none⟩,⟨some 19,.nilCheck (.tmp 18),0,"call.go:14",#[⟨4,.data⟩],none⟩,⟨some 20,.fieldAddr 137 (.tmp 19) 10,0,"call.go:14",#[⟨5,.data⟩],none⟩,⟨some 21,.call ⟨.value (.func 257),#[.tmp 20],#[135]⟩,24,"call.go:14",#[⟨6,.data⟩,⟨3,.chain⟩],none⟩,⟨some 22,.move (.tmp 0),132,"call.go:14",#[],none⟩,⟨some 23,.move (.tmp 1),5,"call.go:14",#[],none⟩,⟨some 24,.call ⟨.value (.func 276),#[.tmp 22,.tmp 23],#[132,5]⟩,24,"call.go:14",#[⟨8,.data⟩,⟨9,.data⟩,⟨7,.chain⟩],none⟩,⟨some 4,.alloc 24,0,"call.go:14",#[],none⟩,⟨some 5,.alloc 24,0,"call.go:14",#[],none⟩,⟨some 6,.alloc 24,0,"call.go:14",#[],none⟩,⟨none,.store 24 (.tmp 4) (.tmp 17),0,"call.go:14",#[⟨11,.data⟩,⟨3,.data⟩,⟨10,.chain⟩,⟨0,.phase⟩,⟨1,.phase⟩,⟨2,.phase⟩,⟨3,.phase⟩,⟨4,.textOnly .lateStores⟩,⟨5,.textOnly .lateStores⟩,⟨6,.textOnly .lateStores⟩,⟨7,.textOnly .lateStoresUnsure⟩,⟨8,.textOnly .lateStores⟩,⟨9,.textOnly .lateStores⟩,⟨10,.textOnly .lateStoresUnsure⟩,⟨11,.phase⟩,⟨12,.phase⟩,⟨13,.phase⟩],none⟩,⟨none,.store 24 (.tmp 5) (.tmp 21),0,"call.go:14",#[⟨12,.data⟩,⟨7,.data⟩,⟨14,.chain⟩,⟨0,.phase⟩,⟨1,.phase⟩,⟨2,.phase⟩,⟨3,.phase⟩,⟨4,.phase⟩,⟨5,.phase⟩,⟨6,.phase⟩,⟨7,.phase⟩,⟨8,.textOnly .lateStores⟩,⟨9,.textOnly .lateStores⟩,⟨10,.textOnly .lateStoresUnsure⟩,⟨11,.phase⟩,⟨12,.phase⟩,⟨13,.phase⟩,⟨14,.phase⟩],none⟩,⟨none,.store 24 (.tmp 6) (.tmp 24),0,"call.go:14",#[⟨13,.data⟩,⟨10,.data⟩,⟨15,.chain⟩,⟨0,.phase⟩,⟨1,.phase⟩,⟨2,.phase⟩,⟨3,.phase⟩,⟨4,.phase⟩,⟨5,.phase⟩,⟨6,.phase⟩,⟨7,.phase⟩,⟨8,.phase⟩,⟨9,.phase⟩,⟨10,.phase⟩,⟨11,.phase⟩,⟨12,.phase⟩,⟨13,.phase⟩,⟨14,.phase⟩,⟨15,.phase⟩],none⟩] true).wp prog Q a w:=by
 have hsz:=of_decide_eq_true hsz;refine YP (by kernel_rfl) (by kernel_rfl) base fb (fun k=>match k with|0=>F|1=>zh (zi (F))|2=>zh (zi (zh (zi (F))))|_=>zh (Zt op (zh (zi (zh (zi (F))))))) S w h.hs [(some 14,Cst (.pointer (some ⟨fb,0,none⟩))),(some 15,Cst (.pointer (some ⟨fb,0,none⟩))),(some 16,Cst (.pointer (some ⟨fb,19,none⟩))),(some 17,Cst (wv (zA (zi (F))))),(some 18,Cst (.pointer (some ⟨fb,0,none⟩))),(some 19,Cst (.pointer (some ⟨fb,0,none⟩))),(some 20,Cst (.pointer (some ⟨fb,19,none⟩))),(some 21,Cst (wv (zA (zi (zh (zi (F))))))),(some 22,Cst (.pointer (some ⟨fb,0,none⟩))),(some 23,Cst (.int .u8 (op:Int))),(some 24,Cst (wv (zA (Zt op (zh (zi (zh (zi (F))))))))),(some 4,Plc),(some 5,Plc),(some 6,Plc),(none,Cst undef),(none,Cst undef),(none,Cst undef)] [3,7,10] [⟨11,14,4,zA (zi (F))⟩,⟨12,15,5,zA (zi (zh (zi (F))))⟩,⟨13,16,6,zA (Zt op (zh (zi (zh (zi (F))))))⟩] rfl (by rfl) ?_ ?_ ?_ S sv mv (h.below (Below.refl _ _).drew) (Kb.refl _ _).drew (fun j hj=>Or.inl hj) [(1,.int .u8 (op:Int)),(0,.pointer (some ⟨fb,0,none⟩))] ?_ (by rfl) (by kernel_rfl) (by rfl) (by rfl) ?_ ?_ ?_ ?_ ?_ ?_
 ·refine List.all_eq_true.2 fun d hd=>decide_eq_true ?_
  have hd2:d∈([14,15,16,17,18,19,20,21,22,23,24,4,5,6]:List Nat):=hd;simp at hd2;omega
 ·intro i d T ht;have hm:=List.mem_of_getElem? ht;simp only[List.mem_cons,List.not_mem_nil,or_false,Prod.mk.injEq] at hm;rcases hm with⟨_,rfl⟩|⟨_,rfl⟩|⟨_,rfl⟩|⟨_,rfl⟩|⟨_,rfl⟩|⟨_,rfl⟩|⟨_,rfl⟩|⟨_,rfl⟩|⟨_,rfl⟩|⟨_,rfl⟩|⟨_,rfl⟩|⟨_,rfl⟩|⟨_,rfl⟩|⟨_,rfl⟩|⟨_,rfl⟩|⟨_,rfl⟩|⟨_,rfl⟩<;>first|exact za9 _|exact zca|exact zbL _|exact zdA _|exact YU _ _|exact zag|exact zaZ _ _|exact za6 _|exact za3 _|exact Yt
 ·intro _ i d T ht;have hm:=List.mem_of_getElem? ht;simp only[List.mem_cons,List.not_mem_nil,or_false,Prod.mk.injEq] at hm;rcases hm with⟨_,rfl⟩|⟨_,rfl⟩|⟨_,rfl⟩|⟨_,rfl⟩|⟨_,rfl⟩|⟨_,rfl⟩|⟨_,rfl⟩|⟨_,rfl⟩|⟨_,rfl⟩|⟨_,rfl⟩|⟨_,rfl⟩|⟨_,rfl⟩|⟨_,rfl⟩|⟨_,rfl⟩|⟨_,rfl⟩|⟨_,rfl⟩|⟨_,rfl⟩<;>first|exact zbr _|exact zbt
 ·intro p hp;simp only[List.mem_cons,List.not_mem_nil,or_false] at hp;rcases hp with rfl|rfl
  ·exact c1
  ·exact c0
 ·intro b hb;simp only[List.mem_cons,List.not_mem_nil,or_false] at hb;rcases hb with rfl|rfl|rfl<;>exact⟨rfl,rfl,by kernel_rfl⟩
 ·intro i o d T ho ht hic hnb s x k S1 sv1 mv1 hfr hkb hb hdep hkp;have hi:i<17:=(Array.getElem?_eq_some_iff.1 ho).1;rcases ltq17 hi with rfl|rfl|rfl|rfl|rfl|rfl|rfl|rfl|rfl|rfl|rfl|rfl|rfl|rfl|rfl|rfl|rfl
  ·obtain rfl:=sj ho;obtain⟨rfl,rfl⟩:=pk ht;exact⟨zt rfl,fun K hK=>YS 0 14 _ (hb (0,.pointer (some ⟨fb,0,none⟩)) (List.Mem.tail _ (List.Mem.head _))) (hK _ x (Below.refl _ _) nn1 rfl)⟩
  ·obtain rfl:=sj ho;obtain⟨rfl,rfl⟩:=pk ht;exact⟨zt rfl,fun K hK=>zck (hdep ⟨0,.data⟩ (by simp) rfl _ _ rfl) (hK _ x (Below.refl _ _) nn1 rfl)⟩
  ·obtain rfl:=sj ho;obtain⟨rfl,rfl⟩:=pk ht;exact⟨zt rfl,fun K hK=>Ya (hdep ⟨1,.data⟩ (by simp) rfl _ _ rfl) (hK _ x (Below.refl _ _) nn1 rfl)⟩
  ·exact absurd (by simp) hic
  ·obtain rfl:=sj ho;obtain⟨rfl,rfl⟩:=pk ht;exact⟨zt rfl,fun K hK=>YS 0 18 _ (hb (0,.pointer (some ⟨fb,0,none⟩)) (List.Mem.tail _ (List.Mem.head _))) (hK _ x (Below.refl _ _) nn1 rfl)⟩
  ·obtain rfl:=sj ho;obtain⟨rfl,rfl⟩:=pk ht;exact⟨zt rfl,fun K hK=>zck (hdep ⟨4,.data⟩ (by simp) rfl _ _ rfl) (hK _ x (Below.refl _ _) nn1 rfl)⟩
  ·obtain rfl:=sj ho;obtain⟨rfl,rfl⟩:=pk ht;exact⟨zt rfl,fun K hK=>Ya (hdep ⟨5,.data⟩ (by simp) rfl _ _ rfl) (hK _ x (Below.refl _ _) nn1 rfl)⟩
  ·exact absurd (by simp) hic
  ·obtain rfl:=sj ho;obtain⟨rfl,rfl⟩:=pk ht;exact⟨zt rfl,fun K hK=>YS 0 22 _ (hb (0,.pointer (some ⟨fb,0,none⟩)) (List.Mem.tail _ (List.Mem.head _))) (hK _ x (Below.refl _ _) nn1 rfl)⟩
  ·obtain rfl:=sj ho;obtain⟨rfl,rfl⟩:=pk ht;exact⟨zt rfl,fun K hK=>YS 1 23 _ (hb (1,.int .u8 (op:Int)) (List.Mem.head _)) (hK _ x (Below.refl _ _) nn1 rfl)⟩
  ·exact absurd (by simp) hic
  ·exact absurd rfl (hnb _ (List.Mem.head _)).1
  ·exact absurd rfl (hnb _ (List.Mem.tail _ (List.Mem.head _))).1
  ·exact absurd rfl (hnb _ (List.Mem.tail _ (List.Mem.tail _ (List.Mem.head _)))).1
  ·exact absurd rfl (hnb _ (List.Mem.head _)).2
  ·exact absurd rfl (hnb _ (List.Mem.tail _ (List.Mem.head _))).2
  ·exact absurd rfl (hnb _ (List.Mem.tail _ (List.Mem.tail _ (List.Mem.head _)))).2
 ·intro p i o d T hp ho ht s x S1 sv1 mv1 hfr hkb hsub hdf hb hdep
  match p,hp with
  |0,hp=>
   obtain rfl:=Option.some.inj (show some 3=some i from hp);obtain rfl:=sj ho;obtain⟨rfl,rfl⟩:=pk ht;refine⟨zt rfl,fun K hK=>zaU (r:=zi (F)) (val:=wv) YO (ev1 (hdep ⟨2,.data⟩ (by simp) rfl _ _ rfl)) (Ym x hfr) (fun u pv x' hrn hk=>hpan u pv s x' (Or.inl hrn) hdf (hkb.trans hk hsub)) (fun y F' S2 sv2 mv2 x' hr h1 h2 h3=> ?_)⟩;refine hK _ S2 sv2 mv2 x' ?_ h2 h3 nn1 ?_
   ·show Fr base fb (zh (zi (F))) S2 sv2 mv2 x';rw[hr];exact h1
   ·show _=wv (zA (zi (F)))
    first|rfl|(rw[hr];rfl)
  |1,hp=>
   obtain rfl:=Option.some.inj (show some 7=some i from hp);obtain rfl:=sj ho;obtain⟨rfl,rfl⟩:=pk ht;refine⟨zt rfl,fun K hK=>zaU (r:=zi (zh (zi (F)))) (val:=wv) YO (ev1 (hdep ⟨6,.data⟩ (by simp) rfl _ _ rfl)) (Ym x hfr) (fun u pv x' hrn hk=>hpan u pv s x' (Or.inr (Or.inl hrn)) hdf (hkb.trans hk hsub)) (fun y F' S2 sv2 mv2 x' hr h1 h2 h3=> ?_)⟩;refine hK _ S2 sv2 mv2 x' ?_ h2 h3 nn1 ?_
   ·show Fr base fb (zh (zi (zh (zi (F))))) S2 sv2 mv2 x';rw[hr];exact h1
   ·show _=wv (zA (zi (zh (zi (F)))))
    first|rfl|(rw[hr];rfl)
  |2,hp=>
   obtain rfl:=Option.some.inj (show some 10=some i from hp);obtain rfl:=sj ho;obtain⟨rfl,rfl⟩:=pk ht;refine⟨zt rfl,fun K hK=>zaU (r:=Zt op (zh (zi (zh (zi (F)))))) (val:=wv) zhP (ev2 (hdep ⟨8,.data⟩ (by simp) rfl _ _ rfl) (hdep ⟨9,.data⟩ (by simp) rfl _ _ rfl)) (zj9 op hop x hfr) (fun u pv x' hrn hk=>hpan u pv s x' (Or.inr (Or.inr hrn)) hdf (hkb.trans hk hsub)) (fun y F' S2 sv2 mv2 x' hr h1 h2 h3=> ?_)⟩;refine hK _ S2 sv2 mv2 x' ?_ h2 h3 nn1 ?_
   ·show Fr base fb (zh (Zt op (zh (zi (zh (zi (F))))))) S2 sv2 mv2 x';rw[hr];exact h1
   ·show _=wv (zA (Zt op (zh (zi (zh (zi (F)))))))
    first|rfl|(rw[hr];rfl)
  |_+3,hp=>cases hp
 ·intro b hb o ho s x;simp only[List.mem_cons,List.not_mem_nil,or_false] at hb;rcases hb with rfl|rfl|rfl
  ·obtain rfl:=sj ho;exact⟨zt rfl,fun K hK=>Yb hK⟩
  ·obtain rfl:=sj ho;exact⟨zt rfl,fun K hK=>Yb hK⟩
  ·obtain rfl:=sj ho;exact⟨zt rfl,fun K hK=>Yb hK⟩
 ·intro b hb o ho s x bl f S1 c1 hsl hrow hdep;simp only[List.mem_cons,List.not_mem_nil,or_false] at hb;rcases hb with rfl|rfl|rfl
  ·obtain rfl:=sj ho;exact⟨zt rfl,fun K hK=>yG (n:=zA (zi (F))) hsl (hdep ⟨3,.data⟩ (by simp) rfl _ _ rfl) hrow (fun x' hr2 e=>by rw[e];exact hK)⟩
  ·obtain rfl:=sj ho;exact⟨zt rfl,fun K hK=>yG (n:=zA (zi (zh (zi (F))))) hsl (hdep ⟨7,.data⟩ (by simp) rfl _ _ rfl) hrow (fun x' hr2 e=>by rw[e];exact hK)⟩
  ·obtain rfl:=sj ho;exact⟨zt rfl,fun K hK=>yG (n:=zA (Zt op (zh (zi (zh (zi (F))))))) hsl (hdep ⟨10,.data⟩ (by simp) rfl _ _ rfl) hrow (fun x' hr2 e=>by rw[e];exact hK)⟩
 ·intro vs x S1 sv1 mv1 hfr hkb hsub hl hT hB;obtain⟨v0,v1,v2,v3,v4,v5,v6,v7,v8,v9,v10,v11,v12,v13,v14,v15,v16,rfl⟩:=lenq17 (hl:vs.length=17);obtain rfl:v0=.pointer (some ⟨fb,0,none⟩):=hT 0 _ _ rfl;obtain rfl:v1=.pointer (some ⟨fb,0,none⟩):=hT 1 _ _ rfl;obtain rfl:v2=.pointer (some ⟨fb,19,none⟩):=hT 2 _ _ rfl;obtain rfl:v3=wv (zA (zi (F))):=hT 3 _ _ rfl;obtain rfl:v4=.pointer (some ⟨fb,0,none⟩):=hT 4 _ _ rfl;obtain rfl:v5=.pointer (some ⟨fb,0,none⟩):=hT 5 _ _ rfl;obtain rfl:v6=.pointer (some ⟨fb,19,none⟩):=hT 6 _ _ rfl;obtain rfl:v7=wv (zA (zi (zh (zi (F))))):=hT 7 _ _ rfl;obtain rfl:v8=.pointer (some ⟨fb,0,none⟩):=hT 8 _ _ rfl;obtain rfl:v9=.int .u8 (op:Int):=hT 9 _ _ rfl;obtain rfl:v10=wv (zA (Zt op (zh (zi (zh (zi (F))))))):=hT 10 _ _ rfl;obtain⟨b0,e11,n11,l11⟩:=(hT 11 _ _ rfl:Plc (3,mv1) S1 v11 x);subst e11;obtain⟨b1,e12,n12,l12⟩:=(hT 12 _ _ rfl:Plc (3,mv1) S1 v12 x);subst e12;obtain⟨b2,e13,n13,l13⟩:=(hT 13 _ _ rfl:Plc (3,mv1) S1 v13 x);subst e13;exact hok x S1 sv1 mv1 b0 b1 b2 hfr hkb hsub n11 (hB _ (List.Mem.head _) _ rfl).1 (hB _ (List.Mem.head _) _ rfl).2 n12 (hB _ (List.Mem.tail _ (List.Mem.head _)) _ rfl).1 (hB _ (List.Mem.tail _ (List.Mem.head _)) _ rfl).2 n13 (hB _ (List.Mem.tail _ (List.Mem.tail _ (List.Mem.head _))) _ rfl).1 (hB _ (List.Mem.tail _ (List.Mem.tail _ (List.Mem.head _))) _ rfl).2
section
open Go.Maps
def zef (F:Fz) (T:TS) (m:Nat) (r:Option (Fz×TS)):Prop:=∀(base fb tb:Nat) (S:List Nat) (sv mv:Value) (V:TV) (w:World),FT base fb tb F T S sv mv V w->V.n+m<800000000000->
 Calls prog 158 #[.pointer (some ⟨fb,0,none⟩)] w (Out2 r base fb tb T V S m w)
def Chain2:Nat->Nat->Fz->TS->Option Fz->TS->Prop
 |0,m,F,T,o,T'=>m=0/\F.ended=true/\o=some F/\T'=T
 |k+1,m,F,T,o,T'=>F.ended=false/\((k=0/\zef F T m none/\o=none/\T'=T)\/∃F1 T1 m1 m2,m=m1+m2/\zef F T m1 (some (F1,T1))/\Chain2 k m2 F1 T1 o T')
theorem Chain2.done {F:Fz} {T:TS} (h:F.ended=true):Chain2 0 0 F T (some F) T:=⟨rfl,h,rfl,rfl⟩
theorem Chain2.fail {m:Nat} {F:Fz} {T:TS} (h:F.ended=false) (hs:zef F T m none):Chain2 1 m F T none T:=⟨h,Or.inl ⟨rfl,hs,rfl,rfl⟩⟩
theorem Chain2.step {k m1 m2:Nat} {F F1:Fz} {T T1 T':TS} {o:Option Fz} (h:F.ended=false) (hs:zef F T m1 (some (F1,T1))) (hc:Chain2 k m2 F1 T1 o T'):Chain2 (k+1) (m1+m2) F T o T':=⟨h,Or.inr ⟨F1,T1,m1,m2,rfl,hs,hc⟩⟩
structure Rn2 (base fb tb:Nat) (o:Option Fz) (T T':TS) (V:TV) (S:List Nat) (m:Nat) (w:World) (gk gm:Nat) (F1:Fz) (T1:TS) (S1:List Nat) (sv1 mv1:Value) (V1:TV) (x:World):Prop where
 ch:Chain2 gk gm F1 T1 o T'
 ft:FT base fb tb F1 T1 S1 sv1 mv1 V1 x
 kf:KF S tb T V (w.alloc rc0) x
 sub:∀k∈S1,k∈S\/(w.alloc rc0).heap.size<=k
 foot:∀k,zG tb T1 V1 k->zG tb T V k\/(w.alloc rc0).heap.size<=k
 n:V1.n+gm<=V.n+m
 ab:V1.ab=V.ab
 res:ResAt x w.heap.size 0 0 ⟨#[]⟩ noL
theorem Rn2.out {base fb tb:Nat} {o:Option Fz} {T T':TS} {V:TV} {S:List Nat} {m:Nat} {w:World} {gk gm:Nat} {F1:Fz} {S1:List Nat} {sv1 mv1:Value} {V1:TV} {x y:World} {st gs:Nat} {out:ByteArray} (h:Rn2 base fb tb o T T' V S m w gk gm F1 T' S1 sv1 mv1 V1 x) (hTL:∀k,zG tb T V k->k<w.heap.size) (hFO:∀k∈S,k<w.heap.size) (hk:Kb S1 x y):zcc base tb T T' V S m w (yk y w.heap.size st gs out noL):=by
 have hsz:(w.alloc rc0).heap.size=w.heap.size+1:=by simp
 have hty:=h.ft.tr.kb hk h.ft.dis h.ft.fr.no0
 have hnb:¬zG tb T' V1 w.heap.size:=fun hf=>by
  rcases h.foot _ hf with e|e
  ·have:=hTL _ e;omega
  ·omega
 have hne:(0:Nat)≠w.heap.size:=fun e=>by
  have:=hTL tb (Or.inl rfl);omega
 obtain⟨S2,k1,k2⟩:=h.kf;refine⟨V1,S2++S,hty.kb (YC (Kb.refl [w.heap.size] y) (Or.inl (by simp))) (fun k hk hf=>hnb (by simp at hk;rw[<-hk];exact hf)) (by simpa using hne), ?_,fun k hk=> ?_,fun k hk=> ?_,by have:=h.n;omega,h.ab⟩
 ·refine YC ?_ (Or.inr (Nat.le_refl _));refine(((Kb.refl (S2++S) w).alloc rc0).trans (k1.mono (fun i hi=>List.mem_append_left _ hi)) (fun i hi=>Or.inl hi)).trans hk (fun i hi=> ?_);rcases h.sub i hi with e|e
  ·exact Or.inl (List.mem_append_right _ e)
  ·exact Or.inr (by omega)
 ·rcases List.mem_append.1 hk with e|e
  ·exact k2 k e
  ·exact Or.inl e
 ·rcases h.foot k hk with e|e
  ·exact Or.inl e
  ·exact Or.inr (by omega)
theorem Rn2.no {base fb tb:Nat} {o:Option Fz} {T T1 T':TS} {V:TV} {S:List Nat} {m:Nat} {w:World} {gk gm:Nat} {F1:Fz} {S1:List Nat} {sv1 mv1:Value} {V1:TV} {x:World} (h:Rn2 base fb tb o T T' V S m w gk gm F1 T1 S1 sv1 mv1 V1 x) (hFO:∀k∈S,k<w.heap.size):w.heap.size∉S1:=fun hm=>by
 have hsz:(w.alloc rc0).heap.size=w.heap.size+1:=by simp
 rcases h.sub _ hm with e|e
 ·have:=hFO _ e;omega
 ·omega
theorem Rn2.step {base fb tb:Nat} {o:Option Fz} {T T1 T2 T':TS} {V:TV} {S:List Nat} {m:Nat} {w:World} {gk gm m1:Nat} {F1 F2:Fz} {S1:List Nat} {sv1 mv1:Value} {V1:TV} {x y:World} (h:Rn2 base fb tb o T T' V S m w (gk+1) (m1+gm) F1 T1 S1 sv1 mv1 V1 x) (hTL:∀k,zG tb T V k->k<w.heap.size) (hFO:∀k∈S,k<w.heap.size) (hc:Chain2 gk gm F2 T2 o T') (ht:To2 base fb tb F2 T1 T2 V1 S1 m1 x y):∃S2 sv2 mv2 V2,Rn2 base fb tb o T T' V S m w gk gm F2 T2 S2 sv2 mv2 V2 y:=by
 have hsz:(w.alloc rc0).heap.size=w.heap.size+1:=by simp
 have hno:¬zG tb T1 V1 w.heap.size:=fun hf=>by
  rcases h.foot _ hf with e|e
  ·have:=hTL _ e;omega
  ·omega
 have hno2:=h.no hFO;obtain⟨S2,sv2,mv2,V2,j1,j2,j3,j4,j5,j6⟩:=To2.comp (m:=0) (T:=T) (V:={V with n:=V1.n}) (S:=S) (w:=w.alloc rc0) (fun k hk=>Nat.lt_of_lt_of_le (hFO k hk) (by omega)) (fun k hk=>Nat.lt_of_lt_of_le (hTL k hk) (by omega)) h.kf h.sub h.foot (Nat.le_refl _) h.ab ht;refine⟨S2,sv2,mv2,V2,hc,j1,j2,j3,j4, ?_,j6, ?_⟩
 ·have h1:=h.n;have h2:V2.n<=V1.n+(0+m1):=j5;omega
 ·obtain⟨S9,sv9,mv9,V9,q1,⟨Sk,q2,q3⟩,_⟩:=ht;refine h.res.kb q2 fun hm=> ?_
  rcases q3 _ hm with e|e
  ·exact hno2 e
  ·exact hno e
theorem zm1 {base fb tb:Nat} {F:Fz} {T T':TS} {S:List Nat} {sv mv:Value} {V:TV} {o:Option Fz} {k m:Nat} (w:World) (h:FT base fb tb F T S sv mv V w) (hc:Chain2 k m F T o T') (hn:V.n+m<800000000000):
  Calls prog 95 #[.pointer (some ⟨fb,0,none⟩)] w fun e w'=>e=.returned (znL o)/\zcc base tb T T' V S m w w':=by
 have hmf:∀(fn:Fn) (first cap:Array Value) (w:World),(Instr.makeFunc fn first cap).run prog w=.ok (.func fn first cap) w:=fun _ _ _ _=>rfl
 have HST:Hid (Rn2 base fb tb o T T' V S m w k m F T S sv mv V (w.alloc rc0)):=⟨hc,h.below (bal (Below.refl _ w) _),⟨[],Kb.refl _ _,by simp⟩,fun j hj=>Or.inl hj,fun j hj=>Or.inl hj,Nat.le_refl _,rfl,by unfold ResAt;simp[go_sem]⟩;have HN:=zb hn;have HFO:=zb h.foot;have HTL:Hid (∀k,zG tb T V k->k<w.heap.size):=fun k hk=>h.tr.lt hk
 clear h hc hn
 go_enter_defers func95,ntmps95
 go_wp2
 go_loopg [4] k (fun gk t4 wr=>∃gm F1 T1 S1 sv1 mv1 V1,Rn2 base fb tb o T T' V S m w gk gm F1 T1 S1 sv1 mv1 V1 wr)
 case atStart=>exact⟨m,F,T,S,sv,mv,V,HST.out⟩
 case round=>
  obtain⟨gm,F1,T1,S1,sv1,mv1,V1,hR⟩:=hrel;have ce:=hR.ft.fr.row.cell (i:=24) (by decide);rw[show F1.cell sv1 mv1 24=.bool F1.ended from rfl] at ce;have HR:=zb hR;have hch:=hR.ch;clear hR HST;cases gk with
  |zero=>
   obtain⟨rfl,he,rfl,rfl⟩:=hch;rw[he] at ce;go_wp2;have q1:=HR.out.ft.fr.row.cell (i:=25) (by decide);rw[show F1.cell sv1 mv1 25=.int .u8 (F1.status:Int) from rfl] at q1;have q2:=HR.out.ft.fr.row.cell (i:=16) (by decide);rw[show F1.cell sv1 mv1 16=.int .i64 (F1.gas:Int) from rfl] at q2;have q3:=HR.out.ft.fr.row.cell (i:=26) (by decide);rw[show F1.cell sv1 mv1 26=.string F1.out from rfl] at q3;refine run_r4 (b:=w.heap.size) (st:=F1.status) (gs:=F1.gas) (out:=F1.out) _ _ HR.out.ft.fr.row.lt HR.out.res q1 q2 q3 (Below.refl _ _).drew rfl rfl rfl ?_;rintro x ⟨y,hy,rfl⟩;have HT:=zb (HR.out.out (st:=F1.status) (gs:=F1.gas) (out:=F1.out) HTL.out HFO.out (Kb.of_below (S:=S1) hy));obtain⟨⟨k0,k1,k2,k3⟩,_⟩:=(HR.out.res.below hy).put (st:=F1.status) (gs:=F1.gas) (out:=F1.out) (lv:=noL);generalize yk y w.heap.size F1.status F1.gas F1.out noL=z at*;clear hy q1 q2 q3 ce;simp only[zF,List.foldl_cons,List.foldl_nil,Act.put];simp only[sx9];go_wp2;refine leaves_cons (f:=157) (args:=#[.pointer (some ⟨w.heap.size,0,none⟩)]) (by simp) (by simp[go_sem]) ?_;refine(zkz _).mono ?_;rintro e u' w'' ⟨rfl,rfl,rfl⟩;exact⟨_,by simp[results,results95,go_sem,k0,k1,k2,k3];rfl,rfl,HT.out⟩
  |succ k2=>
   obtain⟨he,⟨rfl,hs,rfl,rfl⟩|⟨F2,T2,m1,m2,rfl,hs,hc⟩⟩:=hch
   ·rw[he] at ce;have HS:=zb (hs base fb tb S1 sv1 mv1 V1 wr HR.out.ft (by have:=HR.out.n;have:=HN.out;omega));go_wp2_with fail
    refine HS.out.mono ?_;rintro e z ⟨⟨u,pv,rfl⟩,hk⟩;have hres:=HR.out.res.kb hk (HR.out.no HFO.out);have HT:=zb (HR.out.out (st:=2) (gs:=0) (out:=⟨#[]⟩) HTL.out HFO.out hk);obtain⟨⟨k0,k1,k2,k3⟩,_⟩:=hres.put (st:=2) (gs:=0) (out:=⟨#[]⟩) (lv:=noL);refine leaves_cons (f:=157) (args:=#[.pointer (some ⟨w.heap.size,0,none⟩)]) (by simp) (by simp[go_sem]) ?_;refine(zd4 u pv [] z hres).mono ?_;rintro e u' w'' ⟨rfl,rfl,rfl⟩;generalize yk z w.heap.size 2 0 ⟨#[]⟩ noL=z2 at*;exact⟨_,by simp[results,results95,go_sem,k0,k1,k2,k3];rfl,rfl,HT.out⟩
   ·rw[he] at ce;have HS:=zb (hs base fb tb S1 sv1 mv1 V1 wr HR.out.ft (by have:=HR.out.n;have:=HN.out;omega));have HC:=zb hc;clear hs hc;go_wp2_with fail
    refine HS.out.mono ?_;rintro e z ⟨rfl,ht⟩;have HX:=zb (HR.out.step HTL.out HFO.out HC.out ht);clear ht HS ce he;go_wp2
    go_roundg k2
    case measure=>exact Nat.lt_succ_self _
    case rel=>
     obtain⟨S2,sv2,mv2,V2,h2⟩:=HX.out;exact⟨_,_,_,S2,sv2,mv2,V2,h2⟩
end
section
open Go.Maps
def zay (o:Option Fz):Nat:=match o with
 |some F=>F.status
 |none=>2
def zaM (o:Option Fz):Nat:=match o with
 |some F=>F.gas
 |none=>0
def ziZ (o:Option Fz):ByteArray:=match o with
 |some F=>F.out
 |none=>⟨#[]⟩
theorem zmm (o:Option Fz):znL o=YL (zay o) (zaM o) (ziZ o) noL:=by cases o<;>rfl
def yP (T T':TS) (st:Nat):TS:=if st=0 then T' else zgm T' T.ch.length T.logs.length
theorem TTo.trTo {base tb m m':Nat} {T T1 T2:TS} {V V1:TV} {S S1:List Nat} {w x y:World} (hTL:∀k,zG tb T V k->k<w.heap.size) (h3:Kb S1 w x) (h4:∀k∈S1,k∈S\/zG tb T V k) (h5:∀k,zG tb T1 V1 k->zG tb T V k\/w.heap.size<=k) (h6:V1.n<=V.n+m) (h7:V1.ab=V.ab) (h:TTo base tb T1 V1 T2 m' x y):zcc base tb T T2 V S (m+m') w y:=by
 obtain⟨V2,S2,k1,k2,k3,k4,k5,k6⟩:=h;refine⟨V2,S1++S2.filter (fun k=>decide (k<w.heap.size)),k1,(h3.mono (fun i hi=>List.mem_append_left _ hi)).trans k3 (fun i hi=> ?_),fun i hi=> ?_,fun i hi=> ?_,by omega,k6.trans h7⟩
 ·by_cases hl:i<w.heap.size
  ·exact Or.inl (List.mem_append_right _ (List.mem_filter.2 ⟨hi,by simpa using hl⟩))
  ·exact Or.inr (by omega)
 ·rcases List.mem_append.1 hi with e|e
  ·exact h4 i e
  ·obtain⟨e1,e2⟩:=List.mem_filter.1 e;have e2:i<w.heap.size:=by simpa using e2
   rcases h5 i (k4 i e1) with e3|e3
   ·exact Or.inr e3
   ·omega
 ·rcases k5 i hi with e|e
  ·exact h5 i e
  ·exact Or.inr (Nat.le_trans h3.size e)
theorem zlS {base fb tb:Nat} {F:Fz} {o:Option Fz} {T T':TS} {S:List Nat} {sv mv:Value} {V:TV} {k m:Nat} (amt fr tt:Nat) (w:World) (h:FT base fb tb F T S sv mv V w) (hc:Chain2 k m F (zM T amt fr tt) o T') (hso:zay o<=255) (hn:V.n+4+m<800000000000) (hcl:T'.ch.length<10000000) (hl:T.ch.length<999999990)
  (hch:T.ch.length<=T'.ch.length) (hlo:T.logs.length<=T'.logs.length) (hkd:∀c∈T'.ch,c.kind<3):
  Calls prog 61 #[.pointer (some ⟨tb,0,none⟩),.pointer (some ⟨fb,0,none⟩),wv amt,wv fr,wv tt] w fun e w'=>e=.returned (YL (zay o) (zaM o) (ziZ o) noL)/\zcc base tb T (yP T T' (zay o)) V S (4+m+2*(T'.ch.length - T.ch.length)) w w':=by
 have hB:Below w.heap.size w (wk4 w amt fr tt):=bal (bal (bal (bal (Below.refl _ w) _) _) _) _;have h2:=h.below hB;have HM:=zb (zn9 _ h2.tr);have HH:=zb h2;have HB:=zb hB;have HC:=zb hc;have HN:=zb hn;have HCL:=zb hcl;have HL:=zb hl;have HCH:=zb hch;have HLO:=zb hlo;have HKD:=zb hkd;have HRE:=zb (zmm o);have HF:=zb h.foot;have HTL:Hid (∀k,zG tb T V k->k<w.heap.size):=fun k hk=>h.tr.lt hk
 obtain⟨st,HST⟩:∃st,Hid (st=zay o):=⟨_,rfl⟩;obtain⟨gs,HGS⟩:∃gs,Hid (gs=zaM o):=⟨_,rfl⟩;obtain⟨out,HOU⟩:∃out,Hid (out=ziZ o):=⟨_,rfl⟩;rw[<-HST.out] at hso;rw[<-HST.out,<-HGS.out,<-HOU.out] at HRE⊢;obtain⟨T2,HT2⟩:∃T2,Hid (T2=yP T T' st):=⟨_,rfl⟩;rw[<-HT2.out];clear hch hlo hkd;clear h h2 hB hc hn hl hcl;go_enter func61,ntmps61;go_wp2_with fail
 refine HM.out.mono ?_;rintro e w1 ⟨rfl,hb1⟩;have hB1:Below w.heap.size w w1:=HB.out.trans (hb1.mono HB.out.size);have hsz1:w.heap.size+1+1+1+1<=w1.heap.size:=by have:=hb1.size;simp at this;omega
 have r0:zX w1 w.heap.size amt:=zg (zg (zg (zg (yz w amt) (bal (Below.refl _ _) (wc fr))) (bal (Below.refl _ _) (wc tt))) (bal (Below.refl _ _) rc0)) hb1
 have r1:zX w1 (w.heap.size+1) fr:=by
  have:=zg (zg (zg (yz (w.alloc (wc amt)) fr) (bal (Below.refl _ _) (wc tt))) (bal (Below.refl _ _) rc0)) hb1;rw[show(w.alloc (wc amt)).heap.size=w.heap.size+1 by simp] at this;exact this
 have r2:zX w1 (w.heap.size+1+1) tt:=by
  have:=zg (zg (yz ((w.alloc (wc amt)).alloc (wc fr)) tt) (bal (Below.refl _ _) rc0)) hb1;rw[show((w.alloc (wc amt)).alloc (wc fr)).heap.size=w.heap.size+1+1 by simp] at this;exact this
 have hrs:ResAt w1 (w.heap.size+1+1+1) 0 0 ⟨#[]⟩ noL:=by
  have h0:ResAt (wk4 w amt fr tt) (w.heap.size+1+1+1) 0 0 ⟨#[]⟩ noL:=by unfold ResAt;simp[go_sem]
  exact h0.below hb1
 have hB2:Below w1.heap.size w1 (w1.alloc (.cells #[.int .i64 (T.ch.length:Int),.int .i64 (T.logs.length:Int)] 186)):=bal (Below.refl _ w1) _;have h3:=(HH.out.below hb1).below hB2;have HMV:=zb (znk amt fr tt _ h3.tr HL.out (by have:=HN.out;omega));obtain⟨a0,a1,a2,a3⟩:=ze (zg r0 hB2);obtain⟨b0,b1,b2,b3⟩:=ze (zg r1 hB2);obtain⟨d0,d1,d2,d3⟩:=ze (zg r2 hB2);have HRS:=zb (hrs.below hB2);have HFT:=zb h3;have HB3:Hid (Below w.heap.size w (w1.alloc (.cells #[.int .i64 (T.ch.length:Int),.int .i64 (T.logs.length:Int)] 186))):=bal hB1 _;have HSZ:Hid (w.heap.size+1+1+1+1<=(w1.alloc (.cells #[.int .i64 (T.ch.length:Int),.int .i64 (T.logs.length:Int)] 186)).heap.size):=Nat.le_trans hsz1 hB2.size;obtain⟨mb,HMB⟩:∃mb,Hid (mb=w1.heap.size):=⟨_,rfl⟩
 have HMK:Hid ((w1.alloc (.cells #[.int .i64 (T.ch.length:Int),.int .i64 (T.logs.length:Int)] 186)).cell? ⟨mb,0,none⟩=some (.int .i64 (T.ch.length:Int))/\(w1.alloc (.cells #[.int .i64 (T.ch.length:Int),.int .i64 (T.logs.length:Int)] 186)).cell? ⟨mb,1,none⟩=some (.int .i64 (T.logs.length:Int))/\w.heap.size<=mb/\mb<(w1.alloc (.cells #[.int .i64 (T.ch.length:Int),.int .i64 (T.logs.length:Int)] 186)).heap.size):=by
  show _/\_/\_/\_;rw[HMB.out];refine⟨by simp[go_sem],by simp[go_sem],by omega,by simp⟩
 clear hb1 hB1 hB2 h3 hrs r0 r1 r2 HM HH hsz1;go_wp2_with fail
 refine HMV.out.mono ?_;rintro e w3 ⟨rfl,ht⟩;obtain⟨S3,sv3,mv3,V3,j1,j2,j3,j4,j5,j6⟩:=HFT.out.trail ht;have HRUN:=zb (zm1 w3 j1 HC.out (by have:=HN.out;omega));have hnoS:∀k∈S3,k<w.heap.size\/(w1.alloc (.cells #[.int .i64 (T.ch.length:Int),.int .i64 (T.logs.length:Int)] 186)).heap.size<=k:=fun k hk=>(j3 k hk).imp (HF.out k) id
 have hnoT:∀k,zG tb (zM T amt fr tt) V3 k->k<w.heap.size\/(w1.alloc (.cells #[.int .i64 (T.ch.length:Int),.int .i64 (T.logs.length:Int)] 186)).heap.size<=k:=fun k hk=>(j4 k hk).imp (HTL.out k) id
 have hrs3:ResAt w3 (w.heap.size+1+1+1) 0 0 ⟨#[]⟩ noL:=by
  obtain⟨Sk,q1,q2⟩:=j2;refine HRS.out.kb q1 fun hm=> ?_
  rcases q2 _ hm with e|e
  ·have:=HF.out _ e;omega
  ·have:=HTL.out _ e;omega
 have HR3:=zb hrs3
 have HM3:Hid (w3.cell? ⟨mb,0,none⟩=some (.int .i64 (T.ch.length:Int))/\w3.cell? ⟨mb,1,none⟩=some (.int .i64 (T.logs.length:Int))/\mb<w3.heap.size):=by
  obtain⟨Sk,q1,q2⟩:=j2;obtain⟨c0,c1,c2,c3⟩:=HMK.out
  have hbk:=q1.block mb c3 (fun hm=>by
   rcases q2 _ hm with e|e
   ·have:=HF.out _ e;omega
   ·have:=HTL.out _ e;omega)
  exact⟨(World.cell?_of_block (a:=⟨mb,0,none⟩) hbk).trans c0,(World.cell?_of_block (a:=⟨mb,1,none⟩) hbk).trans c1,Nat.lt_of_lt_of_le c3 q1.size⟩
 have HW3:Hid (w.heap.size+1+1+1+1<=w3.heap.size):=Nat.le_trans HSZ.out (by obtain⟨Sk,q1,q2⟩:=j2;exact q1.size)
 have HTO:Hid (∀y,zcc base tb (zM T amt fr tt) T' V3 S3 m w3 y->∃V9 S9,Tr base tb T' V9 y/\¬zG tb T' V9 (w.heap.size+1+1+1)/\Kb S9 w y/\(∀k∈S9,k∈S\/zG tb T V k)/\(∀k,zG tb T' V9 k->zG tb T V k\/w.heap.size<=k)/\V9.n<=V.n+(4+m)/\V9.ab=V.ab):=by
  rintro y ⟨V2,Sk,k1,k2,k2',k4,k5,k6⟩;obtain⟨S2,q1,q2,q3,q4,q5⟩:=To2.thenTr' (base:=base) (fun k hk=>Nat.lt_of_lt_of_le (HTL.out k hk) HB3.out.size) (fun k hk=>Nat.lt_of_lt_of_le (HF.out k hk) HB3.out.size) j2 j3 j4 j5 j6 k2 k2' k4 k5 k6;refine⟨V2,S2,k1,fun hf=> ?_,(Kb.of_below HB3.out).trans q1 (fun i hi=>Or.inl hi),q2,fun k hk=>(q3 k hk).imp id (fun h=>Nat.le_trans HB3.out.size h),q4,q5⟩;have hs:=HSZ.out;have hs3:=HW3.out;rcases k4 _ hf with e|e
  ·rcases hnoT _ e with e|e<;>omega
  ·omega
 have HNS:=zb (And.intro hnoS hnoT);clear ht j1 j2 j3 j4 j5 j6 hrs3 hnoS hnoT HMV a0 a1 a2 a3 b0 b1 b2 b3 d0 d1 d2 d3 HC;go_wp2_with fail
 refine HRUN.out.mono ?_;rintro e w4 ⟨rfl,ht⟩
 have hrs4:ResAt w4 (w.heap.size+1+1+1) 0 0 ⟨#[]⟩ noL:=by
  obtain⟨V9,S9,_,q1,q2,_⟩:=ht;refine HR3.out.kb q1 fun hm=> ?_
  have hs:=HSZ.out;rcases q2 _ hm with e|e
  ·rcases HNS.out.1 _ e with e|e<;>omega
  ·rcases HNS.out.2 _ e with e|e<;>omega
 obtain⟨p0,p1,p2⟩:w4.cell? ⟨mb,0,none⟩=some (.int .i64 (T.ch.length:Int))/\w4.cell? ⟨mb,1,none⟩=some (.int .i64 (T.logs.length:Int))/\mb<w4.heap.size:=by
  obtain⟨c0,c1,c3⟩:=HM3.out;obtain⟨V9,S9,_,q1,q2,_⟩:=ht;obtain⟨_,_,c4,c5⟩:=HMK.out
  have hbk:=q1.block mb c3 (fun hm=>by
   rcases q2 _ hm with e|e
   ·rcases HNS.out.1 _ e with e|e<;>omega
   ·rcases HNS.out.2 _ e with e|e<;>omega)
  exact⟨(World.cell?_of_block (a:=⟨mb,0,none⟩) hbk).trans c0,(World.cell?_of_block (a:=⟨mb,1,none⟩) hbk).trans c1,Nat.lt_of_lt_of_le c3 q1.size⟩
 obtain⟨V9,S9,x1,x2,x3,x4,x5,x6,x7⟩:=HTO.out _ ht;rw[HRE.out];have hB5:Below w4.heap.size w4 (w4.alloc (.cells (zdn st gs out noL) 38)):=bal (Below.refl _ w4) _;have x1':=x1.below hB5;have hrs5:=hrs4.below hB5
 have HS4:Hid (w.heap.size+1+1+1<w4.heap.size):=by
  show _<_;have h1:=HW3.out;obtain⟨_,_,_,q1,_⟩:=ht;have:=q1.size;omega
 by_cases hs0:st=0
 ·subst hs0;have hrs5:ResAt (w4.alloc (.cells #[.int .u8 0,.int .i64 (gs:Int),.string out,.slice none 0 0] 38)) (w.heap.size+1+1+1) 0 0 ⟨#[]⟩ noL:=hrs5;rw[show YL 0 gs out noL=.agg #[.int .u8 0,.int .i64 (gs:Int),.string out,.slice none 0 0] from rfl];obtain⟨⟨k0,k1,k2,k3⟩,f0,f1,f2,f3⟩:=hrs5;have HR5:Hid (ResAt (yk (w4.alloc (.cells #[.int .u8 0,.int .i64 (gs:Int),.string out,.slice none 0 0] 38)) (w.heap.size+1+1+1) 0 gs out noL) (w.heap.size+1+1+1) 0 gs out noL):=(hrs4.below (bal (Below.refl _ w4) _)).put
  have HBP:Hid (zcc base tb T T2 V S (4+m+2*(T'.ch.length - T.ch.length)) w (yk (w4.alloc (.cells #[.int .u8 0,.int .i64 (gs:Int),.string out,.slice none 0 0] 38)) (w.heap.size+1+1+1) 0 gs out noL)):=by
   show zcc _ _ _ _ _ _ _ _ _;rw[HT2.out];unfold yP;rw[if_pos rfl];exact⟨V9,S9,x1'.kb (YC (Kb.refl [w.heap.size+1+1+1] _) (Or.inl (by simp))) (fun k hk hf=>x2 (by simp at hk;rw[<-hk];exact hf)) (by simp),YC (x3.alloc _) (Or.inr (by omega)),x4,x5,by omega,x7⟩
  clear ht hrs4 HTO HR3 HRUN x1 x2 x3 x4 x5 x6 x7 x1' hB5 p0 p1;go_wp2;change bodyPost prog f61 _ _ _ (yk (w4.alloc (.cells #[.int .u8 0,.int .i64 (gs:Int),.string out,.slice none 0 0] 38)) (w.heap.size+1+1+1) 0 gs out noL);generalize yk (w4.alloc (.cells #[.int .u8 0,.int .i64 (gs:Int),.string out,.slice none 0 0] 38)) (w.heap.size+1+1+1) 0 gs out noL=z at*;obtain⟨⟨y0,y1,y2,y3⟩,_⟩:=HR5.out;refine bodyPost_ret (v:=.agg #[.int .u8 0,.int .i64 (gs:Int),.string out,.slice none 0 0]) (by simp[results,results61,go_sem,y0,y1,y2,y3]) rfl ⟨rfl,HBP.out⟩
 ·have hd:(!((st:Int)==0))=true:=by simp;omega
  have hd2:((st:Int)==0)=false:=by simp;omega
  have m0:=(hB5.cell (p:=⟨mb,0,none⟩) (by exact p2)).trans p0;have m1:=(hB5.cell (p:=⟨mb,1,none⟩) (by exact p2)).trans p1;have HTB:=zb (zgA T.ch.length T.logs.length _ x1' HCH.out HLO.out HKD.out (by have:=HN.out;have:=HCL.out;omega));obtain⟨⟨k0,k1,k2,k3⟩,f0,f1,f2,f3⟩:=hrs5;have HX:=zb (And.intro x2 (And.intro x3 (And.intro x4 (And.intro x5 (And.intro x6 x7)))));have HXL:Hid (∀k,zG tb T' V9 k->k<w4.heap.size):=fun k hk=>x1.lt hk
  have HRS5:=zb (hrs4.below hB5);have HB5:=zb hB5;have HW4S:Hid ((w4.alloc (.cells (zdn st gs out noL) 38)).heap.size=w4.heap.size+1):=by show _=_;simp
  have HRC:Hid ((w4.alloc (.cells (zdn st gs out noL) 38)).cell? ⟨w4.heap.size,0,none⟩=some (.int .u8 (st:Int))/\(w4.alloc (.cells (zdn st gs out noL) 38)).cell? ⟨w4.heap.size,1,none⟩=some (.int .i64 (gs:Int))/\(w4.alloc (.cells (zdn st gs out noL) 38)).cell? ⟨w4.heap.size,2,none⟩=some (.string out)/\(w4.alloc (.cells (zdn st gs out noL) 38)).cell? ⟨w4.heap.size,3,none⟩=some noL):=by
   show _/\_/\_/\_;refine⟨?_, ?_, ?_, ?_⟩<;>simp[go_sem]
  rw[HMB.out] at m0 m1;clear ht hrs4 HTO HR3 HRUN x1 x2 x3 x4 x5 x6 x7 x1' hB5 p0 p1;go_wp2_with fail
  refine HTB.out.mono ?_;rintro e w5 ⟨rfl,ht5⟩;obtain⟨V10,S10,y1,y2,y3,y4,y5,y6⟩:=id ht5;have hs4:=HS4.out;have hbl:=y3.block w4.heap.size (by rw[HW4S.out];omega) (fun hm=>absurd (HXL.out _ (y4 _ hm)) (Nat.lt_irrefl _));obtain⟨z0,z1,z2,z3⟩:=HRC.out;have z0:=(World.cell?_of_block (a:=⟨w4.heap.size,0,none⟩) hbl).trans z0;have z1:=(World.cell?_of_block (a:=⟨w4.heap.size,1,none⟩) hbl).trans z1;have z2:=(World.cell?_of_block (a:=⟨w4.heap.size,2,none⟩) hbl).trans z2;have z3:=(World.cell?_of_block (a:=⟨w4.heap.size,3,none⟩) hbl).trans z3;have hrs6:=HRS5.out.kb y3 (fun hm=>HX.out.1 (y4 _ hm));have HR6:Hid (ResAt (yk w5 (w.heap.size+1+1+1) st gs out noL) (w.heap.size+1+1+1) st gs out noL):=hrs6.put
  have HBP:Hid (zcc base tb T T2 V S (4+m+2*(T'.ch.length - T.ch.length)) w (yk w5 (w.heap.size+1+1+1) st gs out noL)):=by
   show zcc _ _ _ _ _ _ _ _ _;rw[HT2.out];unfold yP;rw[if_neg hs0];obtain⟨x2,x3,x4,x5,x6,x7⟩:=HX.out;obtain⟨V11,S11,q1,q2,q3,q4,q5,q6⟩:=TTo.trTo HTL.out (x3.below HB5.out) x4 x5 x6 x7 ht5;obtain⟨V12,S12,r1,r2,r3,r4,r5,r6⟩:=ht5;refine⟨V12,S11,r1.kb (YC (Kb.refl [w.heap.size+1+1+1] _) (Or.inl (by simp))) (fun k hk hf=> ?_) (by simp),YC q2 (Or.inr (by omega)),q3,fun k hk=> ?_, ?_,r6.trans x7⟩
   ·simp at hk;subst hk;rcases r5 _ hf with e|e
    ·exact x2 e
    ·rw[HW4S.out] at e;omega
   ·rcases r5 k hk with e|e
    ·exact x5 k e
    ·exact Or.inr (Nat.le_trans (Nat.le_trans x3.size HB5.out.size) e)
   ·omega
  clear ht5 y1 y2 y3 y4 y5 y6 hbl;obtain⟨⟨k0,k1,k2,k3⟩,f0,f1,f2,f3⟩:=hrs6;clear HTB HRC m0 m1 HRS5;go_wp2;change bodyPost prog f61 _ _ _ (yk w5 (w.heap.size+1+1+1) st gs out noL);generalize yk w5 (w.heap.size+1+1+1) st gs out noL=z at*;obtain⟨⟨y0,y1,y2,y3⟩,_⟩:=HR6.out;refine bodyPost_ret (v:=YL st gs out noL) (by simp[results,results61,go_sem,y0,y1,y2,y3]) rfl ⟨rfl,HBP.out⟩
end
section
open Go.Maps
structure Res where
 st:Nat
 gas:Nat
 out:ByteArray
abbrev Wk:=Fz->TS->Nat->Nat->Nat->Res×TS
def zN (op asked tt v:Nat) (data:ByteArray) (F:Fz) (T:TS):Fz:={za4 F 0 op tt v (T.acc tt).code undef with trail:=undef,data:=data,gas:=Ze F asked}
def zbe (wk:Wk) (op asked tt v:Nat) (data:ByteArray) (c d:Nat) (F:Fz) (T:TS):Option (TS×Fz):=
 if zal F T v=true then
  (yQ {F with gas:=F.gas - Ze F asked} (wk (zN op asked tt v data F T) T v F.self tt).1.st (wk (zN op asked tt v data F T) T v F.self tt).1.gas (wk (zN op asked tt v data F T) T v F.self tt).1.out c d).map fun y=>((wk (zN op asked tt v data F T) T v F.self tt).2,y.2)
 else(zl 0 F).map fun y=>(T,y.2)
def ya (l:List UInt8):ByteArray:=⟨l.toArray⟩
def zaC (wk:Wk) (op asked tt v dp dl rp rl:Nat) (F:Fz) (T:TS):Option (TS×Fz):=match zk dp dl F with
 |none=>none
 |some ((a,b),F2)=>match zk rp rl F2 with
  |none=>none
  |some ((c,d),F3)=>zbe wk op asked tt v (ya (zP F2.mem a b)) c d {F3 with ret:=⟨#[]⟩} T
def zcl (v:Nat) (F:Fz):Option (Unit×Fz):=if v%M=0 then some ((),F) else if F.ro=true then none else yC 900 F
def zcC (wk:Wk) (op asked tt v dp dl rp rl:Nat) (F:Fz) (T:TS):Option (TS×Fz):=match zcl v F with
 |none=>none
 |some (_,F1)=>zaC wk op asked tt v dp dl rp rl F1 T
def F3w (op:Nat) (F:Fz):Fz:=zh (Zt op (zE F))
def Yl (wk:Wk) (op:Nat) (F:Fz) (T:TS):Option (TS×Fz):=
 zK (zi F) (zK (zi (zh (zi F))) (zK (Zt op (zE F)) (
 zK (zi (F3w op F)) (zK (zi (zh (zi (F3w op F)))) (
 zK (zi (zE (F3w op F))) (zK (zi (zh (zi (zE (F3w op F))))) (
  zcC wk op (zY F) (Zh F) (zA (Zt op (zE F))) (zY (F3w op F)) (Zh (F3w op F)) (zY (zE (F3w op F))) (Zh (zE (F3w op F))) (zE (zE (F3w op F))) T)))))))
def zdu (r:Option (TS×Fz)):Option (Fz×TS):=r.map fun y=>(y.2,y.1)
structure Keep (F F':Fz):Prop where
 trail:F'.trail=F.trail
 self:F'.self=F.self
 caller:F'.caller=F.caller
 value:F'.value=F.value
 ro:F'.ro=F.ro
 depth:F'.depth=F.depth
 gas:F'.gas<=F.gas
theorem Keep.of {F F':Fz} (h:Same F F'):Keep F F':=⟨h.trail,h.self,h.caller,h.value,h.ro,h.depth,Nat.le_of_eq h.gas⟩
theorem Keep.trans {F G H:Fz} (h:Keep F G) (k:Keep G H):Keep F H:=⟨k.trail.trans h.trail,k.self.trans h.self,k.caller.trans h.caller,k.value.trans h.value,k.ro.trans h.ro,k.depth.trans h.depth,Nat.le_trans k.gas h.gas⟩
theorem zmW (F:Fz) (c:Nat):Keep F {F with gas:=F.gas - c}:=⟨rfl,rfl,rfl,rfl,rfl,rfl,Nat.sub_le _ _⟩
theorem zjO {n:Nat} {F F1:Fz} {u:Unit} (h:yt n F=some (u,F1)):Keep F F1:=by
 unfold yt at h;split at h
 ·obtain⟨_,rfl⟩:=Prod.mk.inj (Option.some.inj h);exact⟨rfl,rfl,rfl,rfl,rfl,rfl,Nat.le_refl _⟩
 ·unfold yC at h;split at h
  ·cases h
  ·rename_i hp;split at hp
   ·cases hp
   ·obtain⟨_,rfl⟩:=Prod.mk.inj (Option.some.inj hp);obtain⟨_,rfl⟩:=Prod.mk.inj (Option.some.inj h);exact⟨rfl,rfl,rfl,rfl,rfl,rfl,Nat.sub_le _ _⟩
theorem zas {p n:Nat} {q:Nat×Nat} {F F1:Fz} (h:zk p n F=some (q,F1)):Keep F F1:=by
 unfold zk at h;split at h
 ·obtain⟨_,rfl⟩:=Prod.mk.inj (Option.some.inj h);exact⟨rfl,rfl,rfl,rfl,rfl,rfl,Nat.le_refl _⟩
 ·split at h
  ·split at h
   ·cases h
   ·rename_i hg;obtain⟨_,rfl⟩:=Prod.mk.inj (Option.some.inj h);exact zjO hg
  ·cases h
theorem zgo {p n:Nat} {q:Nat×Nat} {F F1:Fz} (h:zk p n F=some (q,F1)):F1.st=F.st:=by
 unfold zk yt yC at h;split at h
 ·obtain⟨_,rfl⟩:=Prod.mk.inj (Option.some.inj h);rfl
 ·split at h
  ·split at h
   ·cases h
   ·rename_i hg;obtain⟨_,rfl⟩:=Prod.mk.inj (Option.some.inj h);split at hg
    ·obtain⟨_,rfl⟩:=Prod.mk.inj (Option.some.inj hg);rfl
    ·split at hg
     ·cases hg
     ·rename_i hp;split at hp
      ·cases hp
      ·obtain⟨_,rfl⟩:=Prod.mk.inj (Option.some.inj hp);obtain⟨_,rfl⟩:=Prod.mk.inj (Option.some.inj hg);rfl
  ·cases h
theorem za8 (F:Fz):(zh (zi F)).st.length<=F.st.length - 1:=by
 unfold zi;split
 ·exact Nat.zero_le _
 ·rename_i e;rw[e];simp[zh]
theorem st_popv (op:Nat) (F:Fz):(zh (Zt op F)).st.length<=F.st.length:=by
 unfold Zt;split
 ·exact Nat.le_trans (za8 F) (Nat.sub_le _ _)
 ·exact Nat.le_refl _
structure Wbx (S:List Nat) (x:World) (b n:Nat):Prop where
 no:b∉S
 row:zX x b n
theorem Wbx.step {S S':List Nat} {x y:World} {b n:Nat} (h:Wbx S x b n) (hk:Kb S x y) (hs:∀j∈S',j∈S\/x.heap.size<=j):Wbx S' y b n:=
 ⟨fun hm=>(hs b hm).elim h.no (fun e=>by have:=h.row.lt;omega),hk.row h.row h.no⟩
theorem Wbx.below {S:List Nat} {x y:World} {b n:Nat} (h:Wbx S x b n) (hb:Below x.heap.size x y):Wbx S y b n:=⟨h.no,zg h.row hb⟩
theorem st_subI {s:Act} {x:World} {pos:String} {af:Array Edge} {gd:Option (Nat×Bool)} {K:Act->World->Prop} {Q:Exit->Act->World->Prop} {t u d a b:Nat} {ty:TypeId} (h1:s.tmps.getD t undef=.int .i64 (a:Int)) (h2:s.tmps.getD u undef=.int .i64 (b:Int)) (hl:b<=a) (ha:a<=10000000) (hK:K (s.put (some d) (.int .i64 ((a - b:Nat):Int))) x):
  Oper.wp prog ⟨some d,.binOp .sub 3 (.tmp t) (.tmp u) 3,ty,pos,af,gd⟩ s x K Q:=by
 have f1:s.eval (.tmp t)=.int .i64 (a:Int):=h1;have f2:s.eval (.tmp u)=.int .i64 (b:Int):=h2;have e:((a - b:Nat):Int)=(a:Int) - (b:Int):=by omega
 rw[e] at hK;have hw:IntKind.i64.wrap ((a:Int) - (b:Int))=(a:Int) - (b:Int):=by simp[IntKind.wrap,IntKind.bits,IntKind.signed];omega
 go_simp;exact hK
theorem zh8 {F F':Fz} {st g a b:Nat} {out:ByteArray} {u:Unit} (h:yQ F st g out a b=some (u,F')):F'.trail=F.trail:=by
 unfold yQ zl at h;split at h
 ·cases h
 ·obtain⟨_,rfl⟩:=Prod.mk.inj (Option.some.inj h);rfl
def WakeOk (wk:Wk) (m:Nat) (G:Fz) (T:TS) (v fr tt:Nat):Prop:=(wk G T v fr tt).1.gas<=G.gas/\(wk G T v fr tt).1.st<=255/\∀(base gb tb:Nat) (jd:Value) (V:TV) (x:World),FT base gb tb {G with trail:=.pointer (some ⟨tb,0,none⟩),jd:=jd} T [gb] noL noL V x->V.n+m<800000000000->
 Calls prog 61 #[.pointer (some ⟨tb,0,none⟩),.pointer (some ⟨gb,0,none⟩),wv v,wv fr,wv tt] x fun e x'=>e=.returned (YL (wk G T v fr tt).1.st (wk G T v fr tt).1.gas (wk G T v fr tt).1.out noL)/\zcc base tb T (wk G T v fr tt).2 V [gb] m x x'
theorem zld {op:Nat} {F:Fz} (h:Bd F):Bd (zh (Zt op F)):=by
 unfold Zt;split
 ·exact YJ h
 ·exact h
theorem zme {op:Nat} {F G:Fz} (h:100000<G.gas\/Same F G):100000<(zh (Zt op G)).gas\/Same F (zh (Zt op G)):=by
 unfold Zt;split
 ·exact Zp h
 ·exact h
theorem FT.kb {base fb tb:Nat} {F:Fz} {T:TS} {S Z:List Nat} {sv mv:Value} {V:TV} {w w':World} (h:FT base fb tb F T S sv mv V w) (hk:Kb Z w w') (hz:∀k∈Z,k∉S/\¬zG tb T V k/\k≠0/\∃N f,w.rowIs k 137 N f):FT base fb tb F T S sv mv V w':=
 ⟨h.fr.kb hk (fun k h1 h2=>(hz k h2).1 h1) (fun h1=>(hz 0 h1).2.2.1 rfl) (fun g N f hr h1=>by obtain⟨N',f',hr'⟩:=(hz g h1).2.2.2;exact yZ hr hr' tb3 rfl),h.tr.kb hk (fun k h1=>(hz k h1).2.1) (fun h1=>(hz 0 h1).2.2.1 rfl),h.ptr,h.dis⟩
def AfterW (base fb tb:Nat) (F7:Fz) (T T':TS) (S S5:List Nat) (sv5 mv5:Value) (V:TV) (m:Nat) (w x:World):Prop:=∃V',FT base fb tb F7 T' S5 sv5 mv5 V' x/\KF S tb T V w x/\(∀k,zG tb T' V' k->zG tb T V k\/w.heap.size<=k)/\V'.n<=V.n+m/\V'.ab=V.ab
def PhV (base fb tb:Nat) (F7 F8:Fz) (T T':TS) (S S5:List Nat) (sv5 mv5:Value) (V:TV) (m:Nat) (w x11:World):Nat->World->Prop
 |0,x=>Below x11.heap.size x11 x
 |1,x=>AfterW base fb tb F7 T T' S S5 sv5 mv5 V m w x
 |_,x=>To2 base fb tb F8 T T' V S m w x
theorem KF.below {S:List Nat} {tb:Nat} {T:TS} {V:TV} {w x y:World} (h:KF S tb T V w x) (hb:Below x.heap.size x y):KF S tb T V w y:=by
 obtain⟨S2,h1,h2⟩:=h;exact⟨S2,h1.below hb,h2⟩
theorem phv_bel {base fb tb:Nat} {F7 F8:Fz} {T T':TS} {S S5:List Nat} {sv5 mv5:Value} {V:TV} {m:Nat} {w x11:World} (k:Nat) (x x':World) (h:PhV base fb tb F7 F8 T T' S S5 sv5 mv5 V m w x11 k x) (hb:Below x.heap.size x x'):PhV base fb tb F7 F8 T T' S S5 sv5 mv5 V m w x11 k x':=by
 match k,h with
 |0,h=>exact(show Below x11.heap.size x11 x from h).trans (hb.mono (show Below x11.heap.size x11 x from h).size)
 |1,⟨V',h1,h2,h3⟩=>exact⟨V',h1.below hb,h2.below hb,h3⟩
 |_+2,⟨S',sv',mv',V',h1,h2,h3⟩=>exact⟨S',sv',mv',V',h1.below hb,h2.below hb,h3⟩
theorem zec {base fb tb:Nat} {F7 F8:Fz} {T T':TS} {S S5:List Nat} {sv5 mv5:Value} {V:TV} {m:Nat} {w x11 x:World} {k:Nat} (h:PhV base fb tb F7 F8 T T' S S5 sv5 mv5 V m w x11 k x) (hk:k<=0):Below x11.heap.size x11 x:=by
 obtain rfl:k=0:=by omega
 exact h
theorem AfterW.of {base fb tb gb:Nat} {F7:Fz} {T T':TS} {S S5:List Nat} {sv5 mv5:Value} {V:TV} {m:Nat} {w x x':World} {N:Nat} {f:Nat->Value} (hft:FT base fb tb F7 T S5 sv5 mv5 V x) (hkw:Kb S w x) (hTL:∀k,zG tb T V k->k<w.heap.size) (hgb:w.heap.size<=gb) (hg5:gb∉S5) (hg0:gb≠0) (hgr:x.rowIs gb 137 N f) (h:zcc base tb T T' V [gb] m x x'):AfterW base fb tb F7 T T' S S5 sv5 mv5 V m w x':=by
 obtain⟨V',Sk,k1,k2,k3,k4,k5,k6⟩:=h;refine⟨V',⟨hft.fr.kb k2 (fun k h1 h2=> ?_) (fun h1=> ?_) (fun g N' f' hr h1=> ?_),k1,hft.ptr,fun k h1 h2=> ?_⟩,⟨S++Sk.filter (fun k=>decide (k<w.heap.size)),(hkw.mono (fun i hi=>List.mem_append_left _ hi)).trans k2 (fun i hi=> ?_),fun i hi=> ?_⟩,fun k hk=>(k4 k hk).imp id (fun h=>Nat.le_trans hkw.size h),k5,k6⟩
 ·rcases k3 k h2 with e|e
  ·exact hg5 (by rw[<-List.mem_singleton.1 e];exact h1)
  ·exact hft.dis k h1 e
 ·rcases k3 0 h1 with e|e
  ·exact hg0 (List.mem_singleton.1 e).symm
  ·exact hft.tr.no0 e
 ·rcases k3 g h1 with e|e
  ·rw[List.mem_singleton.1 e] at hr;exact yZ hr hgr tb3 rfl
  ·exact hft.tr.bno hr e
 ·rcases k4 k h2 with e|e
  ·exact hft.dis k h1 e
  ·have:=hft.fr.footlt k h1;omega
 ·by_cases hl:i<w.heap.size
  ·exact Or.inl (List.mem_append_right _ (List.mem_filter.2 ⟨hi,by simpa using hl⟩))
  ·exact Or.inr (by omega)
 ·rcases List.mem_append.1 hi with e|e
  ·exact Or.inl e
  ·obtain⟨e1,e2⟩:=List.mem_filter.1 e;have e2:i<w.heap.size:=by simpa using e2
   rcases k3 i e1 with e3|e3
   ·rw[List.mem_singleton.1 e3] at e2;omega
   ·exact Or.inr e3
theorem call_I {base fb tb:Nat} {F:Fz} {T:TS} {S:List Nat} {sv mv:Value} {V:TV} {m:Nat} (wk:Wk) (op:Nat) (hop:op<=255) (w:World) (h:FT base fb tb F T S sv mv V w) (hdl:F.depth<=1000) (hcs:∀a,(T.acc a).code.size<=1000)
  (hwk:∀asked tt v data F',F'.depth=F.depth->F'.ro=F.ro->F'.self=F.self->F'.caller=F.caller->F'.value=F.value->F'.gas<=F.gas->data.size<=65536->zal F' T v=true->∀c d,Yl wk op F T=(yQ {F' with gas:=F'.gas - Ze F' asked} (wk (zN op asked tt v data F' T) T v F'.self tt).1.st (wk (zN op asked tt v data F' T) T v F'.self tt).1.gas (wk (zN op asked tt v data F' T) T v F'.self tt).1.out c d).map (fun y=>((wk (zN op asked tt v data F' T) T v F'.self tt).2,y.2))->WakeOk wk m (zN op asked tt v data F' T) T v F'.self tt) (hn:V.n+m<800000000000):
  Calls prog 244 #[.pointer (some ⟨fb,0,none⟩),.int .u8 (op:Int)] w (Out2 (zdu (Yl wk op F T)) base fb tb T V S m w):=by
 have HFT:=zb h;go_enter func244,ntmps244;go_wp2;refine call_r0 (op:=op) _ _ hop h.fr rfl rfl rfl ?_ ?_
 ·intro u pv s x hno hd hk
  have e:Yl wk op F T=none:=by
   rcases hno with e|e|e
   ·exact zn (Or.inl e)
   ·exact zn (Or.inr (zn (Or.inl e)))
   ·exact zn (Or.inr (zn (Or.inr (zn (Or.inl e)))))
  refine⟨hd, ?_⟩;rw[e];exact⟨⟨_,_,rfl⟩,hk⟩
 intro x S0 sv0 mv0 b0 b1 b2 hf0 hk0 hs0 n0 g0 r0 n1 g1 r1 n2 g2 r2;change Fr base fb (F3w op F) S0 sv0 mv0 x at hf0;have B0:Wbx S0 x b0 (zY F):=⟨n0,r0⟩;have B1:Wbx S0 x b1 (Zh F):=⟨n1,r1⟩;have B2:Wbx S0 x b2 (zA (Zt op (zE F))):=⟨n2,r2⟩;have hsm0:100000<(F3w op F).gas\/Same F (F3w op F):=zme (Zp (Zp (Or.inr (Same.refl F))));have e0:∀r,zK (zi F) (zK (zi (zh (zi F))) (zK (Zt op (zE F)) r))=(r:Option (TS×Fz)):=fun r=>(zT fun e=>ZS (zld (YJ (zV e))) hf0).trans ((zT fun e=>ZS (zld (zV e)) hf0).trans (zT fun e=>ZS (zV e) hf0))
 simp only[zF,List.foldl_cons,List.foldl_nil,Act.put];simp only[sx9];clear n0 g0 r0 n1 g1 r1 n2 g2 r2 h;go_wp2;refine zbg _ _ hf0 rfl rfl rfl rfl ?_ ?_
 ·intro u pv s y hno hd hk
  have e:Yl wk op F T=none:=(e0 _).trans (by
   rcases hno with e|e
   ·exact zn (Or.inl e)
   ·exact zn (Or.inr (zn (Or.inl e))))
  refine⟨hd, ?_⟩;rw[e];exact⟨⟨_,_,rfl⟩,hk0.trans hk hs0⟩
 intro x1 S1 sv1 mv1 b3 b4 hf1 hk1 hs1 n3 g3 r3 n4 g4 r4;change Fr base fb (zE (F3w op F)) S1 sv1 mv1 x1 at hf1;have B0:=B0.step hk1 hs1;have B1:=B1.step hk1 hs1;have B2:=B2.step hk1 hs1;have B3:Wbx S1 x1 b3 (zY (F3w op F)):=⟨n3,r3⟩;have B4:Wbx S1 x1 b4 (Zh (F3w op F)):=⟨n4,r4⟩;have hk1:=hk0.trans hk1 hs0;have hs1:∀j∈S1,j∈S\/w.heap.size<=j:=fun j hj=>(hs1 j hj).elim (hs0 j) (fun h=>Or.inr (Nat.le_trans hk0.size h))
 have e1:∀r,zK (zi (F3w op F)) (zK (zi (zh (zi (F3w op F)))) r)=(r:Option (TS×Fz)):=fun r=>(zT fun e=>ZS (YJ (zV e)) hf1).trans (zT fun e=>ZS (zV e) hf1)
 simp only[zF,List.foldl_cons,List.foldl_nil,Act.put];simp only[sx9];clear n3 g3 r3 n4 g4 r4 hf0 hk0 hs0;go_wp2;refine zbg _ _ hf1 rfl rfl rfl rfl ?_ ?_
 ·intro u pv s y hno hd hk
  have e:Yl wk op F T=none:=(e0 _).trans ((e1 _).trans (by
   rcases hno with e|e
   ·exact zn (Or.inl e)
   ·exact zn (Or.inr (zn (Or.inl e)))))
  refine⟨hd, ?_⟩;rw[e];exact⟨⟨_,_,rfl⟩,hk1.trans hk hs1⟩
 intro x2 S2 sv2 mv2 b5 b6 hf2 hk2 hs2 n5 g5 r5 n6 g6 r6;change Fr base fb (zE (zE (F3w op F))) S2 sv2 mv2 x2 at hf2;have B0:=B0.step hk2 hs2;have B1:=B1.step hk2 hs2;have B2:=B2.step hk2 hs2;have B3:=B3.step hk2 hs2;have B4:=B4.step hk2 hs2;have B5:Wbx S2 x2 b5 (zY (zE (F3w op F))):=⟨n5,r5⟩;have B6:Wbx S2 x2 b6 (Zh (zE (F3w op F))):=⟨n6,r6⟩;have hk2:=hk1.trans hk2 hs1;have hs2:∀j∈S2,j∈S\/w.heap.size<=j:=fun j hj=>(hs2 j hj).elim (hs1 j) (fun h=>Or.inr (Nat.le_trans hk1.size h))
 have e2:Yl wk op F T=zcC wk op (zY F) (Zh F) (zA (Zt op (zE F))) (zY (F3w op F)) (Zh (F3w op F)) (zY (zE (F3w op F))) (Zh (zE (F3w op F))) (zE (zE (F3w op F))) T:=
  (e0 _).trans ((e1 _).trans ((zT fun e=>ZS (YJ (zV e)) hf2).trans (zT fun e=>ZS (zV e) hf2)))
 have hsm:Same F (zE (zE (F3w op F))):=(Zp (Zp (Zp (Zp hsm0)))).resolve_left (fun hb=>absurd hf2.gal (by have:(zE (zE (F3w op F))).gas=(zh (zi (zh (zi (zh (zi (zh (zi (F3w op F))))))))).gas:=rfl;omega));simp only[zF,List.foldl_cons,List.foldl_nil,Act.put];simp only[sx9]
 have HST:Hid ((zE (zE (F3w op F))).st.length<=1018):=by
  show _<=_;have h1:(zh (zi F)).st.length<=F.st.length - 1:=za8 F;have h2:(zE F).st.length<=(zh (zi F)).st.length - 1:=za8 _;have h3:(F3w op F).st.length<=(zE F).st.length:=st_popv op (zE F);have h4:(zh (zi (F3w op F))).st.length<=(F3w op F).st.length - 1:=za8 _;have h5:(zE (F3w op F)).st.length<=(zh (zi (F3w op F))).st.length - 1:=za8 _;have h6:(zh (zi (zE (F3w op F)))).st.length<=(zE (F3w op F)).st.length - 1:=za8 _;have h7:(zE (zE (F3w op F))).st.length<=(zh (zi (zE (F3w op F)))).st.length - 1:=za8 _;have h8:=HFT.out.fr.stl;generalize(zE (zE (F3w op F))).st.length=a7 at*;generalize(zh (zi (zE (F3w op F)))).st.length=a6 at*;generalize(zE (F3w op F)).st.length=a5 at*;generalize(zh (zi (F3w op F))).st.length=a4 at*;generalize(F3w op F).st.length=a3 at*;generalize(zE F).st.length=a2 at*;generalize(zh (zi F)).st.length=a1 at*;omega
 have HE:=zb e2;clear n5 g5 r5 n6 g6 r6 hf1 hk1 hs1 e0 e1 e2 hsm0;generalize(zE (zE (F3w op F)))=Fq at*;generalize zY (zE (F3w op F))=rp at*;generalize Zh (zE (F3w op F))=rl at*;generalize zY (F3w op F)=dp at*;generalize Zh (F3w op F)=dl at*;generalize zA (Zt op (zE F))=v at*;generalize Zh F=tt at*;generalize zY F=asked at*;generalize Yl wk op F T=R at*;have hez:=Z5 v;obtain⟨z0,z1,z2,z3⟩:_/\_/\_/\_:=⟨hf2.zr 0 (by omega),hf2.zr 1 (by omega),hf2.zr 2 (by omega),hf2.zr 3 (by omega)⟩;obtain⟨c0,c1,c2,c3⟩:=ze B2.row;obtain⟨d0,d1,d2,d3⟩:=ze B3.row;obtain⟨f0,f1,f2,f3⟩:=ze B4.row;by_cases hv:v%M=0
 case' pos=>
  have hkp:Keep F Fq:=Keep.of hsm
  have HEZ:Hid (R=zaC wk op asked tt v dp dl rp rl Fq T):=by
   show R=_;rw[HE.out];unfold zcC zcl;rw[if_pos hv]
  rw[YY hv] at hez;clear HE hsm hv;go_wp2_with fail
  have hf3:=hf2;clear hf2;obtain⟨x3,rfl⟩:∃x3,x3=x2:=⟨_,rfl⟩
 case' neg=>
  rw[Ys hv] at hez;have HMC:=zb (zbo x2 hf2)
  have HEZ:Hid (R=if Fq.ro=true then none else match yC 900 Fq with|none=>none|some (_,F1)=>zaC wk op asked tt v dp dl rp rl F1 T):=by
   show R=_;rw[HE.out];unfold zcC zcl;rw[if_neg hv];by_cases hr:Fq.ro=true
   ·rw[if_pos hr,if_pos hr]
   ·rw[if_neg hr,if_neg hr]
  have HPY:=zb (pay_B 900 (by omega) x2 hf2);clear HE hv;go_wp2_with fail
  refine HMC.out.mono ?_;rintro e x3 ⟨h1,hx3⟩;obtain rfl:=hx3.symm;clear hx3;by_cases hro:Fq.ro=true
  case pos=>
   rw[if_pos hro] at h1;obtain⟨u,pv,rfl⟩:=h1;have e:R=none:=HEZ.out.trans (if_pos hro);refine⟨rfl, ?_⟩;rw[e];exact⟨⟨_,_,rfl⟩,hk2⟩
  rw[if_neg hro] at h1;subst h1;have HEZ:Hid (R=match yC 900 Fq with|none=>none|some (_,F1)=>zaC wk op asked tt v dp dl rp rl F1 T):=HEZ.out.trans (if_neg hro);clear hro;go_wp2_with fail
  refine HPY.out.mono ?_;intro e x3 hp;have hpf:yC 900 Fq=if Fq.gas<900 then none else some ((),{Fq with gas:=Fq.gas - 900}):=rfl
  by_cases hg:Fq.gas<900
  case pos=>
   rw[if_pos hg] at hp hpf;rw[hpf] at HEZ;obtain⟨⟨u,pv,rfl⟩,hk⟩:=hp;have e:R=none:=HEZ.out;refine⟨rfl, ?_⟩;rw[e];exact⟨⟨_,_,rfl⟩,hk2.trans hk (by simp)⟩
  rw[if_neg hg] at hp hpf;rw[hpf] at HEZ;obtain⟨rfl,hf3,hk3⟩:=hp;have hfbS:∀i∈[fb],i∈S2:=fun i hi=>by rw[List.mem_singleton.1 hi,hf2.foot];simp
  have hk3:=hk3.mono hfbS;have hkp:Keep F {Fq with gas:=Fq.gas - 900}:=(Keep.of hsm).trans (zmW Fq 900);have B0:=B0.step hk3 (fun j hj=>Or.inl hj);have B1:=B1.step hk3 (fun j hj=>Or.inl hj);have B2:=B2.step hk3 (fun j hj=>Or.inl hj);have B3:=B3.step hk3 (fun j hj=>Or.inl hj);have B4:=B4.step hk3 (fun j hj=>Or.inl hj);have B5:=B5.step hk3 (fun j hj=>Or.inl hj);have B6:=B6.step hk3 (fun j hj=>Or.inl hj);have hk2:=hk2.trans hk3 hs2;have HEZ:Hid (R=zaC wk op asked tt v dp dl rp rl {Fq with gas:=Fq.gas - 900} T):=HEZ;have HST:Hid (({Fq with gas:=Fq.gas - 900}:Fz).st.length<=1018):=HST;clear hk3 hf2 HPY HMC hpf hg hsm hfbS c0 c1 c2 c3 d0 d1 d2 d3 f0 f1 f2 f3 z0 z1 z2 z3;generalize({Fq with gas:=Fq.gas - 900}:Fz)=Fq at*;obtain⟨d0,d1,d2,d3⟩:=ze B3.row;obtain⟨f0,f1,f2,f3⟩:=ze B4.row;go_wp2_with fail
 all_goals (
  refine(zav dp dl x3 hf3).mono ?_;intro e x4 ho;cases hq:zk dp dl Fq with
  |none=>
   rw[hq] at ho;obtain⟨⟨u,pv,rfl⟩,hk⟩:=ho;have e:R=none:=by rw[HEZ.out];unfold zaC;rw[hq]
   refine⟨rfl, ?_⟩;rw[e];exact⟨⟨_,_,rfl⟩,hk2.trans hk hs2⟩
  |some z=>
   obtain⟨⟨a,b⟩,F4⟩:=z;rw[hq] at ho;obtain⟨vv,S4,sv4,mv4,rfl,hf4,hk4,hs4,hpo⟩:=ho;have hlen:=yh hq hf3.m32;have hkp4:=hkp.trans (zas hq);have HST4:Hid (F4.st.length<=1018):=by show F4.st.length<=1018;rw[zgo hq];exact HST.out
   have hstr:=(hpo.rds hf4.me hlen).str
   have hdl9:(ya (zP F4.mem a b)).size<=65536:=by
    have:=zdh hlen;have:=hf4.mel;show(zP F4.mem a b).length<=65536;omega
   have HEZ4:Hid (R=match zk rp rl F4 with|none=>none|some ((c,d),F5)=>zbe wk op asked tt v (ya (zP F4.mem a b)) c d {F5 with ret:=⟨#[]⟩} T):=by
    show R=_;rw[HEZ.out];unfold zaC;rw[hq]
   change (convert 26 9 vv).run prog x4=.ok (.string (ya (zP F4.mem a b))) x4 at hstr;generalize ya (zP F4.mem a b)=dat at*;obtain⟨adv,cv,rfl, -⟩:=hpo;have C0:=B0.step hk4 hs4;have C1:=B1.step hk4 hs4;have C2:=B2.step hk4 hs4;have C5:=B5.step hk4 hs4;have C6:=B6.step hk4 hs4;have hk4:=hk2.trans hk4 hs2;have hs4:∀j∈S4,j∈S\/w.heap.size<=j:=fun j hj=>(hs4 j hj).elim (hs2 j) (fun h=>Or.inr (Nat.le_trans hk2.size h))
   clear B0 B1 B2 B3 B4 B5 B6 hk2 hs2 hf3 HEZ hq hkp hlen hez d0 d1 d2 d3 f0 f1 f2 f3;obtain⟨d0,d1,d2,d3⟩:=ze C5.row;obtain⟨f0,f1,f2,f3⟩:=ze C6.row;go_wp2_with fail
   refine(zav rp rl x4 hf4).mono ?_;intro e x5 ho;cases hq2:zk rp rl F4 with
   |none=>
    rw[hq2] at ho HEZ4;obtain⟨⟨u,pv,rfl⟩,hk⟩:=ho;have e:R=none:=HEZ4.out;refine⟨rfl, ?_⟩;rw[e];exact⟨⟨_,_,rfl⟩,hk4.trans hk hs4⟩
   |some z2=>
    obtain⟨⟨c,d⟩,F5⟩:=z2;rw[hq2] at ho HEZ4;obtain⟨room,S5,sv5,mv5,rfl,hf5,hk5,hs5,hpo5⟩:=ho;have hkp5:=hkp4.trans (zas hq2);have HST6:Hid (({F5 with ret:=⟨#[]⟩}:Fz).st.length<=1018):=by show F5.st.length<=1018;rw[zgo hq2];exact HST4.out
    obtain⟨adr,cr,rfl,hpr⟩:=hpo5;have HPR:Hid (PartOf mv5 (.slice adr d cr) c d):=⟨adr,cr,rfl,hpr⟩;have C0:=C0.step hk5 hs5;have C1:=C1.step hk5 hs5;have C2:=C2.step hk5 hs5;have hk5:=hk4.trans hk5 hs4;have hs5:∀j∈S5,j∈S\/w.heap.size<=j:=fun j hj=>(hs5 j hj).elim (hs4 j) (fun h=>Or.inr (Nat.le_trans hk4.size h))
    have cr1:=hf5.row.cell (i:=21) (by decide);have fr1:=hf5.row.frozen 21;change _=some (Value.string F5.ret) at cr1;have hfb5:fb∈S5:=by rw[hf5.foot];simp
    have hkc:Kb [fb] x5 (x5.setCell ⟨fb,21,none⟩ (.string ⟨#[]⟩)):=(Kb.refl [fb] x5).setCell (p:=⟨fb,21,none⟩) (Or.inl (by simp)) _;have hf6:Fr base fb {F5 with ret:=⟨#[]⟩} S5 sv5 mv5 (x5.setCell ⟨fb,21,none⟩ (.string ⟨#[]⟩)):=hf5.own' (F':={F5 with ret:=⟨#[]⟩}) rfl rfl rfl rfl hf5.gal (Yn hf5.row (ziP _ sv5 mv5 ⟨#[]⟩)) hkc;have hkc:=hkc.mono (fun i hi=>by rw[List.mem_singleton.1 hi];exact hfb5) (T:=S5);have C0:=C0.step hkc (fun j hj=>Or.inl hj);have C1:=C1.step hkc (fun j hj=>Or.inl hj);have C2:=C2.step hkc (fun j hj=>Or.inl hj);have hk6:=hk5.trans hkc hs5;have hkp6:Keep F {F5 with ret:=⟨#[]⟩}:=hkp5.trans ⟨rfl,rfl,rfl,rfl,rfl,rfl,Nat.le_refl _⟩;have HEZ6:Hid (R=zbe wk op asked tt v dat c d {F5 with ret:=⟨#[]⟩} T):=HEZ4.out;obtain⟨F6,HF6⟩:∃F6:Fz,Hid (F6={F5 with ret:=⟨#[]⟩}):=⟨_,rfl⟩;obtain⟨x6,HX6⟩:∃x6,Hid (x6=x5.setCell ⟨fb,21,none⟩ (.string ⟨#[]⟩)):=⟨_,rfl⟩;rw[<-HF6.out] at hf6 hkp6 HEZ6 HST6;have hne2:b2≠fb:=fun e=>C2.no (by rw[e];exact hfb5)
    have hne2':fb≠b2:=fun e=>hne2 e.symm
    obtain⟨q0,q1,q2,q3⟩:=ze C2.row;rw[<-HX6.out] at hf6 hk6 C0 C1 C2;have hft:=HFT.out.next hkp6.trail hf6 hk6 hs5;have HMAY:=zb (zh7 v x6 hft (by rw[hkp6.depth];exact hdl));have HC0:=zb C0;have HC1:=zb C1;have HC2:=zb C2;have HFT6:=zb hft;have HK6:=zb hk6;have HS6:=zb hs5;have HKP:=zb hkp6;clear hkc hf6 hf5 hk5 hs5 hkp5 hkp6 hk6 C0 C1 C2 hft HEZ4 hq2 hpr hf4 hk4 hs4 hkp4 d0 d1 d2 d3 f0 f1 f2 f3 hfb5;go_wp2_with fail
    rw[<-HX6.out];refine HMAY.out.mono ?_;rintro e x7 ⟨rfl,hb7⟩;have hft7:=HFT6.out.below hb7;have HK7:Hid (Kb S w x7):=HK6.out.below hb7;have C0:=HC0.out.below hb7;have C1:=HC1.out.below hb7;have C2:=HC2.out.below hb7;clear hb7 q0 q1 q2 q3 HMAY HC0 HC1 HC2 HFT6 HK6 hne2 hne2' HX6 cr1 fr1;cases hmay:zal F6 T v with
    |false=>
     have hR9:Hid (zl 0 F6=none->R=none):=fun e=>by
      rw[HEZ6.out];unfold zbe;rw[hmay,if_neg (by simp),e];rfl
     have hRS:R=(zl 0 F6).map fun y=>(T,y.2):=by
      rw[HEZ6.out];unfold zbe;rw[hmay,if_neg (by simp)]
     have hf7:=hft7.fr;have HRS:=zb hRS;have HFT7:=zb hft7;clear hRS hft7 C0 C1 C2 HEZ6;go_wp2
     refine zq (PhF base fb (fun k=>match k with|0=>F6|_=>zh (zl 0 F6)) S5 x7) (fun _ _ _=>True) [(0,(.pointer (some ⟨fb,0,none⟩)))] [(some 64,.v (.pointer (some ⟨fb,0,none⟩))),(some 65,.v (.pointer (some ⟨fb,0,none⟩))),(some 66,.v (.pointer (some ⟨fb,19,none⟩))),(some 67,.v (wv 0)),(some 68,.v (.tuple #[]))] [4] [3] (by kernel_rfl) (by rfl) (by rfl) (by kernel_rfl) (PhF.init hf7) (PhF.bel)
       (zf _ _ _ rfl rfl
       (fun s x hph hdf hv hl K hK=>by
        refine ZP (val:=zx) (c:=.tuple #[]) hph hv (fun S' sv mv hf=>yg (0) x hf) (by kernel_rfl) rfl (fun _ _ _=>rfl) (fun hno u pv x' hk=> ?_) (fun x' hp=>hK _ x' hp trivial nn1 rfl);refine⟨hdf, ?_⟩;rw[hR9.out (show zl 0 F6=none from hno)];exact⟨⟨_,_,rfl⟩,HK7.out.trans hk HS6.out⟩)
       True.intro)
       (zf _ _ _ rfl rfl
       (fun k s x hk hlo hhi hph hdf hv hl K hK=>by
        obtain⟨S',sv',mv',hf,_⟩:=hph;exact ziX (n:=0) ((hf.zr 0 (by omega)).trans (by rw[zs])) ((hf.zr 1 (by omega)).trans (by rw[zs])) ((hf.zr 2 (by omega)).trans (by rw[zs])) ((hf.zr 3 (by omega)).trans (by rw[zs])) (hK _ x (Below.refl _ _) nn1 rfl))
       True.intro)
       (fun _ _ _ h=>(zo rfl h).elim) (fun _ _ _ h=>(zo rfl h).elim) ?_
     intro gg z hz _
     have HO:Hid (Out2 (zdu R) base fb tb T V S m w (.returned (.tuple #[])) z):=by
      show Out2 _ _ _ _ _ _ _ _ _ _ _;have ho:=PhF.out1 (r:=zl 0 F6) hz;rw[HRS.out];cases hpu:zl 0 F6 with
      |none=>rw[hpu] at ho;obtain⟨⟨u,pv,e⟩,_⟩:=ho;cases e
      |some y=>
       obtain⟨u,F9⟩:=y;rw[hpu] at ho
       have ht:F9.trail=F6.trail:=by
        unfold zl at hpu;split at hpu
        ·cases hpu
        ·obtain⟨_,rfl⟩:=Prod.mk.inj (Option.some.inj hpu);rfl
       refine⟨rfl, ?_⟩;have:=HFT7.out.lift ht ho.2;have h9:=To2.comp (m:=0) HFT.out.foot (fun k hk=>HFT.out.tr.lt hk) ⟨S,HK7.out,fun k hk=>Or.inl hk⟩ HS6.out (fun k hk=>Or.inl hk) (Nat.le_refl _) rfl this;obtain⟨S',sv',mv',V',y1,y2,y3,y4,y5,y6⟩:=h9;exact⟨S',sv',mv',V',y1,y2,y3,y4,by omega,y6⟩
     clear hz hf7;simp only[yy,yw,yx,Zg,zF,List.foldl_cons,List.foldl_nil,Act.put];simp only[sx9];go_wp2;go_end0;exact HO.out
    |true=>
     have HRS:Hid (R=(yQ {F6 with gas:=F6.gas - Ze F6 asked} (wk (zN op asked tt v dat F6 T) T v F6.self tt).1.st (wk (zN op asked tt v dat F6 T) T v F6.self tt).1.gas (wk (zN op asked tt v dat F6 T) T v F6.self tt).1.out c d).map fun y=>((wk (zN op asked tt v dat F6 T) T v F6.self tt).2,y.2)):=by
      show R=_;rw[HEZ6.out];unfold zbe;rw[hmay,if_pos rfl]
     have HWK:=zb (hwk asked tt v dat F6 HKP.out.depth HKP.out.ro HKP.out.self HKP.out.caller HKP.out.value HKP.out.gas hdl9 hmay c d HRS.out);have HCA:=zb (zjV op tt v hop x7 hft7 (hcs tt) (by rw[HKP.out.depth];exact hdl));obtain⟨q0,q1,q2,q3⟩:=ze C1.row;obtain⟨p0,p1,p2,p3⟩:=ze C2.row;have HFT7:=zb hft7;have HC0:=zb C0;have HC1:=zb C1;have HC2:=zb C2;have HNB1:=zb C1.no;have HNB2:=zb C2.no;clear HEZ6 hft7 C0 C1 C2 hmay;go_wp2_with fail
     refine HCA.out.mono ?_;rintro e x8 ⟨gb,jd,rfl,hgb,hb8,hfg⟩;clear q0 q1 q2 q3 p0 p1 p2 p3 HCA;have HGR:=zb (zjh asked x8 (HFT7.out.below hb8).fr);obtain⟨q0,q1,q2,q3⟩:=ze (HC0.out.below hb8).row;have HB8:=zb hb8;have HFG:=zb hfg;have HGB:=zb hgb;clear hb8 hfg hgb;go_wp2_with fail
     refine HGR.out.mono ?_;rintro e x9 ⟨rfl,hb9⟩;have hgrl:Ze F6 asked<=F6.gas:=by unfold Ze zdZ;split<;>omega
     have hgal:=HFT7.out.fr.gal;have hB79:Below x7.heap.size x7 x9:=HB8.out.trans (hb9.mono HB8.out.size);have hft9:=HFT7.out.below hB79;have hfg9:=HFG.out.below hb9;have k1:=hfg9.fr.row.cell (i:=15) (by decide);have f1:=hfg9.fr.row.frozen 15;have k2:=hfg9.fr.row.cell (i:=16) (by decide);have f2:=hfg9.fr.row.frozen 16;change _=some (Value.string ⟨#[]⟩) at k1;change _=some (Value.int .i64 0) at k2;have HCG:Hid (∀jd,({zN op asked tt v dat F6 T with trail:=.pointer (some ⟨tb,0,none⟩),jd:=jd}:Fz)={za4 F6 tb op tt v (T.acc tt).code jd with data:=dat,gas:=Ze F6 asked}):=fun jd=>rfl
     have HCGG:Hid ((zN op asked tt v dat F6 T).gas=Ze F6 asked):=rfl;obtain⟨W,HWd⟩:∃W:Res×TS,Hid (W=wk (zN op asked tt v dat F6 T) T v F6.self tt):=⟨_,rfl⟩
     have HWK:Hid (W.1.gas<=Ze F6 asked/\W.1.st<=255/\∀(base gb tb':Nat) (jd:Value) (V:TV) (x:World),FT base gb tb' {zN op asked tt v dat F6 T with trail:=.pointer (some ⟨tb',0,none⟩),jd:=jd} T [gb] noL noL V x->V.n+m<800000000000->
      Calls prog 61 #[.pointer (some ⟨tb',0,none⟩),.pointer (some ⟨gb,0,none⟩),wv v,wv F6.self,wv tt] x fun e x'=>e=.returned (YL W.1.st W.1.gas W.1.out noL)/\zcc base tb' T W.2 V [gb] m x x'):=by
      rw[HWd.out];exact HWK.out
     rw[<-HWd.out] at HRS;generalize Ze F6 asked=gr at*;obtain⟨G9,HG9⟩:∃G9:Fz,Hid (G9={za4 F6 tb op tt v (T.acc tt).code jd with data:=dat,gas:=gr}):=⟨_,rfl⟩
     have HWK:Hid (W.1.gas<=gr/\W.1.st<=255/\∀(base gb tb':Nat) (jd':Value) (V:TV) (x:World),tb'=tb->jd'=jd->FT base gb tb' G9 T [gb] noL noL V x->V.n+m<800000000000->
      Calls prog 61 #[.pointer (some ⟨tb',0,none⟩),.pointer (some ⟨gb,0,none⟩),wv v,wv F6.self,wv tt] x fun e x'=>e=.returned (YL W.1.st W.1.gas W.1.out noL)/\zcc base tb' T W.2 V [gb] m x x'):=by
      refine⟨HWK.out.1,HWK.out.2.1,fun base gb tb' jd' V x e1 e2 hf hn'=> ?_⟩;subst e1 e2;rw[HG9.out,<-HCG.out] at hf;exact HWK.out.2.2 base gb tb' jd' V x hf hn'
     have hk10:Kb [gb] x9 ((x9.setCell ⟨gb,15,none⟩ (.string dat)).setCell ⟨gb,16,none⟩ (.int .i64 (gr:Int))):=((Kb.refl [gb] x9).setCell (p:=⟨gb,15,none⟩) (Or.inl (by simp)) _).setCell (p:=⟨gb,16,none⟩) (Or.inl (by simp)) _
     have hfg10:FT base gb tb G9 T [gb] noL noL V ((x9.setCell ⟨gb,15,none⟩ (.string dat)).setCell ⟨gb,16,none⟩ (.int .i64 (gr:Int))):=by
      rw[HG9.out];have ha:=hfg9.own (F':={za4 F6 tb op tt v (T.acc tt).code jd with data:=dat}) rfl rfl rfl rfl rfl hfg9.fr.gal (Yn hfg9.fr.row (zgg _ noL noL dat)) ((Kb.refl [gb] x9).setCell (p:=⟨gb,15,none⟩) (Or.inl (by simp)) _);exact ha.own (F':={za4 F6 tb op tt v (T.acc tt).code jd with data:=dat,gas:=gr}) rfl rfl rfl rfl rfl (by show gr<=100000;omega) (Yn ha.fr.row (zak _ noL noL gr)) ((Kb.refl [gb] _).setCell (p:=⟨gb,16,none⟩) (Or.inl (by simp)) _)
     have hgb7:=HGB.out;have hgb5:gb∉S5:=fun hm=>by have:=HFT7.out.fr.footlt gb hm;omega
     have hgbT:¬zG tb T V gb:=fun hm=>by have:=HFT7.out.tr.lt hm;omega
     have hgb0:gb≠0:=by have:=HFT7.out.fr.hs;omega
     have hft10:=hft9.kb hk10 (fun k hk=>by rw[List.mem_singleton.1 hk];exact⟨hgb5,hgbT,hgb0,_,_,hfg9.fr.row⟩);have hbx1:=hk10.row (zg HC1.out.row hB79) (fun hm=>by have:=HC1.out.row.lt;have:=List.mem_singleton.1 hm;omega);have hbx2:=hk10.row (zg HC2.out.row hB79) (fun hm=>by have:=HC2.out.row.lt;have:=List.mem_singleton.1 hm;omega);have HGBw:Hid (w.heap.size<=gb):=Nat.le_trans HK7.out.size HGB.out;have HTLw:Hid (∀k,zG tb T V k->k<w.heap.size):=fun k hk=>HFT.out.tr.lt hk
     have hkw10:Kb S w ((x9.setCell ⟨gb,15,none⟩ (.string dat)).setCell ⟨gb,16,none⟩ (.int .i64 (gr:Int))):=(HK7.out.below hB79).trans hk10 (fun i hi=>Or.inr (by rw[List.mem_singleton.1 hi];exact HGBw.out));obtain⟨x10,HX10⟩:∃x10,Hid (x10=(x9.setCell ⟨gb,15,none⟩ (.string dat)).setCell ⟨gb,16,none⟩ (.int .i64 (gr:Int))):=⟨_,rfl⟩;rw[<-HX10.out] at hfg10 hft10 hbx1 hbx2 hkw10;have hlt10:=hft10.fr.row.lt;have cg10:=hft10.fr.row.cell (i:=16) (by decide);have fg10:=hft10.fr.row.frozen 16;change _=some (Value.int .i64 (F6.gas:Int)) at cg10;have hlg10:=hfg10.fr.row.lt;have cgg10:=hfg10.fr.row.cell (i:=16) (by decide);rw[show G9.cell noL noL 16=.int .i64 (gr:Int) by rw[HG9.out];rfl] at cgg10;clear hk10 hft9 hfg9 hb9 HGR hB79 HC0 HC1 HC2 HCG HCGG HWd q0 q1 q2 q3 hgbT hgb7;go_wp2;rw[<-HX10.out]
     refine zq (PhC x10 ⟨fb,16,none⟩ (.int .i64 ((F6.gas - gr:Nat):Int))) (fun _ _ _=>True) [(0,(.pointer (some ⟨fb,0,none⟩))),(13,(.pointer (some ⟨gb,0,none⟩)))] [(some 84,.v (.pointer (some ⟨fb,0,none⟩))),(some 85,.v (.pointer (some ⟨fb,0,none⟩))),(some 86,.v (.pointer (some ⟨fb,16,none⟩))),(some 87,.v (.int .i64 (F6.gas:Int))),(some 88,.v (.pointer (some ⟨gb,0,none⟩))),(some 89,.v (.pointer (some ⟨gb,0,none⟩))),(some 90,.v (.pointer (some ⟨gb,16,none⟩))),(some 91,.v (.int .i64 (gr:Int))),(some 92,.v (.int .i64 ((F6.gas - gr:Nat):Int))),(some 93,.v (.pointer (some ⟨fb,0,none⟩))),(some 94,.v (.pointer (some ⟨fb,16,none⟩))),(none,.v undef)] [11] [3,7,8] (by kernel_rfl) (by rfl) (by rfl) (by kernel_rfl) ((Below.refl _ _).drew) (zd8)
       (zf _ _ _ rfl rfl
       (fun s x hph hdf hv hl K hK=>by
           have hx:Below x10.heap.size x10 x:=hph;exact zdr (v:=((F6.gas - gr:Nat):Int)) (hv 94 _ rfl) (hv 92 _ rfl) ((hx.cell (by exact hlt10)).trans cg10) ((hx.frozen (by exact hlt10)).trans fg10) (hK _ _ ⟨x,hx,Below.refl _ _⟩ trivial (fun _=>rfl) rfl))
       True.intro)
       (zf _ _ _ rfl rfl
       (fun k s x hk hlo hhi hph hdf hv hl K hK=>by
           have hx:Below x10.heap.size x10 x:=zam hph (hhi 0 11 rfl (by kernel_rfl));exact zv (v:=.int .i64 (F6.gas:Int)) (fun w=>by kernel_rfl) (hv 86 _ rfl) ((hx.cell (by exact hlt10)).trans cg10) (hK _ x (Below.refl _ _) nn1 rfl))
       (zf _ _ _ rfl rfl
       (fun k s x hk hlo hhi hph hdf hv hl K hK=>by
           have hx:Below x10.heap.size x10 x:=zam hph (hhi 0 11 rfl (by kernel_rfl));exact zv (v:=.int .i64 (gr:Int)) (fun w=>by kernel_rfl) (hv 90 _ rfl) ((hx.cell (by exact hlg10)).trans cgg10) (hK _ x (Below.refl _ _) nn1 rfl))
       (zf _ _ _ rfl rfl
       (fun k s x hk hlo hhi hph hdf hv hl K hK=>by
           exact st_subI (a:=F6.gas) (b:=gr) (hv 87 _ rfl) (hv 91 _ rfl) hgrl (by omega) (hK _ x (Below.refl _ _) nn1 rfl))
       True.intro)))
       (fun _ _ _ h=>(zo rfl h).elim) (fun _ _ _ h=>(zo rfl h).elim) ?_
     intro gg x11 hph _;obtain⟨y,hy1,hy2⟩:PhC x10 ⟨fb,16,none⟩ (.int .i64 ((F6.gas - gr:Nat):Int)) 1 x11:=hph;obtain⟨F7,HF7⟩:∃F7:Fz,Hid (F7={F6 with gas:=F6.gas - gr}):=⟨_,rfl⟩;rw[<-HF7.out] at HRS;have hk11:Kb [fb] x10 x11:=((Kb.of_below (S:=[fb]) hy1).setCell (p:=⟨fb,16,none⟩) (Or.inl (by simp)) _).below hy2
     have hf11:Fr base fb F7 S5 sv5 mv5 x11:=by
      rw[HF7.out];exact((hft10.fr.below hy1).own' (F':={F6 with gas:=F6.gas - gr}) rfl rfl rfl rfl (by show F6.gas - gr<=100000;omega) (Yn (hft10.fr.below hy1).row (zak F6 sv5 mv5 (F6.gas - gr))) ((Kb.refl [fb] y).setCell (p:=⟨fb,16,none⟩) (Or.inl (by simp)) _)).below hy2
     have hfb5:fb∈S5:=by rw[hft10.fr.foot];simp
     have hfg11:=hfg10.kb hk11 (fun k hk=>by rw[List.mem_singleton.1 hk];exact⟨fun hm=>hgb5 (by rw[<-List.mem_singleton.1 hm];exact hfb5),hft10.dis fb hfb5,fun e=>hft10.fr.no0 (by rw[<-e];exact hfb5),_,_,hft10.fr.row⟩);have hft11:FT base fb tb F7 T S5 sv5 mv5 V x11:=⟨hf11,hfg11.tr,by rw[HF7.out];exact hft10.ptr,hft10.dis⟩;have hbx1:=hk11.row hbx1 (fun hm=>HNB1.out (by rw[List.mem_singleton.1 hm];exact hfb5));have hbx2:=hk11.row hbx2 (fun hm=>HNB2.out (by rw[List.mem_singleton.1 hm];exact hfb5));have hkw11:Kb S w x11:=hkw10.trans hk11 (fun i hi=>by rw[List.mem_singleton.1 hi];exact HS6.out fb hfb5)
     have htk:yQ F7 W.1.st W.1.gas W.1.out c d=some ((),zh (yQ F7 W.1.st W.1.gas W.1.out c d)):=by
      refine zaW fun e=> ?_
      unfold yQ zl at e;split at e
      ·rename_i hl;have h9:(zeF F7 W.1.gas W.1.out c d).st.length=F6.st.length:=by rw[HF7.out];rfl
       have:=HST6.out;omega
      ·cases e
     have hself:F7.self=F6.self:=by rw[HF7.out]
     have HFIN:Hid (R=some (W.2,zh (yQ F7 W.1.st W.1.gas W.1.out c d))):=by
      show R=_;rw[HRS.out,htk];rfl
     have hwg:=HWK.out.1;have hF7g:F7.gas=F6.gas - gr:=by rw[HF7.out]
     clear hy1 hy2 hk11 hf11 hft10 hfg10 hkw10 cg10 fg10 cgg10 hlt10 hlg10 HX10 k1 f1 k2 f2;simp only[yy,yw,yx,Zg,zF,List.foldl_cons,List.foldl_nil,Act.put];simp only[sx9];go_wp2
     refine zq (PhV base fb tb F7 (zh (yQ F7 W.1.st W.1.gas W.1.out c d)) T W.2 S S5 sv5 mv5 V m w x11) (fun _ _ _=>True) [(0,(.pointer (some ⟨fb,0,none⟩))),(12,(.slice adr d cr)),(13,(.pointer (some ⟨gb,0,none⟩))),(6,(.pointer (some ⟨b2,0,none⟩))),(5,(.pointer (some ⟨b1,0,none⟩)))] [(some 95,.v (.pointer (some ⟨fb,0,none⟩))),(some 96,.v (.pointer (some ⟨fb,0,none⟩))),(some 97,.v (.pointer (some ⟨fb,0,none⟩))),(some 98,.v (.pointer (some ⟨fb,0,none⟩))),(some 99,.v (.pointer (some ⟨tb,0,none⟩))),(some 100,.v (.pointer (some ⟨gb,0,none⟩))),(some 101,.v (wv v)),(some 102,.v (.pointer (some ⟨fb,0,none⟩))),(some 103,.v (.pointer (some ⟨fb,0,none⟩))),(some 104,.v (.pointer (some ⟨fb,3,none⟩))),(some 105,.v (wv F6.self)),(some 106,.v (wv tt)),(some 107,.v (YL W.1.st W.1.gas W.1.out noL)),(some 108,.v (.slice adr d cr)),(some 109,.v (.tuple #[]))] [12,14] [4,6,10,11] (by kernel_rfl) (by rfl) (by rfl) (by kernel_rfl) ((Below.refl _ _).drew) (phv_bel)
       (zf _ _ _ rfl rfl
       (fun s x hph hdf hv hl K hK=>by
           have hx:Below x11.heap.size x11 x:=hph;refine zW hv (HWK.out.2.2 base gb tb jd V x rfl rfl (hfg11.below hx) hn) (by kernel_rfl) (fun v' y h=> ?_) (fun l y h=>absurd h.1 (by simp)) (fun y h=>absurd h.1 (by simp));obtain⟨e,htt⟩:=h;injection e with e
           subst e;exact hK _ y (AfterW.of (hft11.below hx) (hkw11.below hx) HTLw.out HGBw.out hgb5 hgb0 (hfg11.below hx).fr.row htt) trivial nn1 rfl)
       (zf _ _ _ rfl rfl
       (fun s x hph hdf hv hl K hK=>by
           obtain⟨V9,y1,y2,y3,y4,y5⟩:=hph;refine zW hv (zhA (lv:=noL) (room:=.slice adr d cr) W.1.st W.1.gas W.1.out HWK.out.2.1 ⟨_,_,_,rfl⟩ x y1.fr (by rw[hF7g];omega) HPR.out) (by kernel_rfl) (fun v' y h=> ?_) (fun l y h=> ?_) (fun y h=> ?_)
           ·rw[htk] at h;obtain⟨e,hto⟩:=h;injection e with e
            subst e;refine hK _ y ?_ trivial nn1 rfl;have h9:=To2.comp HFT.out.foot (fun k hk=>HFT.out.tr.lt hk) y2 HS6.out y3 y4 y5 (y1.lift (F':=zh (yQ F7 W.1.st W.1.gas W.1.out c d)) (zh8 htk) hto);exact h9
           ·rw[htk] at h;obtain⟨e,_⟩:=h;cases e
           ·rw[htk] at h;obtain⟨e,_⟩:=h;cases e)
       True.intro))
       (zf _ _ _ rfl rfl
       (fun k s x hk hlo hhi hph hdf hv hl K hK=>by
           have hx:Below x11.heap.size x11 x:=zec hph (hhi 0 12 rfl (by kernel_rfl));exact zv (v:=.pointer (some ⟨tb,0,none⟩)) (fun w=>by kernel_rfl) (hv 98 _ rfl) ((hft11.below hx).fr.row.cell (i:=0) (by decide) |>.trans (congrArg some hft11.ptr)) (hK _ x (Below.refl _ _) nn1 rfl))
       (zf _ _ _ rfl rfl
       (fun k s x hk hlo hhi hph hdf hv hl K hK=>by
           have hx:Below x11.heap.size x11 x:=zec hph (hhi 0 12 rfl (by kernel_rfl));obtain⟨q0,q1,q2,q3⟩:=ze (zg hbx2 hx);exact zB (n:=v) (hv 6 _ rfl) q0 q1 q2 q3 (hK _ x (Below.refl _ _) nn1 rfl))
       (zf _ _ _ rfl rfl
       (fun k s x hk hlo hhi hph hdf hv hl K hK=>by
           have hx:Below x11.heap.size x11 x:=zec hph (hhi 0 12 rfl (by kernel_rfl));have hr:=(hft11.below hx).fr.row;exact zB (n:=F6.self) (hv 104 _ rfl) ((hr.cell (i:=3) (by decide)).trans (congrArg (fun z=>some (Value.int .u64 (za z 0))) hself)) ((hr.cell (i:=4) (by decide)).trans (congrArg (fun z=>some (Value.int .u64 (za z 1))) hself)) ((hr.cell (i:=5) (by decide)).trans (congrArg (fun z=>some (Value.int .u64 (za z 2))) hself)) ((hr.cell (i:=6) (by decide)).trans (congrArg (fun z=>some (Value.int .u64 (za z 3))) hself)) (hK _ x (Below.refl _ _) nn1 rfl))
       (zf _ _ _ rfl rfl
       (fun k s x hk hlo hhi hph hdf hv hl K hK=>by
           have hx:Below x11.heap.size x11 x:=zec hph (hhi 0 12 rfl (by kernel_rfl));obtain⟨q0,q1,q2,q3⟩:=ze (zg hbx1 hx);exact zB (n:=tt) (hv 5 _ rfl) q0 q1 q2 q3 (hK _ x (Below.refl _ _) nn1 rfl))
       True.intro))))
       (fun _ _ _ h=>(zo rfl h).elim) (fun _ _ _ h=>(zo rfl h).elim) ?_
     intro gg z hz _
     have HO:Hid (Out2 (zdu R) base fb tb T V S m w (.returned (.tuple #[])) z):=by
      show Out2 _ _ _ _ _ _ _ _ _ _ _;rw[HFIN.out];exact⟨rfl,hz⟩
     clear hz hft11 hfg11 hbx1 hbx2 hkw11;simp only[yy,yw,yx,Zg,zF,List.foldl_cons,List.foldl_nil,Act.put];simp only[sx9];go_wp2;go_end0;exact HO.out)
end
section
open Go.Maps
theorem zkS:(prog.info? 112).map (fun i=>(i.zero,i.size,i.bytes))=some (some (.agg #[.int .u64 0,.int .u64 0,.int .u64 0,.int .u64 0,.slice none 0 0,.string ⟨#[]⟩]),6,72):=by kernel_rfl
theorem zlU {P:Program} {x:World} {S D:TypeId} {u v:Value} (h:(convert S D u).run P x=.ok v x):((do pure (Next.value (<-convert S D u)):Sem Next)).run P x=.ok (.value v) x:=by
 rw[Sem.run_bind,h];rfl
theorem zoQ {L:List LogE} {tv:List Value} (h:tv.length=L.length) (l:LogE) (t:Value):loL (L++[l]) (tv++[t])=loL L tv++loC l t:=by
 induction L generalizing tv with
 |nil=>
  obtain rfl:tv=[]:=List.eq_nil_of_length_eq_zero h;simp[loL]
 |cons a L ih=>
  cases tv with
  |nil=>cases h
  |cons b tv=>
   show loC a b++loL (L++[l]) (tv++[t])=loC a b++loL L tv++loC l t;rw[ih (by simpa using h),List.append_assoc]
theorem zmH {s:Act} {x:World} {pos:String} {af:Array Edge} {gd:Option (Nat×Bool)} {K:Act->World->Prop} {Q:Exit->Act->World->Prop} {n t d:Nat} {ty:TypeId} {tv:Value} {dat:ByteArray} (he:s.tmps.getD t undef=.agg #[.int .u64 (za n 0),.int .u64 (za n 1),.int .u64 (za n 2),.int .u64 (za n 3),tv,.string dat]) (hK:K (s.put (some d) (.slice (some ⟨x.heap.size,0,none⟩) 1 1)) (x.alloc (.cells #[.int .u64 (za n 0),.int .u64 (za n 1),.int .u64 (za n 2),.int .u64 (za n 3),tv,.string dat] 112))):
  Oper.wp prog ⟨some d,.buildSlice 36 1 #[(0,.tmp t)],ty,pos,af,gd⟩ s x K Q:=by
 have he2:s.eval (.tmp t)=.agg #[.int .u64 (za n 0),.int .u64 (za n 1),.int .u64 (za n 2),.int .u64 (za n 3),tv,.string dat]:=he;have he3:s.tmps[t]?.getD undef=.agg #[.int .u64 (za n 0),.int .u64 (za n 1),.int .u64 (za n 2),.int .u64 (za n 3),tv,.string dat]:=by rw[<-Array.getD_eq_getD_getElem?];exact he
 go_simp;exact hK
def PhL (base tb:Nat) (V:TV) (L9:List LogE) (tvs:List Value) (w:World):Nat->World->Prop
 |0,x=>Below w.heap.size w x
 |1,x=>Kb V.lv.ownBlock.toList w x
 |_,x=>∃v',x.ownsRow base 112 6 v' L9.length (loL L9 tvs)/\Fresh w V.lv v'/\Up V.lv.ownBlock.toList tb 3 v' w x
def RelL (tb:Nat):Nat->World->World->Prop:=fun p x x'=>p=1->∃u,x'=x.setCell ⟨tb,3,none⟩ u
def OneLg (w:World) (n:Nat) (dat:ByteArray) (tv:Value):Kp:=fun p v x=>∃q,v=.slice (some ⟨q,0,none⟩) 1 1/\(p<=0->q<x.heap.size/\∀(j:Nat) u,[Value.int .u64 (za n 0),.int .u64 (za n 1),.int .u64 (za n 2),.int .u64 (za n 3),tv,.string dat][j]? =some u->x.cell? ((⟨q,0,none⟩:Addr).add j)=some u)
def NewLg (base:Nat) (V:TV) (L9:List LogE) (tvs:List Value) (w:World):Kp:=fun p v x=>p≠0/\x.ownsRow base 112 6 v L9.length (loL L9 tvs)/\Fresh w V.lv v
theorem zel {base tb:Nat} {V:TV} {L9:List LogE} {tvs:List Value} {w x:World} {k:Nat} (h:PhL base tb V L9 tvs w k x) (hk:k<=0):Below w.heap.size w x:=by
 obtain rfl:k=0:=by omega
 exact h
theorem zoF {base tb:Nat} {V:TV} {L9:List LogE} {tvs:List Value} {w x:World} {k:Nat} (h:PhL base tb V L9 tvs w k x) (hk:k<=1):Kb V.lv.ownBlock.toList w x:=by
 match k,hk,h with
 |0,_,h=>exact Kb.of_below h
 |1,_,h=>exact h
theorem phl_bel {base tb:Nat} {V:TV} {L9:List LogE} {tvs:List Value} {w:World} (hlt:tb<w.heap.size) (k:Nat) (x x':World) (h:PhL base tb V L9 tvs w k x) (hb:Below x.heap.size x x'):PhL base tb V L9 tvs w k x':=by
 match k,h with
 |0,h=>exact(show Below w.heap.size w x from h).trans (hb.mono (show Below w.heap.size w x from h).size)
 |1,h=>exact(show Kb V.lv.ownBlock.toList w x from h).below hb
 |_+2,⟨v',h1,h2,h3⟩=>exact⟨v',zm h1 hb,h2,Kb.up h3 hb hlt⟩
theorem Fresh.pre {w x:World} {v v':Value} (h:Fresh x v v') (hb:Below w.heap.size w x):Fresh w v v':=h.imp id (fun h k hk=>Nat.le_trans hb.size (h k hk))
theorem zmV {base tb p:Nat} {T:TS} {V:TV} {L9:List LogE} {tvs:List Value} {w x x':World} {v:Value} (htr:Tr base tb T V w) (hltb:tb∉V.lv.ownBlock.toList) (hp:p<2) (hph:PhL base tb V L9 tvs w p x) (hrel:RelL tb p x x') (hT:NewLg base V L9 tvs w p v x):NewLg base V L9 tvs w (p+1) v x':=by
 match p,hp,hph,hrel,hT with
 |0,_,_,_,hT=>exact absurd rfl hT.1
 |1,_,hph,hrel,hT=>
  obtain⟨u,rfl⟩:=hrel rfl;exact⟨by omega,yV hT.2.1 (zI ((show Kb V.lv.ownBlock.toList w x from hph).row htr.row hltb) hT.2.1 zfk) _ _,hT.2.2⟩
structure TL (base fb:Nat) (S:List Nat) (w:World) (G:Fz) (l:List Nat) (S':List Nat) (sv' mv' tv:Value) (b0 p b1 q:Nat) (x:World):Prop where
 fr:Fr base fb G S' sv' mv' x
 kb:Kb S w x
 sub:∀k∈S',k∈S\/w.heap.size<=k
 wd:Wds x base tv l
 no:∀k,tv.ownBlock=some k->w.heap.size<=k/\k∉S'/\k≠b0/\k≠b1
 B0:Wbx S' x b0 p
 B1:Wbx S' x b1 q
theorem zf1 {F:Fz}:∀{i:Nat} {l:List Nat} {G:Fz},Zd i F=some (l,G)->Keep F G
 |0,l,G,h=>by obtain⟨_,rfl⟩:=Prod.mk.inj (Option.some.inj h);exact⟨rfl,rfl,rfl,rfl,rfl,rfl,Nat.le_refl _⟩
 |i+1,l,G,h=>by
  rw[Zd] at h;split at h
  ·cases h
  ·rename_i l1 G1 h1;split at h
   ·cases h
   ·rename_i n G' hp;obtain⟨_,rfl⟩:=Prod.mk.inj (Option.some.inj h);refine(zf1 h1).trans ?_;unfold zi at hp;split at hp
    ·cases hp
    ·obtain⟨_,rfl⟩:=Prod.mk.inj (Option.some.inj hp);exact⟨rfl,rfl,rfl,rfl,rfl,rfl,Nat.le_refl _⟩
theorem log_to {base fb tb:Nat} {F:Fz} {T:TS} {S S2:List Nat} {sv2 mv2 v' tv:Value} {V:TV} {w w9 z:World} {e:LogE} (h:FT base fb tb F T S2 sv2 mv2 V w9) (u1:z.ownsRow base 112 6 v' (T.logs++[e]).length (loL (T.logs++[e]) (V.tv++[tv]))) (u2:Fresh w9 V.lv v') (u3:Up V.lv.ownBlock.toList tb 3 v' w9 z)
  (htv:Wds w9 base tv e.topics) (hno:∀k,tv.ownBlock=some k->w.heap.size<=k/\k∉S2) (hkw:Kb S w w9) (hsw:∀k∈S2,k∈S\/w.heap.size<=k) (hTL:∀k,zG tb T V k->k<w.heap.size):To2 base fb tb F T {T with logs:=T.logs++[e]} V S 0 w z:=by
 have hS:∀k∈tb::V.lv.ownBlock.toList,k=tb\/V.lv.ownBlock=some k:=fun k hk=>by simpa using hk
 have hSt:∀k∈tb::V.lv.ownBlock.toList,zG tb T V k:=fun k hk=>by
  rcases hS k hk with e|e
  ·exact Or.inl e
  ·exact Or.inr (Or.inr (Or.inr (Or.inr (Or.inl e))))
 have hnm:∀k,(∃es cl,w9.heap[k]? =some (.map es cl))->k∉tb::V.lv.ownBlock.toList:=fun k hm hk=>by
  rcases hS k hk with e|e
  ·exact ZN h.tr.row hm e.symm
  ·exact yj h.tr.lo.2.1 hm e
 have hdis:∀{e size n v xs b},w9.ownsRow b e size v n xs->131≠e->112≠e->∀k,v.ownBlock=some k->k∉tb::V.lv.ownBlock.toList:=fun ho h1 h2 k hk hm=>by
  rcases hS k hm with e|e
  ·exact zI h.tr.row ho h1 k hk e
  ·rcases zfE h.tr.lo.2.1 ho h2 with e2|e2
   ·rw[e] at e2;cases e2
   ·exact e2 (e.trans hk.symm)
 have h0:0∉tb::V.lv.ownBlock.toList:=fun hm=>h.tr.no0 (hSt 0 hm)
 have hlo:Lo z base v' (V.tv++[tv]) (T.logs++[e]):=by
  refine⟨by rw[List.length_append,List.length_append,h.tr.lo.1];rfl,u1,fun i l t h1 h2=> ?_⟩;have hlen:=h.tr.lo.1;by_cases hi:i<T.logs.length
  ·rw[List.getElem?_append_left hi] at h1;rw[List.getElem?_append_left (by rw[hlen];exact hi)] at h2;have h3:=h.tr.lo.2.2 i l t h1 h2;exact u3.kb.own h3 (hdis h3 zhs zoz)
  ·rw[List.getElem?_append_right (by omega)] at h1;rw[List.getElem?_append_right (by rw[hlen];omega),hlen] at h2
   have hz:i - T.logs.length=0:=by
    have:=(List.getElem?_eq_some_iff.1 h1).1;simp at this;omega
   rw[hz] at h1 h2;obtain rfl:e=l:=by simpa using h1
   obtain rfl:tv=t:=by simpa using h2
   exact u3.kb.own htv (hdis htv zhs zoz)
 have hT:Tr base tb {T with logs:=T.logs++[e]} {V with lv:=v',tv:=V.tv++[tv]} z:=by
  refine⟨?_,h.tr.acc.kb u3.kb (fun k hk hm=>hnm k (h.tr.acc.isMap hm) hk),h.tr.pas.kb u3.kb (hnm _ h.tr.pas.is),u3.kb.own h.tr.ch (hdis h.tr.ch zes (Ne.symm zka)),hlo,h.tr.zr.kb u3.kb h0,Nat.le_trans h.tr.hb u3.kb.size,h.tr.hb1,h.tr.pn⟩;refine(u3.row h.tr.row).congr fun i hi=> ?_
  have hi:i<4:=hi;rcases ltq4 hi with rfl|rfl|rfl|rfl<;>rfl
 have hft:∀k,zG tb {T with logs:=T.logs++[e]} {V with lv:=v',tv:=V.tv++[tv]} k->zG tb T V k\/w9.heap.size<=k\/tv.ownBlock=some k:=fun k hk=>by
  rcases hk with e|e|e|e|e|⟨t,ht,e⟩
  ·exact Or.inl (Or.inl e)
  ·exact Or.inl (Or.inr (Or.inl e))
  ·exact Or.inl (Or.inr (Or.inr (Or.inl e)))
  ·exact Or.inl (Or.inr (Or.inr (Or.inr (Or.inl e))))
  ·rcases u2 with e2|e2
   ·exact Or.inl (Or.inr (Or.inr (Or.inr (Or.inr (Or.inl (e2▸e))))))
   ·exact Or.inr (Or.inl (e2 k e))
  ·rcases List.mem_append.1 ht with h1|h1
   ·exact Or.inl (Or.inr (Or.inr (Or.inr (Or.inr (Or.inr ⟨t,h1,e⟩)))))
   ·exact Or.inr (Or.inr (by rw[<-List.mem_singleton.1 h1];exact e))
 refine⟨S2,sv2,mv2,_,⟨h.fr.kb u3.kb (fun k h1 h2=>h.dis k h1 (hSt k h2)) h0 (fun g N f hr hg=>h.tr.bno hr (hSt g hg)),hT,h.ptr,fun k h1 h2=> ?_⟩,⟨S++(tb::V.lv.ownBlock.toList),(hkw.mono (fun i hi=>List.mem_append_left _ hi)).trans u3.kb (fun i hi=>Or.inl (List.mem_append_right _ hi)),fun k hk=> ?_⟩,hsw,fun k hk=> ?_,Nat.le_refl _,rfl⟩
 ·rcases hft k h2 with e|e|e
  ·exact h.dis k h1 e
  ·have:=h.fr.footlt k h1;omega
  ·exact(hno k e).2 h1
 ·rcases List.mem_append.1 hk with e|e
  ·exact Or.inl e
  ·exact Or.inr (hSt k e)
 ·rcases hft k hk with e|e|e
  ·exact Or.inl e
  ·exact Or.inr (Nat.le_trans hkw.size e)
  ·exact Or.inr (hno k e).1
def zhz (self:Nat) (p l:Nat) (ts:List Nat) (F:Fz) (T:TS):Option (TS×Fz):=match zk p l F with
 |none=>none
 |some ((a,b),F2)=>if F2.gas<8*b then none else some ({T with logs:=T.logs++[⟨self,ts,ya (zP F2.mem a b)⟩]},{F2 with gas:=F2.gas - 8*b})
def zfM (n p l:Nat) (F:Fz) (T:TS):Option (TS×Fz):=match Zd n F with
 |none=>none
 |some (ts,F1)=>zhz F1.self p l ts F1 T
def zdF (n:Nat) (F:Fz) (T:TS):Option (TS×Fz):=if F.ro=true then none else zK (zi F) (zK (zi (zh (zi F))) (zfM n (zY F) (Zh F) (zE F) T))
theorem log_I {base fb tb:Nat} {F:Fz} {T:TS} {S:List Nat} {sv mv:Value} {V:TV} (n:Nat) (hn:n<=4) (w:World) (h:FT base fb tb F T S sv mv V w) (hll:T.logs.length<1000000000):
  Calls prog 242 #[.pointer (some ⟨fb,0,none⟩),.int .i64 (n:Int)] w (Out2 (zdu (zdF n F T)) base fb tb T V S 0 w):=by
 have HM:=zb (zbo w h.fr);have HFT:=zb h;go_enter func242,ntmps242;go_wp2_with fail
 refine HM.out.mono ?_;rintro e w1 ⟨h1,hw1⟩;obtain rfl:=hw1.symm;clear hw1 HM;by_cases hro:F.ro=true
 case pos=>
  rw[if_pos hro] at h1;obtain⟨u,pv,rfl⟩:=h1;refine⟨rfl, ?_⟩;rw[show zdF n F T=none from if_pos hro];exact⟨⟨_,_,rfl⟩,Kb.refl _ _⟩
 rw[if_neg hro] at h1;subst h1;have hR0:zdF n F T=zK (zi F) (zK (zi (zh (zi F))) (zfM n (zY F) (Zh F) (zE F) T)):=if_neg hro;clear hro;go_wp2;refine zbg _ _ h.fr rfl rfl rfl rfl ?_ ?_
 ·intro u pv s x hno hd hk
  have e:zdF n F T=none:=hR0.trans (by
   rcases hno with e|e
   ·exact zn (Or.inl e)
   ·exact zn (Or.inr (zn (Or.inl e))))
  refine⟨hd, ?_⟩;rw[e];exact⟨⟨_,_,rfl⟩,hk⟩
 intro x S0 sv0 mv0 b0 b1 hf0 hk0 hs0 n0 g0 r0 n1 g1 r1;change Fr base fb (zE F) S0 sv0 mv0 x at hf0;have hsm:Same F (zE F):=(Zp (Zp (Or.inr (Same.refl F)))).resolve_left (fun hb=>absurd hf0.gal (by have:(zE F).gas=(zh (zi (zh (zi F)))).gas:=rfl;omega));have HR:Hid (zdF n F T=zfM n (zY F) (Zh F) (zE F) T):=hR0.trans ((zT fun e=>ZS (YJ (zV e)) hf0).trans (zT fun e=>ZS (zV e) hf0));have HTL:Hid (TL base fb S w (zE F) [] S0 sv0 mv0 (.slice none 0 0) b0 (zY F) b1 (Zh F) x):=⟨hf0,hk0,hs0,World.ownsRow_nil x _ _ _,fun k hk=>(by cases hk),⟨n0,r0⟩,⟨n1,r1⟩⟩;have HKP:=zb (Keep.of hsm);simp only[zF,List.foldl_cons,List.foldl_nil,Act.put];simp only[sx9];clear n0 g0 r0 n1 g1 r1 hf0 hk0 hs0 hsm hR0 h;generalize zE F=F1 at*;generalize zY F=p at*;generalize Zh F=q at*;generalize zdF n F T=R at*;go_wp2
 go_loopw [6,19] (fun t6 t19 wr=>∃(i:Nat) (l:List Nat) (G:Fz) (S':List Nat) (sv' mv':Value) (ad:Option Addr) (cp:Nat),i<=n/\t19=.int .i64 (i:Int)/\t6=.slice ad i cp/\Hid (Zd i F1=some (l,G))/\Hid (TL base fb S w G l S' sv' mv' (.slice ad i cp) b0 p b1 q wr)) (fun _ t19 _=>n - (RowKit.intOf t19).toNat)
 case atStart=>exact⟨0,[],F1,S0,sv0,mv0,none,0,by omega,rfl,rfl,rfl,HTL.out⟩
 case round=>
  obtain⟨i,l,G,S1,sv1,mv1,ad,cp,hi,rfl,rfl,HP,HT⟩:=hrel;have hll2:=YW HP.out;by_cases hlt:i<n
  ·have hd:decide ((i:Int)<(n:Int))=true:=decide_eq_true (by omega);have HPO:=zb (Ym _ HT.out.fr);cases hpo:zi G with
   |none=>
    rw[hpo] at HPO
    have e:R=none:=by
     rw[HR.out];unfold zfM;rw[zad (i:=i+1) (by rw[Zd,HP.out];show(match zi G with|none=>none|some (n,G')=>some (l++[n],G'))=_;rw[hpo]) n (by omega)]
    have HE:=zb e;have HK:=zb HT.out.kb;have HS:=zb HT.out.sub;clear hpo HP HT e;go_wp2_with fail
    refine HPO.out.mono ?_;rintro e y ⟨⟨u,pv,rfl⟩,hk⟩;refine⟨rfl, ?_⟩;rw[HE.out];exact⟨⟨_,_,rfl⟩,HK.out.trans hk HS.out⟩
   |some r=>
    obtain⟨t,G2⟩:=r;rw[hpo] at HPO;have HP2:Hid (Zd (i+1) F1=some (l++[t],G2)):=by show _=_;rw[Zd,HP.out];show(match zi G with|none=>none|some (n,G')=>some (l++[n],G'))=_;rw[hpo]
    clear hpo HP;go_wp2_with fail
    refine HPO.out.mono ?_;rintro e y ⟨rfl,S2,sv2,mv2,hf2,hk2,hs2⟩;have hT:=HT.out;have htl:∀k,(Value.slice ad i cp).ownBlock=some k->k<wr.heap.size:=fun k hk=>(hT.wd.lt k hk).2
    have hwd:Wds y base (.slice ad i cp) l:=hk2.own hT.wd (fun k hk=>(hT.no k hk).2.1);have hB:Below y.heap.size y (y.alloc (.cells #[.int .u64 (za t 0),.int .u64 (za t 1),.int .u64 (za t 2),.int .u64 (za t 3)] 24)):=bal (Below.refl _ y) _;obtain⟨i0,hi0,hz0,hz1,hz2⟩:=info_parts zg8;obtain⟨v',z,hrun,hown,hgr,hfre⟩:=yI (P:=prog) _ base 110 110 24 i0 (.agg #[.int .u64 0,.int .u64 0,.int .u64 0,.int .u64 0]) 4 32 (by kernel_rfl) hi0 hz0 hz1 hz2 rfl (by decide) (.slice ad i cp) l.length (Zv l) (zm hwd hB) ⟨y.heap.size,0,none⟩ 1 1 [.int .u64 (za t 0),.int .u64 (za t 1),.int .u64 (za t 2),.int .u64 (za t 3)] rfl (Z8 y #[.int .u64 (za t 0),.int .u64 (za t 1),.int .u64 (za t 2),.int .u64 (za t 3)] 24) (by intro u hu;simp at hu;rcases hu with rfl|rfl|rfl|rfl<;>rfl) (by unfold maxLen;omega) (by omega) (by have:=hf2.hb;simp;omega)
    have hwd2:Wds z base v' (l++[t]):=by
     unfold Wds;rw[zbk,List.length_append];exact hown
    obtain⟨ad2,cp2,rfl⟩:=Zk hwd2;have hsz:(y.alloc (.cells #[.int .u64 (za t 0),.int .u64 (za t 1),.int .u64 (za t 2),.int .u64 (za t 3)] 24)).heap.size=y.heap.size+1:=by simp
    have htS2:∀k,(Value.slice ad i cp).ownBlock=some k->k∉S2:=fun k hk hm=>(hs2 k hm).elim (hT.no k hk).2.1 (fun h=>by have:=htl k hk;omega)
    have hkz:Kb (Value.slice ad i cp).ownBlock.toList y z:=(Kb.of_below hB).trans ((Kb.refl _ _).grown hgr (fun k hk=>Or.inl (by rw[hk];simp))) (fun k hk=>Or.inl hk);have hB0:=hT.B0.step hk2 hs2;have hB1:=hT.B1.step hk2 hs2
    have HT2:Hid (TL base fb S w G2 (l++[t]) S2 sv2 mv2 (.slice ad2 (l++[t]).length cp2) b0 p b1 q z):=by
     have hkS:Kb S w y:=hT.kb.trans hk2 hT.sub;refine⟨hf2.kb hkz (fun k h1 h2=>htS2 k (by simpa using h2) h1) (fun h0=> ?_) (fun g N f hr hg=>zI hr hwd tb1 g (by simpa using hg) rfl),hkS.trans hkz (fun k hk=>Or.inr (hT.no k (by simpa using hk)).1),fun k hk=>(hs2 k hk).elim (hT.sub k) (fun h=>Or.inr (Nat.le_trans hT.kb.size h)),hwd2,fun k hk=> ?_,⟨hB0.no,hkz.row hB0.row (fun hm=>(hT.no b0 (by simpa using hm)).2.2.1 rfl)⟩,⟨hB1.no,hkz.row hB1.row (fun hm=>(hT.no b1 (by simpa using hm)).2.2.2 rfl)⟩⟩
     ·have h1:=(hwd.lt 0 (by simpa using h0)).1;have:=hf2.hb1;omega
     ·rcases hfre with e|e
      ·rw[e] at hk;exact⟨(hT.no k hk).1,htS2 k hk,(hT.no k hk).2.2⟩
      ·have h1:=e k hk;rw[hsz] at h1;refine⟨by have:=hkS.size;omega,fun hm=>by have:=hf2.footlt k hm;omega,fun e=> ?_,fun e=> ?_⟩
       ·have:=hB0.row.lt;omega
       ·have:=hB1.row.lt;omega
    have hlen:(l++[t]).length=i+1:=by rw[List.length_append,hll2];rfl
    rw[hlen] at HT2 hrun;have HRUN:=zb hrun;clear hT htl hwd hB hown hgr hfre hwd2 htS2 hkz hB0 hB1 hf2 hk2 hs2 HPO HT hi0 hz0 hz1 hz2 hsz hrun;go_wp2_with (at_builtin;refine Lib.wpList_append_run _ rfl _ _ _ _ rfl _ _ rfl rfl _ _ HRUN.out ?_)
    go_roundw
    case rel=>exact⟨i+1,l++[t],G2,S2,sv2,mv2,ad2,cp2,by omega,by go_num,by go_num,HP2,HT2⟩
    case measure=>simp[RowKit.intOf];omega
  ·obtain rfl:i=n:=by omega
   have hd:decide ((i:Int)<(i:Int))=false:=decide_eq_false (by omega);have hT:=HT.out
   have HRB:Hid (R=zhz G.self p q l G T):=by
    show R=_;rw[HR.out];unfold zfM;rw[HP.out]
   have HKP2:Hid (Keep F G):=HKP.out.trans (zf1 HP.out);obtain⟨c0,c1,c2,c3⟩:=ze hT.B0.row;obtain⟨d0,d1,d2,d3⟩:=ze hT.B1.row;have HPT:=zb (zav p q wr hT.fr);clear hT HP HR HTL;go_wp2_with fail
   refine HPT.out.mono ?_;intro e y ho;have hT:=HT.out;cases hq:zk p q G with
   |none=>
    rw[hq] at ho;obtain⟨⟨u,pv,rfl⟩,hk⟩:=ho;have e:R=none:=by rw[HRB.out];unfold zhz;rw[hq]
    refine⟨rfl, ?_⟩;rw[e];exact⟨⟨_,_,rfl⟩,hT.kb.trans hk hT.sub⟩
   |some z=>
    obtain⟨⟨a,b⟩,F2⟩:=z;rw[hq] at ho;obtain⟨dv,S2,sv2,mv2,rfl,hf2,hk2,hs2,hpo⟩:=ho;have hlen:=yh hq hT.fr.m32;have hkp2:=HKP2.out.trans (zas hq);have hslf:F2.self=G.self:=(zas hq).self
    have HRC:Hid (R=if F2.gas<8*b then none else some ({T with logs:=T.logs++[⟨F2.self,l,ya (zP F2.mem a b)⟩]},{F2 with gas:=F2.gas - 8*b})):=by
     show R=_;rw[HRB.out,<-hslf];unfold zhz;rw[hq]
    have hb16:b<=65536:=by have:=hf2.mel;omega
    have htv2:Wds y base (.slice ad i cp) l:=hk2.own hT.wd (fun k hk=>(hT.no k hk).2.1);have htl:∀k,(Value.slice ad i cp).ownBlock=some k->k<wr.heap.size:=fun k hk=>(hT.wd.lt k hk).2
    have hno2:∀k,(Value.slice ad i cp).ownBlock=some k->w.heap.size<=k/\k∉S2:=fun k hk=>⟨(hT.no k hk).1,fun hm=>(hs2 k hm).elim (hT.no k hk).2.1 (fun h=>by have:=htl k hk;omega)⟩
    have hkw2:Kb S w y:=hT.kb.trans hk2 hT.sub;have hsw2:∀k∈S2,k∈S\/w.heap.size<=k:=fun k hk=>(hs2 k hk).elim (hT.sub k) (fun h=>Or.inr (Nat.le_trans hT.kb.size h))
    have HPY:=zb (pay_B (8*b) (by omega) y hf2);rw[show((8*b:Nat):Int)=8*(b:Int) by omega] at HPY;obtain⟨adv,cv,rfl,hpo2⟩:=hpo;have HPO:Hid (PartOf mv2 (.slice adv b cv) a b):=⟨adv,cv,rfl,hpo2⟩;have HX:=zb (And.intro htv2 (And.intro hno2 (And.intro hkw2 (And.intro hsw2 (And.intro hkp2 hlen)))));have HF2:=zb hf2;clear hT HT HRB HPT hpo2 hf2 hk2 hs2 hq htv2 htl hno2 hkw2 hsw2 hkp2 hlen hslf c0 c1 c2 c3 d0 d1 d2 d3 HKP2;go_wp2_with fail
    refine HPY.out.mono ?_;intro e w9 hp;obtain⟨htv2,hno2,hkw2,hsw2,hkp2,hlen⟩:=HX.out;by_cases hg:F2.gas<8*b
    ·rw[if_pos hg] at hp;obtain⟨⟨u,pv,rfl⟩,hk⟩:=hp;have e:R=none:=HRC.out.trans (if_pos hg);refine⟨rfl, ?_⟩;rw[e];exact⟨⟨_,_,rfl⟩,hkw2.trans hk (by simp)⟩
    ·rw[if_neg hg] at hp;obtain⟨rfl,hf9,hk9⟩:=hp;have HRD:Hid (R=some ({T with logs:=T.logs++[⟨F2.self,l,ya (zP F2.mem a b)⟩]},{F2 with gas:=F2.gas - 8*b})):=HRC.out.trans (if_neg hg);have hfbS:fb∈S2:=by rw[HF2.out.foot];simp
     have hk9w:Kb S w w9:=hkw2.trans hk9 (fun k hk=>by rw[List.mem_singleton.1 hk];exact hsw2 fb hfbS);have hft9:FT base fb tb {F2 with gas:=F2.gas - 8*b} T S2 sv2 mv2 V w9:=HFT.out.next (F':={F2 with gas:=F2.gas - 8*b}) hkp2.trail hf9 hk9w hsw2;have htv9:Wds w9 base (.slice ad i cp) l:=hk9.own htv2 (fun k hk hm=>(hno2 k hk).2 (by rw[List.mem_singleton.1 hm];exact hfbS));have hstr:∀x,Below w9.heap.size w9 x->(convert 26 9 (.slice adv b cv)).run prog x=.ok (.string (ya (zP F2.mem a b))) x:=fun x hx=>(HPO.out.rds (hf9.below hx).me hlen).str
     obtain⟨F9,HF9⟩:∃F9:Fz,Hid (F9={F2 with gas:=F2.gas - 8*b}):=⟨_,rfl⟩
     have HRD:Hid (R=some ({T with logs:=T.logs++[⟨F9.self,l,ya (zP F2.mem a b)⟩]},F9)):=by
      show R=_;rw[HF9.out];exact HRD.out
     rw[<-HF9.out] at hft9;generalize ya (zP F2.mem a b)=dat at*;have hltb:tb∉V.lv.ownBlock.toList:=fun hm=>zI hft9.tr.row hft9.tr.lo.2.1 zfk tb (by simpa using hm) rfl
     have hfbl:fb∉V.lv.ownBlock.toList:=fun hm=>hft9.dis fb (by rw[hft9.fr.foot];simp) (Or.inr (Or.inr (Or.inr (Or.inr (Or.inl (by simpa using hm))))))
     have hone:∀u∈loC ⟨F9.self,l,dat⟩ (.slice ad i cp),u.oneCell'=true:=by
      intro u hu;unfold loC at hu;simp at hu;rcases hu with rfl|rfl|rfl|rfl|rfl|rfl<;>rfl
     have HNO:=zb hno2;have HKW:=zb hk9w;have HSW:=zb hsw2;clear hkw2 hsw2 hno2 hf9 hk9 hkp2 HX HPY hfbS hlen HRC;go_wp2
     refine zq (PhL base tb V (T.logs++[⟨F9.self,l,dat⟩]) (V.tv++[.slice ad i cp]) w9) (RelL tb) [(0,(.pointer (some ⟨fb,0,none⟩))),(6,(.slice ad i cp)),(7,(.slice adv b cv))] [(some 38,.v (.pointer (some ⟨fb,0,none⟩))),(some 39,.v (.pointer (some ⟨fb,0,none⟩))),(some 40,.v (.pointer (some ⟨fb,0,none⟩))),(some 41,.v (.pointer (some ⟨tb,0,none⟩))),(some 42,.v (.pointer (some ⟨fb,0,none⟩))),(some 43,.v (.pointer (some ⟨fb,0,none⟩))),(some 44,.v (.pointer (some ⟨fb,0,none⟩))),(some 45,.v (.pointer (some ⟨tb,0,none⟩))),(some 46,.v (.pointer (some ⟨tb,0,none⟩))),(some 47,.v (.pointer (some ⟨tb,3,none⟩))),(some 48,.v V.lv),(some 49,.v (.pointer (some ⟨fb,0,none⟩))),(some 50,.v (.pointer (some ⟨fb,0,none⟩))),(some 51,.v (.pointer (some ⟨fb,3,none⟩))),(some 52,.v (wv F9.self)),(some 53,.v (.slice ad i cp)),(some 54,.v (.slice adv b cv)),(some 55,.v (.string dat)),(some 56,.v (.agg #[.int .u64 (za F9.self 0),.int .u64 (za F9.self 1),.int .u64 (za F9.self 2),.int .u64 (za F9.self 3),.slice ad i cp,.string dat])),(some 57,.l (OneLg w9 F9.self dat (.slice ad i cp))),(some 58,.l (NewLg base V (T.logs++[⟨F9.self,l,dat⟩]) (V.tv++[.slice ad i cp]) w9)),(some 59,.v (.pointer (some ⟨tb,0,none⟩))),(some 60,.v (.pointer (some ⟨tb,3,none⟩))),(none,.v undef)] [20,23] [3,7,10,14,17,19] (by kernel_rfl) (by rfl) (by rfl) (by kernel_rfl) ((Below.refl _ _).drew) (phl_bel hft9.tr.row.lt)
       (zf _ _ _ rfl rfl
       (fun s x hph hdf hv hl K hK=>by
        have hx:Below w9.heap.size w9 x:=hph;obtain⟨q,e1,e2⟩:=hl 57 _ rfl;obtain⟨hq,hcells⟩:=e2 (by omega);obtain⟨i0,hi0,hz0,hz1,hz2⟩:=info_parts zkS;refine zaR base 112 i0 _ 6 72 (by kernel_rfl) hi0 hz0 hz1 hz2 rfl (by decide) V.lv T.logs.length (loL T.logs V.tv) (hv 48 _ rfl) (hft9.below hx).tr.lo.2.1 ⟨q,0,none⟩ 1 1 (loC ⟨F9.self,l,dat⟩ (.slice ad i cp)) e1 rfl hcells hone (by unfold maxLen;omega) (by omega) (hft9.below hx).tr.hb ?_;intro v' y ho hgr hfr;refine hK v' y ((Kb.of_below (S:=V.lv.ownBlock.toList) hx).grown hgr (fun k hk=>Or.inl (by rw[hk];simp))) (fun h=>absurd h (by omega)) nn1 ⟨by omega, ?_,hfr.pre hx⟩;rw[zoQ (hft9.tr.lo.1)];rw[List.length_append];exact ho)
       (zf _ _ _ rfl rfl
       (fun s x hph hdf hv hl K hK=>by
        have hx:Kb V.lv.ownBlock.toList w9 x:=hph;obtain⟨-,h1,h2⟩:=hl 58 _ rfl;have hro:=hx.row hft9.tr.row hltb;obtain⟨ad,cp,e⟩:=Zk h1;exact zaX (u:=V.lv) (fun _=>by kernel_rfl) ⟨_,_,_,e⟩ (hv 60 _ rfl) rfl (hro.cell (i:=3) (by decide)) (hro.frozen 3) (hK _ _ ⟨_,yV h1 (zI hro h1 zfk) _ _,h2,Up.mk' _ hx hltb hft9.tr.row.lt⟩ (fun _=>⟨_,rfl⟩) (fun _=>rfl) rfl))
       True.intro))
       (zf _ _ _ rfl rfl
       (fun k s x hk hlo hhi hph hdf hv hl K hK=>by
        have hx:Kb V.lv.ownBlock.toList w9 x:=zoF hph (hhi 1 23 rfl (by kernel_rfl));exact zv (v:=.pointer (some ⟨tb,0,none⟩)) (fun w=>by kernel_rfl) (hv 40 _ rfl) (((hx.row hft9.fr.row hfbl).cell (i:=0) (by decide)).trans (congrArg some hft9.ptr)) (hK _ x (Below.refl _ _) nn1 rfl))
       (zf _ _ _ rfl rfl
       (fun k s x hk hlo hhi hph hdf hv hl K hK=>by
        have hx:Kb V.lv.ownBlock.toList w9 x:=zoF hph (hhi 1 23 rfl (by kernel_rfl));exact zv (v:=.pointer (some ⟨tb,0,none⟩)) (fun w=>by kernel_rfl) (hv 44 _ rfl) (((hx.row hft9.fr.row hfbl).cell (i:=0) (by decide)).trans (congrArg some hft9.ptr)) (hK _ x (Below.refl _ _) nn1 rfl))
       (zf _ _ _ rfl rfl
       (fun k s x hk hlo hhi hph hdf hv hl K hK=>by
        have hx:Below w9.heap.size w9 x:=zel hph (hhi 0 20 rfl (by kernel_rfl));exact zv (v:=V.lv) (fun w=>by kernel_rfl) (hv 47 _ rfl) ((hft9.below hx).tr.row.cell (i:=3) (by decide)) (hK _ x (Below.refl _ _) nn1 rfl))
       (zf _ _ _ rfl rfl
       (fun k s x hk hlo hhi hph hdf hv hl K hK=>by
        have hx:Below w9.heap.size w9 x:=zel hph (hhi 0 20 rfl (by kernel_rfl));have hr:=(hft9.below hx).fr.row;exact zB (n:=F9.self) (hv 51 _ rfl) (hr.cell (i:=3) (by decide)) (hr.cell (i:=4) (by decide)) (hr.cell (i:=5) (by decide)) (hr.cell (i:=6) (by decide)) (hK _ x (Below.refl _ _) nn1 rfl))
       (zf _ _ _ rfl rfl
       (fun k s x hk hlo hhi hph hdf hv hl K hK=>by
        have hx:Below w9.heap.size w9 x:=zel hph (hhi 0 20 rfl (by kernel_rfl));exact zdH (v:=.string dat) (x':=x) hv (zlU (hstr x hx)) (hK _ x (Below.refl _ _) nn1 rfl))
       (zf _ _ _ rfl rfl
       (fun k s x hk hlo hhi hph hdf hv hl K hK=>by
        have hx:Below w9.heap.size w9 x:=zel hph (hhi 0 20 rfl (by kernel_rfl));refine zmH (hv 56 _ rfl) (hK _ _ (bal (Below.refl _ x) _) nn1 ⟨x.heap.size,rfl,fun _=>⟨by simp, ?_⟩⟩);exact Z8 x #[.int .u64 (za F9.self 0),.int .u64 (za F9.self 1),.int .u64 (za F9.self 2),.int .u64 (za F9.self 3),.slice ad i cp,.string dat] 112)
       True.intro))))))
       (fun i d T' he p v x x' hne hp hph hrel hT=>by
        have hm:=List.mem_of_getElem? he;simp only[List.mem_cons,Prod.mk.injEq,reduceCtorEq,and_false,false_or,or_false,List.not_mem_nil,En.l.injEq] at hm;rcases hm with⟨-,rfl⟩|⟨-,rfl⟩
        ·obtain⟨q,e1,e2⟩:=hT;exact⟨q,e1,fun h=>by omega⟩
        ·exact zmV hft9.tr hltb hp hph hrel hT) (fun i d T' he p v x x' hph hb hT=>by
        have hm:=List.mem_of_getElem? he;simp only[List.mem_cons,Prod.mk.injEq,reduceCtorEq,and_false,false_or,or_false,List.not_mem_nil,En.l.injEq] at hm;rcases hm with⟨-,rfl⟩|⟨-,rfl⟩
        ·obtain⟨q,e1,e2⟩:=hT;exact⟨q,e1,fun h=>⟨Nat.lt_of_lt_of_le (e2 h).1 hb.size,fun j u hu=>(hb.cell (by rw[zbV];exact(e2 h).1)).trans ((e2 h).2 j u hu)⟩⟩
        ·exact⟨hT.1,zm hT.2.1 hb,hT.2.2⟩) ?_
     intro gg z hz _;obtain⟨v',u1,u2,u3⟩:PhL base tb V (T.logs++[⟨F9.self,l,dat⟩]) (V.tv++[Value.slice ad i cp]) w9 2 z:=hz
     have HO:Hid (Out2 (zdu R) base fb tb T V S 0 w (.returned (.tuple #[])) z):=by
      show Out2 _ _ _ _ _ _ _ _ _ _ _;rw[HRD.out];exact⟨rfl,log_to hft9 u1 u2 u3 htv9 HNO.out HKW.out HSW.out (fun k hk=>HFT.out.tr.lt hk)⟩
     clear hz u1 u2 u3 hft9 htv9 hstr hltb hone;simp only[yy,yw,yx,Zg,zF,List.foldl_cons,List.foldl_nil,Act.put];simp only[sx9];go_wp2;go_end0;exact HO.out
end
end cin
end Go.Proofs.YtohoajjdoihekaaGreatDoor
