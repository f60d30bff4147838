import Derived.Test.YtohoajjdoihekaaGreatDoorHl
set_option linter.unusedVariables false
set_option linter.unusedSimpArgs false
namespace Go.Proofs.YtohoajjdoihekaaGreatDoor
namespace cin
open Go.RowKit Go.Proofs.Tryz Tryz
set_option maxRecDepth 100000
set_option maxHeartbeats 8000000
def Zo (m:List UInt8) (a b:Nat):List UInt8:=(m.drop a).take b
theorem zjH {m:List UInt8} {a b:Nat} (h:a+b<=m.length):(Zo m a b).length=b:=by
 unfold Zo;rw[List.length_take,List.length_drop];omega
theorem zkx {m:List UInt8} {a b i:Nat} (h:a+b<=m.length) (hi:i<b):(Zo m a b)[i]? =m[a+i]? :=by
 unfold Zo;rw[List.getElem?_take,if_pos hi,List.getElem?_drop]
theorem zhJ:prog.underlying 5=some (.int .u8):=by kernel_rfl
theorem zfa:prog.underlying 9=some .string:=by kernel_rfl
theorem PartOf.rds {w:World} {base:Nat} {mv v:Value} {m:List UInt8} {a b:Nat} (h:PartOf mv v a b) (hm:Bys w base mv m) (hl:a+b<=m.length):Rds w v (Zo m a b):=by
 obtain⟨ad,c,rfl,hbc,hp⟩:=h;have hlen:=zjH hl;refine⟨ad,c,by rw[hlen],by rw[hlen];exact hbc,fun hne=> ?_⟩;have hb:b≠0:=fun e=>hne (List.length_eq_zero_iff.1 (by rw[hlen,e]))
 obtain⟨g,len,cap,rfl,rfl,_⟩:=hp hb;have hlt:=(hm.lt g rfl).2;obtain⟨g2,cap2,e2,_⟩:=zB hm (by omega);injection e2 with _ e3 _
 subst e3;refine⟨g,a,rfl,hlt,fun i hi=> ?_⟩;rw[hlen] at hi;have hc:=World.ownsRow.cellAt hm (a+i) (by omega);rw[hc,List.getElem?_map];have h2:=zkx hl hi;rw[List.getElem?_eq_getElem (by rw[hlen];exact hi)] at h2;rw[<-h2];rfl
theorem Rds.str {w:World} {v:Value} {l:List UInt8} (h:Rds w v l):(convert 26 9 v).run prog w=.ok (.string ⟨l.toArray⟩) w:=by
 obtain⟨ad,cap,rfl,_,hc⟩:=h
 have hs:strOfNums (l.map fun b=>((b.toNat:Nat):Int))=⟨l.toArray⟩:=by
  unfold strOfNums;rw[List.map_map];congr 2
  conv=>rhs;rw[<-List.map_id l]
  refine List.map_congr_left fun b _=> ?_
  simp
 by_cases hl:l=[]
 ·subst hl;cases ad with
  |none=>exact run_convert_bytes_nil (P:=prog) w 26 5 Yf zhJ _ _ 9 zfa
  |some ad=>
   have hl0:(loadCells ad 0).run prog w=.ok #[] w:=rfl;rw[run_convert_bytes_string w 26 9 5 (some ad) _ cap Yf zhJ zfa,List.length_nil,run_bytesToString w ad 0 cap [] hl0];rfl
 ·obtain⟨g,o,rfl,_,hcell⟩:=hc hl
  have h:=run_convert_bytes_arg (P:=prog) w 26 5 Yf zhJ g o l.length cap (l.map fun b=>((b.toNat:Nat):Int)) (by simp) (fun i hi=>by
   rw[hcell i hi,List.getD_eq_getElem?_getD,List.getElem?_map,List.getElem?_eq_getElem hi];rfl) 9 zfa
  rw[hs] at h;exact h
theorem zhM (F:Fz) (sv mv:Value):(fun i=>if i=24 then .bool true else F.cell sv mv i)=({F with ended:=true}:Fz).cell sv mv:=by
 funext i;by_cases h:i=24
 ·subst h;rfl
 ·simp only[Fz.cell,if_neg h]
theorem zgd (F:Fz) (sv mv:Value) (o:ByteArray):(fun i=>if i=26 then .string o else F.cell sv mv i)=({F with out:=o}:Fz).cell sv mv:=by
 funext i;by_cases h:i=26
 ·subst h;rfl
 ·simp only[Fz.cell,if_neg h]
theorem zgF (F:Fz) (sv mv:Value) (n:Nat):(fun i=>if i=25 then .int .u8 (n:Int) else F.cell sv mv i)=({F with status:=n}:Fz).cell sv mv:=by
 funext i;by_cases h:i=25
 ·subst h;rfl
 ·simp only[Fz.cell,if_neg h]
def endF (op:Nat) (F:Fz):Option (Unit×Fz):=
 if op=0 then some ((),{F with ended:=true}) else match zu {F with ended:=true} with
  |none=>none
  |some (p,F1)=>match zu F1 with
   |none=>none
   |some (n,F2)=>match zG p n F2 with
    |none=>none
    |some ((a,b),F3)=>some ((),if op=253 then{F3 with out:=⟨(Zo F3.mem a b).toArray⟩,status:=1} else{F3 with out:=⟨(Zo F3.mem a b).toArray⟩})
theorem zkf {base fb:Nat} {F:Fz} {S:List Nat} {sv mv:Value} (op:Nat) (ho:op=243\/op=253) (w:World) (h:Fr base fb F S sv mv w):
  Calls prog 245 #[.pointer (some ⟨fb,0,none⟩),.int .u8 (op:Int)] w (Out (endF op F) zM base fb S w):=by
 have hc:=h.row.cell (i:=24) (by decide);have hz:=h.row.frozen 24;rw[show F.cell sv mv 24=.bool F.ended from rfl] at hc;have d0:((op:Int)==0)=false:=by simp;omega
 obtain⟨S1,sv1,mv1,hf1,hk1,hs1⟩:=h.set1 24 (.bool true) (zhM F sv mv) rfl rfl rfl rfl h.gal;have HF1:=ze hf1;have HK1:=ze hk1;have HS1:=ze hs1;clear h hf1 hk1 hs1;unfold endF;rw[if_neg (by omega)];generalize({F with ended:=true}:Fz)=F0 at*;cases hp1:zu F0 with
 |none=>
  show Calls _ _ _ _ (Out none zM base fb S w);go_enter func245,ntmps245;go_wp2;refine zcA _ _ HF1.out rfl rfl rfl rfl ?_ ?_
  ·intro u pv s x _ hd hk;exact⟨hd,⟨_,_,rfl⟩,HK1.out.trans hk HS1.out⟩
  ·intro x S' sv' mv' b0 b1 hfr;rw[hp1] at hfr;exact absurd hfr (fun h=>zcJ h)
 |some r1=>
  obtain⟨p,F1⟩:=r1;cases hp2:zu F1 with
  |none=>
   show Calls _ _ _ _ (Out (match zu F1 with
    |none=>none
    |some (n,F2)=>match zG p n F2 with
     |none=>none
     |some ((a,b),F3)=>some ((),if op=253 then{F3 with out:=⟨(Zo F3.mem a b).toArray⟩,status:=1} else{F3 with out:=⟨(Zo F3.mem a b).toArray⟩})) zM base fb S w)
   rw[hp2];show Calls _ _ _ _ (Out none zM base fb S w);have HP1:=ze hp1;have HP2:=ze hp2;clear hp1 hp2;go_enter func245,ntmps245;go_wp2;refine zcA _ _ HF1.out rfl rfl rfl rfl ?_ ?_
   ·intro u pv s x _ hd hk;exact⟨hd,⟨_,_,rfl⟩,HK1.out.trans hk HS1.out⟩
   ·intro x S' sv' mv' b0 b1 hfr;rw[HP1.out] at hfr;have hfr2:Fr base fb (zv (zu F1)) S' sv' mv' x:=hfr;rw[HP2.out] at hfr2;exact absurd hfr2 (fun h=>zcJ h)
  |some r2=>
   obtain⟨n,F2⟩:=r2
   show Calls _ _ _ _ (Out (match zu F1 with
    |none=>none
    |some (n,F2)=>match zG p n F2 with
     |none=>none
     |some ((a,b),F3)=>some ((),if op=253 then{F3 with out:=⟨(Zo F3.mem a b).toArray⟩,status:=1} else{F3 with out:=⟨(Zo F3.mem a b).toArray⟩})) zM base fb S w)
   rw[hp2]
   show Calls _ _ _ _ (Out (match zG p n F2 with
     |none=>none
     |some ((a,b),F3)=>some ((),if op=253 then{F3 with out:=⟨(Zo F3.mem a b).toArray⟩,status:=1} else{F3 with out:=⟨(Zo F3.mem a b).toArray⟩})) zM base fb S w)
   have HP1:=ze hp1;have HP2:=ze hp2;clear hp1 hp2;cases hre:zG p n F2 with
   |none=>
    show Calls _ _ _ _ (Out none zM base fb S w);have HRE:=ze hre;clear hre;go_enter func245,ntmps245;go_wp2;refine zcA _ _ HF1.out rfl rfl rfl rfl ?_ ?_
    ·intro u pv s x hno;rw[HP1.out] at hno;exact absurd hno (fun h=>by rcases h with h|h;cases h;rw[show zv (some (p,F1))=F1 from rfl,HP2.out] at h;cases h)
    ·intro x S' sv' mv' b0 b1 hfr hkb hsub hn0 hg0 hr0 hn1 hg1 hr1;rw[HP1.out] at hfr hr0 hr1;have hfr2:Fr base fb (zv (zu F1)) S' sv' mv' x:=hfr;have hr12:zS x b1 (ZH (zu F1)):=hr1;rw[HP2.out] at hfr2 hr12;have hfr3:Fr base fb F2 S' sv' mv' x:=hfr2;have hr03:zS x b0 p:=hr0;have hr13:zS x b1 n:=hr12;have HPA:=ze (zff p n x hfr3);rw[HRE.out] at HPA;obtain⟨c0,c1,c2,c3⟩:=zb hr03;obtain⟨e0,e1,e2,e3⟩:=zb hr13;have HKB:=ze (HK1.out.trans hkb HS1.out);have HSU:Hid (∀j∈S',j∈S\/w.heap.size<=j):=fun j hj=>(hsub j hj).elim (HS1.out j) (fun h=>Or.inr (Nat.le_trans HK1.out.size h))
     clear hfr hfr2 hfr3 hr0 hr1 hr12 hr03 hr13 hkb hsub;simp only[zL,List.foldl_cons,List.foldl_nil,Act.put];rw[HP1.out];simp only[show ZH (some (p,F1))=p from rfl,show zv (some (p,F1))=F1 from rfl];rw[HP2.out];simp only[show ZH (some (n,F2))=n from rfl];go_wp2_with fail
     refine HPA.out.mono ?_;rintro e w2 ⟨⟨u,pv,rfl⟩,hk⟩;exact⟨rfl,⟨_,_,rfl⟩,HKB.out.trans hk HSU.out⟩
   |some r3=>
    obtain⟨⟨a,b⟩,F3⟩:=r3;show Calls _ _ _ _ (Out (some ((),if op=253 then{F3 with out:=⟨(Zo F3.mem a b).toArray⟩,status:=1} else{F3 with out:=⟨(Zo F3.mem a b).toArray⟩})) zM base fb S w);have HRE:=ze hre;clear hre;rcases ho with rfl|rfl
    ·rw[if_neg (by omega)];go_enter func245,ntmps245;go_wp2;refine zcA _ _ HF1.out rfl rfl rfl rfl ?_ ?_
     ·intro u pv s x hno;rw[HP1.out] at hno;exact absurd hno (fun h=>by rcases h with h|h;cases h;rw[show zv (some (p,F1))=F1 from rfl,HP2.out] at h;cases h)
     ·intro x S' sv' mv' b0 b1 hfr hkb hsub hn0 hg0 hr0 hn1 hg1 hr1;rw[HP1.out] at hfr hr0 hr1;have hfr2:Fr base fb (zv (zu F1)) S' sv' mv' x:=hfr;have hr12:zS x b1 (ZH (zu F1)):=hr1;rw[HP2.out] at hfr2 hr12;have hfr3:Fr base fb F2 S' sv' mv' x:=hfr2;have hr03:zS x b0 p:=hr0;have hr13:zS x b1 n:=hr12;have HPA:=ze (zff p n x hfr3);rw[HRE.out] at HPA;have HLE:=ze (zaw HRE.out hfr3.m32);obtain⟨c0,c1,c2,c3⟩:=zb hr03;obtain⟨e0,e1,e2,e3⟩:=zb hr13;have HKB:=ze (HK1.out.trans hkb HS1.out);have HSU:Hid (∀j∈S',j∈S\/w.heap.size<=j):=fun j hj=>(hsub j hj).elim (HS1.out j) (fun h=>Or.inr (Nat.le_trans HK1.out.size h))
      clear hfr hfr2 hfr3 hr0 hr1 hr12 hr03 hr13 hkb hsub;simp only[zL,List.foldl_cons,List.foldl_nil,Act.put];rw[HP1.out];simp only[show ZH (some (p,F1))=p from rfl,show zv (some (p,F1))=F1 from rfl];rw[HP2.out];simp only[show ZH (some (n,F2))=n from rfl];go_wp2_with fail
      refine HPA.out.mono ?_;rintro e w2 ⟨v,S2,sv2,mv2,rfl,hf2,hk2,hs2,hpo⟩;have hcv:=(hpo.rds hf2.me HLE.out).str;have ho2:=hf2.row.cell (i:=26) (by decide);rw[show F3.cell sv2 mv2 26=.string F3.out from rfl] at ho2;have hz2:=hf2.row.frozen 26;have HT:=ze (To.pre (HKB.out.trans hk2 HSU.out) (fun j hj=>(hs2 j hj).elim (HSU.out j) (fun h=>Or.inr (Nat.le_trans HKB.out.size h))) (hf2.set1 26 (.string ⟨(Zo F3.mem a b).toArray⟩) (zgd F3 sv2 mv2 _) rfl rfl rfl rfl hf2.gal));generalize Zo F3.mem a b=L at*;obtain⟨adv,cv,rfl,_⟩:=hpo;clear hf2 hk2 hs2 HPA;go_wp2
      first|go_end0|refine bodyPost_ret (results_none rfl _ _ _) rfl ?_
      exact⟨rfl,HT.out⟩
    ·rw[if_pos rfl];go_enter func245,ntmps245;go_wp2;refine zcA _ _ HF1.out rfl rfl rfl rfl ?_ ?_
     ·intro u pv s x hno;rw[HP1.out] at hno;exact absurd hno (fun h=>by rcases h with h|h;cases h;rw[show zv (some (p,F1))=F1 from rfl,HP2.out] at h;cases h)
     ·intro x S' sv' mv' b0 b1 hfr hkb hsub hn0 hg0 hr0 hn1 hg1 hr1;rw[HP1.out] at hfr hr0 hr1;have hfr2:Fr base fb (zv (zu F1)) S' sv' mv' x:=hfr;have hr12:zS x b1 (ZH (zu F1)):=hr1;rw[HP2.out] at hfr2 hr12;have hfr3:Fr base fb F2 S' sv' mv' x:=hfr2;have hr03:zS x b0 p:=hr0;have hr13:zS x b1 n:=hr12;have HPA:=ze (zff p n x hfr3);rw[HRE.out] at HPA;have HLE:=ze (zaw HRE.out hfr3.m32);obtain⟨c0,c1,c2,c3⟩:=zb hr03;obtain⟨e0,e1,e2,e3⟩:=zb hr13;have HKB:=ze (HK1.out.trans hkb HS1.out);have HSU:Hid (∀j∈S',j∈S\/w.heap.size<=j):=fun j hj=>(hsub j hj).elim (HS1.out j) (fun h=>Or.inr (Nat.le_trans HK1.out.size h))
      clear hfr hfr2 hfr3 hr0 hr1 hr12 hr03 hr13 hkb hsub;simp only[zL,List.foldl_cons,List.foldl_nil,Act.put];rw[HP1.out];simp only[show ZH (some (p,F1))=p from rfl,show zv (some (p,F1))=F1 from rfl];rw[HP2.out];simp only[show ZH (some (n,F2))=n from rfl];go_wp2_with fail
      refine HPA.out.mono ?_;rintro e w2 ⟨v,S2,sv2,mv2,rfl,hf2,hk2,hs2,hpo⟩;have hcv:=(hpo.rds hf2.me HLE.out).str;have ho2:=hf2.row.cell (i:=26) (by decide);rw[show F3.cell sv2 mv2 26=.string F3.out from rfl] at ho2;have hz2:=hf2.row.frozen 26;have hs3:=hf2.row.cell (i:=25) (by decide);rw[show F3.cell sv2 mv2 25=.int .u8 (F3.status:Int) from rfl] at hs3;have hz3:=hf2.row.frozen 25;have h4:=hf2.row.set 26 (.string ⟨(Zo F3.mem a b).toArray⟩);have h5:=h4.set 25 (.int .u8 1)
      have hT2:To base fb {F3 with out:=⟨(Zo F3.mem a b).toArray⟩,status:=1} S2 w2 ((w2.setCell ⟨fb,26,none⟩ (.string ⟨(Zo F3.mem a b).toArray⟩)).setCell ⟨fb,25,none⟩ (.int .u8 1)):=by
       refine hf2.own rfl rfl rfl rfl hf2.gal ?_ (((Kb.refl [fb] w2).setCell (Or.inl (by simp)) _).setCell (Or.inl (by simp)) _);rw[<-show _=_ from zgF {F3 with out:=⟨(Zo F3.mem a b).toArray⟩} sv2 mv2 1,<-zgd F3 sv2 mv2];exact h5
      have HT:=ze (To.pre (HKB.out.trans hk2 HSU.out) (fun j hj=>(hs2 j hj).elim (HSU.out j) (fun h=>Or.inr (Nat.le_trans HKB.out.size h))) hT2);clear h4 h5 hT2;generalize Zo F3.mem a b=L at*;obtain⟨adv,cv,rfl,_⟩:=hpo;clear hf2 hk2 hs2 HPA;go_wp2
      first|go_end0|refine bodyPost_ret (results_none rfl _ _ _) rfl ?_
      exact⟨rfl,HT.out⟩
section
def upN (p n:Nat):Nat:=if p%M<=n then p%M else 0
def upB (p n:Nat):Bool:=decide (p%M<=n)
theorem zlc:Own 284:=fun _ _=>by kernel_rfl
theorem zmO:Own 275:=fun _ _=>by kernel_rfl
theorem zmq (p n:Nat) (hn:n<9223372036854775808) (w:World):Calls prog 284 #[wv p,.int .i64 (n:Int)] w fun e w'=>e=.returned (.tuple #[.int .i64 ((upN p n:Nat):Int),.bool (upB p n)])/\Below w.heap.size w w':=by
 unfold upN upB;by_cases h:p%M<=n
 ·rw[if_pos h,decide_eq_true h];exact(Yd p n hn h w).mono fun e w' ⟨m,h1,h2,h3⟩=>⟨by rw[h2,h1.out],h3⟩
 ·rw[if_neg h,decide_eq_false h];exact(YN p n hn (by omega) w).mono fun e w' ⟨h2,h3⟩=>⟨h2,h3⟩
def Pr (k:Nat) (r:Option ((Nat×Nat)×Fz)):Kn:=fun c _ v _=>k<=c.1/\(∃ad cp,v=.slice ad (match r with
 |some (x,_)=>x.2
 |none=>0) cp)/\(c.1=k->match r with
 |some (x,_)=>PartOf c.2 v x.1 x.2
 |none=>False)
theorem zdH (k:Nat) (r:Option ((Nat×Nat)×Fz)):yv (Pr k r):=ye fun c c' S S' v x x' h hc _ _=>by
 rcases hc with rfl|hc
 ·exact h
 ·exact⟨Nat.le_trans h.1 (Nat.le_of_lt hc),h.2.1,fun e=>absurd h.1 (by omega)⟩
section
variable {s:Act} {x:World} {pos:String} {af:Array Edge} {g:Option (Nat×Bool)} {K:Act->World->Prop} {Q:Exit->Act->World->Prop}
abbrev ptr (p:Nat):Value:=.pointer (some ⟨p,0,none⟩)
def PtrRow (N:Nat) (v:Value) (x:World):Prop:=∃p f,v=ptr p/\N<p/\x.rowIs p 24 4 f
def PtrIs (N n:Nat) (v:Value) (x:World):Prop:=∃p,v=ptr p/\N<p/\x.rowIs p 24 4 (zj (za n))
def Stored (N:Nat) (v:Value) (x x':World):Prop:=∃p f v0 v1 v2 v3,v=ptr p/\N<p/\x.rowIs p 24 4 f/\x'=(((x.setCell ⟨p,0,none⟩ v0).setCell ⟨p,1,none⟩ v1).setCell ⟨p,2,none⟩ v2).setCell ⟨p,3,none⟩ v3
theorem st_outP {f d base fb:Nat} {xs:Array Operand} {vs:Array Value} {A:Array TypeId} {ty:TypeId} {r:Option ((Nat×Nat)×Fz)} {S:List Nat} (hf:Own f) (hv:#[]++xs.map s.eval++#[]=vs) (hc:Calls prog f vs x (OutP r base fb S x))
  (hpan:∀u pv x',r=none->Kb S x x'->Q (.panic [{v:=.iface u pv,recovered:=false}]) s x')
  (hK:∀y v F' S' sv' mv' x',r=some (y,F')->Fr base fb F' S' sv' mv' x'->Kb S x x'->(∀j∈S',j∈S\/x.heap.size<=j)->PartOf mv' v y.1 y.2->K (s.put (some d) v) x'):
  Oper.wp prog ⟨some d,.call ⟨.value (.func f),xs,A⟩,ty,pos,af,g⟩ s x K Q:=by
 refine zg4 hf hv hc fun e x' ho=> ?_
 unfold OutP at ho;split at ho
 ·obtain⟨v,S',sv',mv',h1,h2,h3,h4,h5⟩:=ho;exact Or.inl ⟨_,h1,hK _ _ _ S' sv' mv' x' rfl h2 h3 h4 h5⟩
 ·obtain⟨⟨u,pv,rfl⟩,h2⟩:=ho;exact Or.inr ⟨_,rfl,hpan u pv x' rfl h2⟩
end
def Bd (F:Fz):Prop:=F.mem.length%32≠0
theorem zez:Bd badF:=by unfold Bd badF;simp
theorem zcf {base fb:Nat} {F:Fz} {S:List Nat} {sv mv:Value} {w:World} (hb:Bd F) (h:Fr base fb F S sv mv w):False:=hb h.m32
theorem zmr {F:Fz} (h:Bd F):Bd (zv (zu F)):=by
 unfold zu;split
 ·exact zez
 ·exact h
theorem bd_push {n:Nat} {F:Fz} (h:Bd F):Bd (zv (zP n F)):=by
 unfold zP;split
 ·exact zez
 ·exact h
def yE {α β:Type} (r:Option (α×Fz)) (k:Option (β×Fz)):Option (β×Fz):=match r with
 |none=>none
 |some _=>k
theorem Zq {α β:Type} {r:Option (α×Fz)} {k:Option (β×Fz)} (h:r=none\/k=none):yE r k=none:=by
 cases r with
 |none=>rfl
 |some y=>exact h.resolve_left (by simp)
theorem yY {α β:Type} {r:Option (α×Fz)} {k:Option (β×Fz)} (h:r≠none):yE r k=k:=by
 cases r with
 |none=>exact absurd rfl h
 |some y=>rfl
theorem zad {α:Type} {r:Option (α×Fz)} (h:r=none):Bd (zv r):=by rw[h];exact zez
theorem unit_ok {r:Option (Unit×Fz)} (h:r≠none):r=some ((),zv r):=by
 cases r with
 |none=>exact absurd rfl h
 |some y=>rfl
def partL (r:Option ((Nat×Nat)×Fz)):List UInt8:=match r with
 |some ((a,b),F)=>Zo F.mem a b
 |none=>[]
theorem zmu {p n a b:Nat} {F F1:Fz} (h:zG p n F=some ((a,b),F1)):b=n%M:=by
 unfold zG at h;split at h
 ·rename_i h0;obtain⟨h1,rfl⟩:=Prod.mk.inj (Option.some.inj h);obtain⟨rfl,rfl⟩:=Prod.mk.inj h1;omega
 ·split at h
  ·split at h
   ·cases h
   ·obtain⟨h1,rfl⟩:=Prod.mk.inj (Option.some.inj h);obtain⟨rfl,rfl⟩:=Prod.mk.inj h1;rfl
  ·cases h
end
theorem Fr.written {base fb:Nat} {F:Fz} {S:List Nat} {sv mv:Value} {x x':World} (h:Fr base fb F S sv mv x) {m:List UInt8} (hl:m.length=F.mem.length) (hk:Kb mv.ownBlock.toList x x') (hm:Bys x' base mv m):Fr base fb {F with mem:=m} S sv mv x':=by
 have hsub:∀k∈mv.ownBlock.toList,k∈S:=fun k hk=>by rw[h.foot];exact List.mem_cons_of_mem _ (List.mem_append_right _ hk)
 refine⟨?_,hk.own h.st (fun k hk2 hm2=>h.ms k hk2 (List.mem_cons_of_mem _ hm2)),hm,h.foot,h.stl,by show m.length<=_;rw[hl];exact h.mel,h.gal,Nat.le_trans h.hb hk.size,zc0 h.zr hk (fun h0=>h.no0 (hsub 0 h0)) h.hs,h.hb1,h.hfb,by show m.length%32=0;rw[hl];exact h.m32,h.jr.kb hk (fun g N f hr hg=>h.bno g N f hr (hsub g hg))⟩;have hr:=hk.row h.row (fun hm2=>h.fm fb (by simpa using hm2) rfl)
 have e:F.cell sv mv=({F with mem:=m}:Fz).cell sv mv:=by
  rw[<-ziP F sv mv mv m];funext i;by_cases hi:i=20
  ·subst hi;rfl
  ·rw[if_neg hi]
 rw[e] at hr;exact hr
theorem ziw {α β:Type} (f:α->β) (L:List α) (o:Nat) (l:List α):(splice L o l).map f=splice (L.map f) o (l.map f):=by
 unfold splice;rw[List.map_append,List.map_append,List.map_take,List.map_drop,List.length_map]
theorem zgG {α:Type} (L:List α) (o n:Nat) (l:List α) (h:o+l.length<=n) (hn:n<=L.length):(splice L o l).take n=splice (L.take n) o l:=by
 unfold splice;rw[List.take_take,Nat.min_eq_left (by omega),List.take_append,List.take_append,List.length_take,Nat.min_eq_left (by omega),List.take_of_length_le (l:=List.take o L) (by rw[List.length_take];omega),List.take_of_length_le (l:=l) (by omega),List.drop_take];congr 3;omega
theorem zhr {α:Type} (L:List α) (o:Nat):splice L o []=L:=by unfold splice;simp
theorem zls {base fb:Nat} {F:Fz} {S:List Nat} {sv mv v u:Value} {x:World} {a b:Nat} {L:List UInt8} (hf:Fr base fb F S sv mv x) (hp:PartOf mv v a b) (hr:Rds x u L) (hl:L.length=b) (ty:TypeId):
  ∃x',(Builtin.copy_ #[26,26] ty #[v,u]).run prog x=.ok (goInt b) x'/\Fr base fb {F with mem:=splice F.mem a L} S sv mv x'/\Kb S x x':=by
 obtain⟨ad,c,rfl,hbc,hp⟩:=hp;obtain⟨ad2,c2,rfl,hc2,hr⟩:=hr;by_cases hb:b=0
 ·subst hb;obtain rfl:L=[]:=List.eq_nil_of_length_eq_zero hl;refine⟨x,run_copy_none (P:=prog) x _ _ ty 5 ad ad2 0 c _ c2 Yf sz_u8 (by simp), ?_,Kb.refl _ _⟩;rw[zhr];exact hf
 ·obtain⟨g,len,cap,rfl,rfl,hle⟩:=hp hb;obtain⟨g2,o2,rfl,hg2,hc⟩:=hr (fun e=>hb (by rw[<-hl,e];rfl));rcases hf.me with⟨hxl,⟨h1,_⟩|⟨g',cap',cur,h1,h2,h3,h4,h5,h6,h7⟩⟩
  ·injection h1 with h1;cases h1
  ·injection h1 with h1 h8 h9
   injection h1 with h1
   injection h1 with h1
   subst h1 h8 h9
   have hrun:=run_copy_row (P:=prog) x 26 26 ty 5 g a b c ⟨g2,o2,none⟩ L.length c2 cur 5 (L.map u8v) Yf sz_u8 h3 (by rw[List.length_map,hl];exact(Nat.min_self b).symm) (fun j v hj=>by
    have hj2:j<L.length:=by
     have:=(List.getElem?_eq_some_iff.1 hj).1;rwa[List.length_map] at this
    rw[List.getElem?_map,List.getElem?_eq_getElem hj2] at hj;have e:(⟨g2,o2,none⟩:Addr).add j=⟨g2,o2+j,none⟩:=by simp[Addr.add,eq_comm]
    rw[e,hc j hj2];exact hj) (by rw[List.length_map,h6];omega) (zba L)
   rw[List.length_map,hl] at hrun;rw[hl];refine⟨_,hrun, ?_, ?_⟩
   ·refine hf.written (m:=splice F.mem a L) (length_splice _ _ _ (by rw[hl];exact hle)) ((Kb.refl _ x).setRow (Or.inl (by simp[Value.ownBlock])) _) ?_;refine⟨by rw[List.length_map];omega,Or.inr ⟨g,cap,_, ?_,h2,setRow_heap x g _ _ _ _ h3, ?_,h5, ?_, ?_⟩⟩
    ·rw[length_splice _ _ _ (by rw[hl];exact hle)]
    ·rw[length_splice _ _ _ (by rw[hl];exact hle)];exact h4
    ·have h9:cur.toList.length=cap*1:=by rw[<-h6];rfl
     show(_:List Value).length=_;rw[List.length_append,List.length_append,List.length_take,List.length_drop,List.length_map,hl,h9];omega
    ·rw[length_splice _ _ _ (by rw[hl];exact hle),ziw,<-h7]
     have e:∀(q:List Value),q=splice cur.toList a (L.map u8v)->q.take (F.mem.length*1)=splice (cur.toList.take (F.mem.length*1)) a (L.map u8v):=fun q hq=>by
      rw[hq];exact zgG _ _ _ _ (by rw[List.length_map];omega) (by simp;omega)
     refine e _ ?_;unfold splice;rw[List.length_map,hl,List.append_assoc]
   ·refine(Kb.refl _ x).setRow (Or.inl ?_) _;rw[hf.foot];exact List.mem_cons_of_mem _ (List.mem_append_right _ (by simp[Value.ownBlock]))
theorem st_copy {s:Act} {x:World} {pos:String} {af:Array Edge} {g:Option (Nat×Bool)} {K:Act->World->Prop} {Q:Exit->Act->World->Prop} {t u d:Nat} {T T' ty:TypeId} {v z r:Value} {x':World} (hv:s.tmps.getD t undef=v) (hz:s.tmps.getD u undef=z)
  (hr:(Builtin.copy_ #[T,T'] ty #[v,z]).run prog x=.ok r x') (h:K (s.put (some d) r) x'):
  Oper.wp prog ⟨some d,.call ⟨.builtin .copy,#[.tmp t,.tmp u],#[T,T']⟩,ty,pos,af,g⟩ s x K Q:=by
 have hv2:s.eval (.tmp t)=v:=hv;have hz2:s.eval (.tmp u)=z:=hz;unfold Oper.wp execOp;simp only[resolve,invoke,builtin,Sem.run_bind,Sem.run_pure,Result.andThen_ok,List.map_toArray,List.map_cons,List.map_nil,hv2,hz2,hr];exact h
def AnyV:Kn:=fun _ _ _ _=>True
theorem zci:yv AnyV:=ye fun _ _ _ _ _ _ _ h _ _ _=>h
def YW (r:Option ((Nat×Nat)×Fz)) (L:List UInt8):Fz:=match r with
 |some ((a,_),F)=>{F with mem:=splice F.mem a L}
 |none=>badF
theorem Pr.copy {k base fb p n:Nat} {G:Fz} {mv v sv u:Value} {S:List Nat} {x:World} {L:List UInt8} (h:Pr k (zG p n G) (k,mv) S v x) (hf:Fr base fb (zv (zG p n G)) S sv mv x) (hr:Rds x u L) (hl:L.length=n%M) (ty:TypeId):
  ∃y x',(Builtin.copy_ #[26,26] ty #[v,u]).run prog x=.ok y x'/\Fr base fb (YW (zG p n G) L) S sv mv x'/\Kb S x x':=by
 obtain⟨_,_,h3⟩:=h;have h3:=h3 rfl;cases hq:zG p n G with
 |none=>rw[hq] at h3;exact h3.elim
 |some y=>
  obtain⟨⟨a,b⟩,F1⟩:=y;rw[hq] at h3 hf;obtain⟨x',h4,h5,h6⟩:=zls (F:=F1) hf (show PartOf mv v a b from h3) hr (by rw[hl,zmu hq]) ty;exact⟨_,x',h4,h5,h6⟩
section
section
variable {s:Act} {x:World} {pos:String} {af:Array Edge} {g:Option (Nat×Bool)} {K:Act->World->Prop} {Q:Exit->Act->World->Prop}
def lowB (n:Nat):UInt8:=UInt8.ofNat (n%256)
end
def PrA (k:Nat) (r:Option ((Nat×Nat)×Fz)):Kn:=fun c _ v _=>k<=c.1/\(c.1=k->match r with
 |some (y,_)=>∃g len cap:Nat,c.2=.slice (some ⟨g,0,none⟩) len cap/\v=.pointer (some ⟨g,y.1,none⟩)/\y.1+1<=len
 |none=>False)
theorem zir (k:Nat) (r:Option ((Nat×Nat)×Fz)):yv (PrA k r):=ye fun c c' S S' v x x' h hc _ _=>by
 rcases hc with rfl|hc
 ·exact h
 ·exact⟨Nat.le_trans h.1 (Nat.le_of_lt hc),fun e=>absurd h.1 (by omega)⟩
end
section
section
variable {s:Act} {x:World} {pos:String} {af:Array Edge} {g:Option (Nat×Bool)} {K:Act->World->Prop} {Q:Exit->Act->World->Prop}
theorem cf_part {f d base fb p:Nat} {xs:Array Operand} {vs:Array Value} {A:Array TypeId} {ty:TypeId} {r:Option ((Nat×Nat)×Fz)} {S:List Nat} {F2:Fz} (hf:Own f) (hv:#[]++xs.map s.eval++#[]=vs) (hc:Calls prog f vs x (OutP r base fb S x)) (hg:F2=zv r)
  (hpan:r=none->∀u pv x',Kb S x x'->Q (.panic [{v:=.iface u pv,recovered:=false}]) s x')
  (hK:∀v S' sv' mv' x',Fr base fb F2 S' sv' mv' x'->Kb S x x'->(∀j∈S',j∈S\/x.heap.size<=j)->(some d=none->v=undef)->(Ek.l (Pr p r)).kn (p,mv') S' v x'->K (s.put (some d) v) x'):
  Oper.wp prog ⟨some d,.call ⟨.value (.func f),xs,A⟩,ty,pos,af,g⟩ s x K Q:=
 st_outP hf hv hc (fun u pv x' hr hk=>hpan hr u pv x' hk) fun y v F' S2 sv2 mv2 x' hr h1 h2 h3 h4=>hK _ S2 sv2 mv2 x' (by rw[hg,hr];exact h1) h2 h3 nn1 (by
  obtain⟨ad9,cp9,e9,r9⟩:=h4;rw[hr];exact⟨Nat.le_refl _,⟨ad9,cp9,e9⟩,fun _=>⟨ad9,cp9,e9,r9⟩⟩)
end
end
theorem zfk {base fb:Nat} {F:Fz} {S:List Nat} {sv mv:Value} {Q:Exit->Act->World->Prop} (a:Act) (w:World) {ba:Nat} {La:List UInt8} (har4:∀x,Kb S w x->Rds x (.slice (some ⟨ba,0,none⟩) 32 32) La) (hal4:La.length=32%M) {bp np:Nat} (hr2:zS w bp (np)) (hr2n:bp∉S) (h:Fr base fb F S sv mv w) (hsz:([15,16,17,18,19,20]:List Nat).all (fun d=>decide (d<a.tmps.size))=true) (c2:a.tmps.getD 2 undef=.pointer (some ⟨bp,0,none⟩)) (c4:a.tmps.getD 4 undef=.pointer (some ⟨ba,0,none⟩)) (c0:a.tmps.getD 0 undef=.pointer (some ⟨fb,0,none⟩))
  (hpan:∀u pv s x,(zG (np) (32) (F)=none)->s.defers=a.defers->Kb S w x->Q (.panic [{v:=.iface u pv,recovered:=false}]) s x)
  (hok:∀(x:World) (S':List Nat) (sv' mv':Value) (z3:Value) (z5:Value),Fr base fb (YW (zG (np) (32) (F)) La) S' sv' mv' x->Kb S w x->(∀j∈S',j∈S\/w.heap.size<=j)->(Pr 1 (zG (np) (32) (F))) (2,mv') S' z3 x->(AnyV) (2,mv') S' z5 x->Q .normal (zL a [(15,.pointer (some ⟨fb,0,none⟩)),(16,wv (np)),(17,wv (32)),(18,z3),(19,.slice (some ⟨ba,0,none⟩) 32 32),(20,z5)]) x):
  (Code.region 2 #[⟨some 15,.move (.tmp 0),132,"memory.go:46",#[],none⟩,⟨some 16,.load 24 (.tmp 2),24,"memory.go:46",#[],none⟩,⟨some 17,.call ⟨.value (.func 262),#[.const (.int .i64 32)],#[3]⟩,24,"memory.go:46",#[],none⟩,⟨some 18,.call ⟨.value (.func 275),#[.tmp 15,.tmp 16,.tmp 17],#[132,24,24]⟩,26,"memory.go:46",#[⟨0,.data⟩,⟨1,.data⟩,⟨2,.data⟩,⟨2,.chain⟩],none⟩,⟨some 19,.slice 298 (.tmp 4) none none none,26,"memory.go:46",#[],none⟩,⟨some 20,.call ⟨.builtin Builtin.copy,#[.tmp 18,.tmp 19],#[26,26]⟩,3,"memory.go:46",#[⟨3,.data⟩,⟨4,.data⟩,⟨3,.chain⟩],none⟩] true).wp prog Q a w:=by
 exact Z1 (fun k=>match k with|0=>F|1=>zv (zG (np) (32) (F))|_=>YW (zG (np) (32) (F)) La) h [(2,.pointer (some ⟨bp,0,none⟩)),(4,.pointer (some ⟨ba,0,none⟩)),(0,.pointer (some ⟨fb,0,none⟩))] [(some 15,.v (.pointer (some ⟨fb,0,none⟩))),(some 16,.v (wv (np))),(some 17,.v (wv (32))),(some 18,.l (Pr 1 (zG (np) (32) (F)))),(some 19,.v (.slice (some ⟨ba,0,none⟩) 32 32)),(some 20,.l (AnyV))] [3,5] [1,2] (by kernel_rfl) hsz (zW c2 (zW c4 (zW c0 rfl))) (by kernel_rfl) (And.intro (zdH _ _) (And.intro (zci) trivial))
  (zk _ _ _ rfl rfl (fun s x S1 sv1 mv1 hfr hkb hsub hdf hv hl K hK=>cf_part (r:=zG (np) (32) (F)) zmO (ev3 (hv 15 _ rfl) (hv 16 _ rfl) (hv 17 _ rfl)) (zff (np) (32) x hfr) rfl (fun hrn u pv x' hk=>hpan u pv s x' hrn hdf (hkb.trans hk hsub)) hK)
  (zk _ _ _ rfl rfl (fun s x S1 sv1 mv1 hfr hkb hsub hdf hv hl K hK=>by
   obtain⟨y9,x9,h7,h8,h9⟩:=Pr.copy (hl 18 _ rfl) hfr (har4 x hkb) hal4 3;exact st_copy rfl (hv 19 _ rfl) h7 (hK _ S1 sv1 mv1 x9 h8 h9 (fun j hj=>Or.inl hj) nn1 trivial))
  True.intro))
  (zk _ _ _ rfl rfl (fun s x k S1 sv1 mv1 hfr hkb hkp hv hl K hK=>zfy 2 16 _ _ (hv 2 _ rfl) (hkb.row hr2 hr2n) (hK _ x (Below.refl _ _) nn1 rfl))
  (zk _ _ _ rfl rfl (fun s x k S1 sv1 mv1 hfr hkb hkp hv hl K hK=>zN zdX (ev1 rfl) (Yu (32) (by omega) x) (fun e x' h9=>⟨_,h9.1,hK _ x' h9.2 nn1 rfl⟩))
  True.intro))
  fun g x S' sv' mv' hfr hkb hsub hT=>hok x S' sv' mv' (g 3) (g 5) hfr hkb hsub (hT 3 _ _ rfl) (hT 5 _ _ rfl)
abbrev YD (F:Fz):Fz:=zv (zu (zv (zu F)))
abbrev zam (F:Fz):Nat:=ZH (zu F)
abbrev zbm (F:Fz):Nat:=ZH (zu (zv (zu F)))
def yf (F:Fz):Option (Unit×Fz):=
 yE (zu F) (yE (zu (zv (zu F))) (yE (zG (zam F) 32 (YD F)) (some ((),YW (zG (zam F) 32 (YD F)) (bys (zbm F) 0)))))
theorem zjz {s:Act} {x:World} {pos:String} {af:Array Edge} {g:Option (Nat×Bool)} {K:Act->World->Prop} {Q:Exit->Act->World->Prop} {d:Nat} {ty:TypeId}
  (hK:K (s.put (some d) (.pointer (some ⟨x.heap.size,0,none⟩))) (x.alloc (.cells (zT 32 (u8s fun _=>0)).toArray 298))):
  Oper.wp prog ⟨some d,.alloc 298,ty,pos,af,g⟩ s x K Q:=by
 go_simp;exact hK
theorem zh6 (w:World):(w.alloc (.cells (zT 32 (u8s fun _=>0)).toArray 298)).rowIs w.heap.size 298 32 (u8s fun _=>0):=by
 have h:=World.rowIs_alloc w (zT 32 (u8s fun _=>0)).toArray 298 (u8s fun _=>0) (fun i hi=>by
  have hi2:i<32:=by simpa[zT] using hi
  simp[zT,hi2])
 simpa[zT] using h
theorem zfG {base fb:Nat} {F:Fz} {S:List Nat} {sv mv:Value} (w:World) (h:Fr base fb F S sv mv w):
  Calls prog 266 #[.pointer (some ⟨fb,0,none⟩)] w (Out (yf F) zM base fb S w):=by
 go_enter func266,ntmps266;go_wp2;refine zcA _ _ h rfl rfl rfl rfl ?_ ?_
 ·intro u pv s x hno hd hk
  have e:yf F=none:=by
   rcases hno with e|e
   ·exact Zq (Or.inl e)
   ·exact Zq (Or.inr (Zq (Or.inl e)))
  rw[e];exact⟨hd,⟨_,_,rfl⟩,hk⟩
 ·intro x S' sv' mv' b0 b1 hfr hkb hsub hn0 hg0 hr0 hn1 hg1 hr1;have e:yf F=yE (zG (zam F) 32 (YD F)) (some ((),YW (zG (zam F) 32 (YD F)) (bys (zbm F) 0))):=(yY fun e=>zcf (zmr (zad e)) hfr).trans (yY fun e=>zcf (zad e) hfr);have HE:=ze e;clear e;change Fr base fb (YD F) S' sv' mv' x at hfr;change zS x b0 (zam F) at hr0;change zS x b1 (zbm F) at hr1;simp only[zL,List.foldl_cons,List.foldl_nil,Act.put];generalize YD F=F2 at*;generalize zam F=p at*;generalize zbm F=q at*;generalize yf F=R at*;have HFR:=ze hfr;have HKB:=ze hkb;have HSU:=ze hsub;have HR0:=ze hr0;obtain⟨c0,c1,c2,c3⟩:=zb hr1;have HT:=ze (zbI q);clear hfr hkb hsub hr0 hr1;go_wp2_with fail
  refine(HT.out _).mono ?_;rintro e x1 ⟨rfl,hb1⟩;rename_i K1 k1 K2 k2;refine k2 _ _ ?_;refine wpList_plain rfl fun K3 k3=>zjz (k3 _ _ ?_)
  have hrow:(x1.alloc (.cells (zT 32 (u8s fun _=>0)).toArray 298)).rowIs x1.heap.size 298 32 (u8s fun _=>0):=zh6 x1;refine wpList_plain rfl fun K4 k4=>zdU (cs:=(bys q 0).map u8v) 4 14 x1.heap.size (fun w=>by kernel_rfl) (by simp[bys]) (zba _) rfl rfl hrow (k4 _ _ ?_)
  refine wpList_nil ?_;refine k1 _ _ ?_;have hB2:Below x.heap.size x ((x1.alloc (.cells (zT 32 (u8s fun _=>0)).toArray 298)).setRow x1.heap.size ((bys q 0).map u8v).toArray):=below_setRow (bal hb1 _) hb1.size _
  have hA2:((x1.alloc (.cells (zT 32 (u8s fun _=>0)).toArray 298)).setRow x1.heap.size ((bys q 0).map u8v).toArray).heap[x1.heap.size]? =some (.cells ((bys q 0).map u8v).toArray 298 (0,0)):=by
   obtain⟨c,hb,_⟩:=hrow;exact setRow_heap _ _ _ _ _ _ hb
  have hlt:x.heap.size<=x1.heap.size:=hb1.size;generalize x1.heap.size=ba at*;generalize(x1.alloc (.cells (zT 32 (u8s fun _=>0)).toArray 298)).setRow ba ((bys q 0).map u8v).toArray=x2 at*;have hbaS:ba∉S':=fun hm=>by have:=HFR.out.footlt ba hm;omega
  refine zfk (F:=F2) (S:=S') (La:=bys q 0) (ba:=ba) (bp:=b0) (np:=p) _ x2 ?_ (by simp[bys];decide) (zf HR0.out hB2) hn0 (HFR.out.below hB2) rfl rfl rfl rfl ?_ ?_
  ·intro y hy;refine⟨some ⟨ba,0,none⟩,32,by simp[bys],by simp[bys],fun _=>⟨ba,0,rfl, ?_,fun i hi=> ?_⟩⟩
   ·exact Nat.lt_of_lt_of_le (lt_of_block hA2) hy.size
   ·rw[World.cell?_of_block (hy.block ba (lt_of_block hA2) hbaS),Nat.zero_add];simp only[World.cell?,hA2];simp[hi]
  ·intro u pv s y hno hd hk;have e:R=none:=HE.out.trans (Zq (Or.inl hno));rw[e];exact⟨hd,⟨_,_,rfl⟩,(HKB.out.trans ((Kb.of_below hB2).trans hk (fun j hj=>Or.inl hj)) HSU.out)⟩
  ·intro y S2 sv2 mv2 z3 z5 hf2 hk2 hs2 hz3 hz5;have e:R=some ((),YW (zG p 32 F2) (bys q 0)):=HE.out.trans (yY fun e=>by rw[e] at hf2;exact zcf zez hf2);have hk3:=(Kb.of_below (S:=S') hB2).trans hk2 (fun j hj=>Or.inl hj)
   have HO:Hid (Out R zM base fb S w (.returned (.tuple #[])) y):=by
    rw[e];exact⟨rfl,S2,sv2,mv2,hf2,HKB.out.trans hk3 HSU.out,fun j hj=>(hs2 j hj).elim (HSU.out j) (fun h=>Or.inr (Nat.le_trans HKB.out.size (Nat.le_trans hB2.size h)))⟩
   clear e hf2 hk2 hs2 hz3 hz5 hk3;simp only[zL,List.foldl_cons,List.foldl_nil,Act.put];go_wp2;go_end0;exact HO.out

theorem zeb {base fb:Nat} {F:Fz} {S:List Nat} {sv mv:Value} {Q:Exit->Act->World->Prop} (a:Act) (w:World) {bp np:Nat} (hr3:zS w bp (np)) (hr3n:bp∉S) (hup6:F.code.size<9223372036854775808) (h:Fr base fb F S sv mv w) (hsz:([7,8,9,10,11,12,13,6,14,15,4,5]:List Nat).all (fun d=>decide (d<a.tmps.size))=true) (c3:a.tmps.getD 3 undef=.pointer (some ⟨bp,0,none⟩)) (c0:a.tmps.getD 0 undef=.pointer (some ⟨fb,0,none⟩))
  (hpan:∀u pv s x,False->s.defers=a.defers->Kb S w x->Q (.panic [{v:=.iface u pv,recovered:=false}]) s x)
  (hok:∀(x:World) (S':List Nat) (sv' mv':Value),Fr base fb (F) S' sv' mv' x->Kb S w x->(∀j∈S',j∈S\/w.heap.size<=j)->Q .normal (zL a [(7,wv (np)),(8,.pointer (some ⟨fb,0,none⟩)),(9,.pointer (some ⟨fb,0,none⟩)),(10,.pointer (some ⟨fb,1,none⟩)),(11,.string F.code),(12,.int .i64 (F.code.size:Int)),(13,.tuple #[.int .i64 ((upN (np) (F.code.size):Nat):Int),.bool (upB (np) (F.code.size))]),(6,.tuple #[.int .i64 ((upN (np) (F.code.size):Nat):Int),.bool (upB (np) (F.code.size))]),(14,.int .i64 ((upN (np) (F.code.size):Nat):Int)),(15,.bool (upB (np) (F.code.size))),(4,.int .i64 ((upN (np) (F.code.size):Nat):Int)),(5,.bool (upB (np) (F.code.size)))]) x):
  (Code.region 1 #[⟨some 7,.load 24 (.tmp 3),24,"instructions.go:105",#[],none⟩,⟨some 8,.move (.tmp 0),132,"instructions.go:105",#[],none⟩,⟨some 9,.nilCheck (.tmp 8),0,"instructions.go:105",#[⟨1,.data⟩],none⟩,⟨some 10,.fieldAddr 137 (.tmp 9) 1,0,"instructions.go:105",#[⟨2,.data⟩],none⟩,⟨some 11,.load 9 (.tmp 10),9,"instructions.go:105",#[⟨3,.data⟩],none⟩,⟨some 12,.call ⟨.builtin Builtin.len,#[.tmp 11],#[9]⟩,3,"instructions.go:105",#[⟨4,.data⟩],none⟩,⟨some 13,.call ⟨.value (.func 284),#[.tmp 7,.tmp 12],#[24,3]⟩,114,"instructions.go:105",#[⟨0,.data⟩,⟨5,.data⟩],none⟩,⟨some 6,.move (.tmp 13),114,"instructions.go:105",#[⟨6,.data⟩],none⟩,⟨some 14,.extract (.tmp 6) 0,3,"instructions.go:105",#[⟨7,.data⟩],none⟩,⟨some 15,.extract (.tmp 6) 1,4,"instructions.go:105",#[⟨7,.data⟩,⟨10,.gcOnly .lateStores⟩],none⟩,⟨some 4,.assign (.tmp 14),3,"instructions.go:105",#[⟨8,.data⟩,⟨6,.chain⟩,⟨0,.phase⟩,⟨1,.phase⟩,⟨2,.phase⟩,⟨3,.phase⟩,⟨4,.phase⟩,⟨5,.phase⟩,⟨6,.phase⟩,⟨7,.phase⟩,⟨8,.phase⟩,⟨9,.textOnly .lateStores⟩],none⟩,⟨some 5,.assign (.tmp 15),4,"instructions.go:105",#[⟨9,.data⟩,⟨10,.chain⟩,⟨0,.phase⟩,⟨1,.phase⟩,⟨2,.phase⟩,⟨3,.phase⟩,⟨4,.phase⟩,⟨5,.phase⟩,⟨6,.phase⟩,⟨7,.phase⟩,⟨8,.phase⟩,⟨9,.phase⟩,⟨10,.phase⟩],none⟩] true).wp prog Q a w:=by
 have hsame:∀k:Nat,100000<((fun _:Nat=>F) k).gas\/Same F ((fun _:Nat=>F) k):=by
  intro k;have s0:100000<(F).gas\/Same F F:=Or.inr (Same.refl F);exact s0
 exact Z1 (fun _:Nat=>F) h [(3,.pointer (some ⟨bp,0,none⟩)),(0,.pointer (some ⟨fb,0,none⟩))] [(some 7,.v (wv (np))),(some 8,.v (.pointer (some ⟨fb,0,none⟩))),(some 9,.v (.pointer (some ⟨fb,0,none⟩))),(some 10,.v (.pointer (some ⟨fb,1,none⟩))),(some 11,.v (.string F.code)),(some 12,.v (.int .i64 (F.code.size:Int))),(some 13,.v (.tuple #[.int .i64 ((upN (np) (F.code.size):Nat):Int),.bool (upB (np) (F.code.size))])),(some 6,.v (.tuple #[.int .i64 ((upN (np) (F.code.size):Nat):Int),.bool (upB (np) (F.code.size))])),(some 14,.v (.int .i64 ((upN (np) (F.code.size):Nat):Int))),(some 15,.v (.bool (upB (np) (F.code.size)))),(some 4,.v (.int .i64 ((upN (np) (F.code.size):Nat):Int))),(some 5,.v (.bool (upB (np) (F.code.size))))] [] [0,4,6] (by kernel_rfl) hsz (zW c3 (zW c0 rfl)) (by kernel_rfl) trivial
  True.intro
  (zk _ _ _ rfl rfl (fun s x k S1 sv1 mv1 hfr hkb hkp hv hl K hK=>zfy 3 7 _ _ (hv 3 _ rfl) (hkb.row hr3 hr3n) (hK _ x (Below.refl _ _) nn1 rfl))
  (zk _ _ _ rfl rfl (fun s x k S1 sv1 mv1 hfr hkb hkp hv hl K hK=>by
    rcases hsame k with hbd|hsm
    ·exact absurd hfr.gal (Nat.not_le.2 hbd)
    ·have e:=hsm.code;exact Zh (v:=.string F.code) (fun w=>by kernel_rfl) (hv 10 _ rfl) ((hfr.row.cell (i:=1) (by decide)).trans (congrArg (fun z=>some (Value.string z)) e)) (hK _ x (Below.refl _ _) nn1 rfl))
  (zk _ _ _ rfl rfl (fun s x k S1 sv1 mv1 hfr hkb hkp hv hl K hK=>zN zlc (ev2 (hv 7 _ rfl) (hv 12 _ rfl)) (zmq (np) (F.code.size) hup6 x) (fun e x' h9=>⟨_,h9.1,hK _ x' h9.2 nn1 rfl⟩))
  True.intro)))
  fun g x S' sv' mv' hfr hkb hsub hT=>hok x S' sv' mv' hfr hkb hsub
def zbg (p:Nat) (F:Fz):Option (Unit×Fz):=if upB p F.code.size&&(jdL F.code).getD (p%M) false then some ((),{F with nx:=p%M}) else none
theorem jump_I {base fb:Nat} {F:Fz} {S:List Nat} {sv mv:Value} (p:Nat) (hcs:F.code.size<=100000) (w:World) (h:Fr base fb F S sv mv w):
  Calls prog 270 #[.pointer (some ⟨fb,0,none⟩),wv p] w (Out (zbg p F) zM base fb S w):=by
 have HB:Hid (F.code.size<9223372036854775808):=by show _<_;omega
 have hs:=W1.start w p;have HF:=ze (h.below hs.be);have HN:Hid (w.heap.size∉S):=fun hm=>by have:=h.footlt _ hm;omega
 have HR:=ze hs.ra;have HBE:=ze hs.be;clear hs h;unfold zbg;cases hu:upB p F.code.size with
 |false=>
  show Calls _ _ _ _ (Out none zM base fb S w);have HU:=ze hu;clear hu;go_enter func270,ntmps270;go_wp2;refine zeb _ _ HR.out HN.out HB.out HF.out rfl rfl rfl (fun _ _ _ _ h=>h.elim) ?_;intro x S' sv' mv' hfr hkb hsub;have HK:=ze ((Kb.of_below (S:=S) HBE.out).trans hkb (fun j hj=>Or.inl hj));clear hfr hkb hsub;rw[HU.out];simp only[zL,List.foldl_cons,List.foldl_nil,Act.put];go_wp2;exact⟨rfl,⟨_,_,rfl⟩,HK.out⟩
 |true=>
  have HU:=ze hu;have hle:p%M<=F.code.size:=of_decide_eq_true hu;have hup:upN p F.code.size=p%M:=if_pos hle;clear hu;obtain⟨q,HQ⟩:∃q:Nat,Hid (q=p%M):=⟨_,rfl⟩;rw[<-HQ.out] at hle hup⊢;have HUP:=ze hup;clear hup;cases hj:(jdL F.code).getD q false with
  |false=>
   show Calls _ _ _ _ (Out none zM base fb S w);go_enter func270,ntmps270;go_wp2;refine zeb _ _ HR.out HN.out HB.out HF.out rfl rfl rfl (fun _ _ _ _ h=>h.elim) ?_;intro x S' sv' mv' hfr hkb hsub;have HK:=ze ((Kb.of_below (S:=S) HBE.out).trans hkb (fun j hj=>Or.inl hj));obtain⟨g,cap,e1,hrow⟩:=hfr.jr;have hcj:=hfr.row.cell (i:=2) (by decide);rw[show F.cell sv' mv' 2=F.jd from rfl,e1] at hcj;have hcb:=hrow.cell (i:=q) (by omega);rw[hj] at hcb;clear hfr hkb hsub hrow e1 hj;rw[HU.out,HUP.out];simp only[zL,List.foldl_cons,List.foldl_nil,Act.put];go_wp2;exact⟨rfl,⟨_,_,rfl⟩,HK.out⟩
  |true=>
   show Calls _ _ _ _ (Out (some ((),{F with nx:=q})) zM base fb S w);go_enter func270,ntmps270;go_wp2;refine zeb _ _ HR.out HN.out HB.out HF.out rfl rfl rfl (fun _ _ _ _ h=>h.elim) ?_;intro x S' sv' mv' hfr hkb hsub;have HK:=ze ((Kb.of_below (S:=S) HBE.out).trans hkb (fun j hj=>Or.inl hj));have HS:Hid (∀k∈S',k∈S\/w.heap.size<=k):=fun k hk=>(hsub k hk).imp id (fun h=>Nat.le_trans HBE.out.size h)
   obtain⟨g,cap,e1,hrow⟩:=hfr.jr;have hcj:=hfr.row.cell (i:=2) (by decide);rw[show F.cell sv' mv' 2=F.jd from rfl,e1] at hcj;have hcb:=hrow.cell (i:=q) (by omega);rw[hj] at hcb;have hcn:x.cell? ⟨fb,23,none⟩=some (.int .i64 (F.nx:Int)):=hfr.row.cell (i:=23) (by decide);have hzn:=hfr.row.frozen 23;have HT:=ze (To.pre HK.out HS.out (hfr.set1 23 _ (zd8 F sv' mv' q) rfl rfl rfl rfl hfr.gal));clear hfr hkb hsub hrow e1 hj;rw[HU.out,HUP.out];simp only[zL,List.foldl_cons,List.foldl_nil,Act.put];go_wp2;go_end0;exact⟨rfl,HT.out⟩
def storeByteF (F:Fz):Option (Unit×Fz):=
 yE (zu F) (yE (zu (zv (zu F))) (yE (zG (zam F) 1 (YD F)) (some ((),YW (zG (zam F) 1 (YD F)) [lowB (zbm F)]))))
def jumpIfF (F:Fz):Option (Unit×Fz):=
 yE (zu F) (yE (zu (zv (zu F))) (if zbm F%M=0 then some ((),YD F) else zbg (zam F) (YD F)))
section
open Go.Maps
section
variable {s:Act} {x:World} {pos:String} {af:Array Edge} {g:Option (Nat×Bool)} {K:Act->World->Prop} {Q:Exit->Act->World->Prop}
theorem zdq {kd a key t0 t1 t2 d:Nat} {ty:TypeId} (e0:s.tmps.getD t0 undef=.int .i64 (kd:Int)) (e1:s.tmps.getD t1 undef=wv a) (e2:s.tmps.getD t2 undef=wv key) (hK:K (s.put (some d) (Z6 kd a key)) x):
  Oper.wp prog ⟨some d,.build 217 #[(0,.tmp t0),(1,.tmp t1),(2,.tmp t2)],ty,pos,af,g⟩ s x K Q:=by
 have f0:s.eval (.tmp t0)=.int .i64 (kd:Int):=e0;have f1:s.eval (.tmp t1)=wv a:=e1;have f2:s.eval (.tmp t2)=wv key:=e2;have g0:s.tmps[t0]?.getD undef=.int .i64 (kd:Int):=by rw[<-Array.getD_eq_getD_getElem?];exact e0
 have g1:s.tmps[t1]?.getD undef=wv a:=by rw[<-Array.getD_eq_getD_getElem?];exact e1
 have g2:s.tmps[t2]?.getD undef=wv key:=by rw[<-Array.getD_eq_getD_getElem?];exact e2
 go_simp;exact hK
end
theorem load_r0 {base fb:Nat} {F:Fz} {S:List Nat} {sv mv:Value} {Q:Exit->Act->World->Prop} (a:Act) (w:World) {tb kd r:Nat} {T:TS} {V:TV} (htr:Tr base tb T V w) (hptr:F.trail=.pointer (some ⟨tb,0,none⟩)) (hdis:∀k∈S,¬zF tb T V k) (hno:0∉S) (hget:∀x,Tr base tb T V x->Calls prog 202 #[.pointer (some ⟨tb,0,none⟩),Z6 kd F.self (ZH (zu (F)))] x fun e w'=>e=.returned (wv r)/\Below x.heap.size x w') (h:Fr base fb F S sv mv w) (hsz:([4,5,6,7,8,9,10,11,12,13,14,15,16,17,18,19,20,21,22]:List Nat).all (fun d=>decide (d<a.tmps.size))=true) (c1:a.tmps.getD 1 undef=.int .i64 (kd:Int)) (c0:a.tmps.getD 0 undef=.pointer (some ⟨fb,0,none⟩))
  (hpan:∀u pv s x,(zu (F)=none\/zP (r) (zv (zu (F)))=none)->s.defers=a.defers->Kb S w x->Q (.panic [{v:=.iface u pv,recovered:=false}]) s x)
  (hok:∀(x:World) (S':List Nat) (sv' mv':Value),Fr base fb (zv (zP (r) (zv (zu (F))))) S' sv' mv' x->Kb S w x->(∀j∈S',j∈S\/w.heap.size<=j)->Q .normal (zL a [(4,.pointer (some ⟨fb,0,none⟩)),(5,.pointer (some ⟨fb,0,none⟩)),(6,.pointer (some ⟨fb,19,none⟩)),(7,.pointer (some ⟨fb,0,none⟩)),(8,.pointer (some ⟨fb,0,none⟩)),(9,.pointer (some ⟨fb,0,none⟩)),(10,F.trail),(11,.int .i64 (kd:Int)),(12,.pointer (some ⟨fb,0,none⟩)),(13,.pointer (some ⟨fb,0,none⟩)),(14,.pointer (some ⟨fb,3,none⟩)),(15,wv (F.self)),(16,.pointer (some ⟨fb,0,none⟩)),(17,.pointer (some ⟨fb,0,none⟩)),(18,.pointer (some ⟨fb,19,none⟩)),(19,wv (ZH (zu (F)))),(20,Z6 kd F.self (ZH (zu (F)))),(21,wv (r)),(22,Value.tuple #[])]) x):
  (Code.region 0 #[⟨some 4,.move (.tmp 0),132,"instructions.go:95",#[],none⟩,⟨some 5,.nilCheck (.tmp 4),0,"instructions.go:95",#[⟨0,.data⟩],none⟩,⟨some 6,.fieldAddr 137 (.tmp 5) 10,0,"instructions.go:95",#[⟨1,.data⟩],none⟩,⟨some 7,.move (.tmp 0),132,"instructions.go:95",#[],none⟩,⟨some 8,.nilCheck (.tmp 7),0,"instructions.go:95",#[⟨3,.data⟩],none⟩,⟨some 9,.fieldAddr 137 (.tmp 8) 0,0,"instructions.go:95",#[⟨4,.data⟩],none⟩,⟨some 10,.load 96 (.tmp 9),96,"instructions.go:95",#[⟨5,.data⟩],none⟩,⟨some 11,.move (.tmp 1),215,"instructions.go:95",#[],none⟩,⟨some 12,.move (.tmp 0),132,"instructions.go:95",#[],none⟩,⟨some 13,.nilCheck (.tmp 12),0,"instructions.go:95",#[⟨8,.data⟩],none⟩,⟨some 14,.fieldAddr 137 (.tmp 13) 3,0,"instructions.go:95",#[⟨9,.data⟩],none⟩,⟨some 15,.load 24 (.tmp 14),24,"instructions.go:95",#[⟨10,.data⟩],none⟩,⟨some 16,.move (.tmp 0),132,"instructions.go:95",#[],none⟩,⟨some 17,.nilCheck (.tmp 16),0,"instructions.go:95",#[⟨12,.data⟩],none⟩,⟨some 18,.fieldAddr 137 (.tmp 17) 10,0,"instructions.go:95",#[⟨13,.data⟩],none⟩,⟨some 19,.call ⟨.value (.func 257),#[.tmp 18],#[135]⟩,24,"instructions.go:95",#[⟨14,.data⟩],none⟩,⟨some 20,.build 217 #[(0,.tmp 11),(1,.tmp 15),(2,.tmp 19)],217,"instructions.go:95",#[⟨7,.data⟩,⟨11,.data⟩,⟨15,.data⟩],none⟩,⟨some 21,.call ⟨.value (.func 202),#[.tmp 10,.tmp 20],#[96,217]⟩,24,"instructions.go:95",#[⟨6,.data⟩,⟨16,.data⟩,⟨15,.chain⟩],none⟩,⟨some 22,.call ⟨.value (.func 259),#[.tmp 6,.tmp 21],#[135,24]⟩,0,"instructions.go:95",#[⟨2,.data⟩,⟨17,.data⟩,⟨17,.chain⟩],none⟩] true).wp prog Q a w:=by
 have hsame:∀k:Nat,100000<((fun k=>match k with|0=>F|1=>zv (zu (F))|_=>zv (zP (r) (zv (zu (F))))) k).gas\/Same F ((fun k=>match k with|0=>F|1=>zv (zu (F))|_=>zv (zP (r) (zv (zu (F))))) k):=by
  intro k;have s0:100000<(F).gas\/Same F F:=Or.inr (Same.refl F);have s1:=za8 s0;have s2:=zdV s1 (r)
  match k with
  |0=>exact s0
  |1=>exact s1
  |_+2=>exact s2
 exact Z1 (fun k=>match k with|0=>F|1=>zv (zu (F))|_=>zv (zP (r) (zv (zu (F))))) h [(1,.int .i64 (kd:Int)),(0,.pointer (some ⟨fb,0,none⟩))] [(some 4,.v (.pointer (some ⟨fb,0,none⟩))),(some 5,.v (.pointer (some ⟨fb,0,none⟩))),(some 6,.v (.pointer (some ⟨fb,19,none⟩))),(some 7,.v (.pointer (some ⟨fb,0,none⟩))),(some 8,.v (.pointer (some ⟨fb,0,none⟩))),(some 9,.v (.pointer (some ⟨fb,0,none⟩))),(some 10,.v (F.trail)),(some 11,.v (.int .i64 (kd:Int))),(some 12,.v (.pointer (some ⟨fb,0,none⟩))),(some 13,.v (.pointer (some ⟨fb,0,none⟩))),(some 14,.v (.pointer (some ⟨fb,3,none⟩))),(some 15,.v (wv (F.self))),(some 16,.v (.pointer (some ⟨fb,0,none⟩))),(some 17,.v (.pointer (some ⟨fb,0,none⟩))),(some 18,.v (.pointer (some ⟨fb,19,none⟩))),(some 19,.v (wv (ZH (zu (F))))),(some 20,.v (Z6 kd F.self (ZH (zu (F))))),(some 21,.v (wv (r))),(some 22,.v (Value.tuple #[]))] [15,18] [6,11,16,17] (by kernel_rfl) hsz (zW c1 (zW c0 rfl)) (by kernel_rfl) trivial
  (zk _ _ _ rfl rfl (fun s x S1 sv1 mv1 hfr hkb hsub hdf hv hl K hK=>zet (r:=zu (F)) (val:=wv) zd4 (ev1 (hv 18 _ rfl)) (zbC x hfr) rfl (fun _ _ e=>by rw[e];rfl) (fun hrn u pv x' hk=>hpan u pv s x' (Or.inl hrn) hdf (hkb.trans hk hsub)) hK)
  (zk _ _ _ rfl rfl (fun s x S1 sv1 mv1 hfr hkb hsub hdf hv hl K hK=>zet (r:=zP (r) (zv (zu (F)))) (val:=zM) zcU (ev2 (hv 6 _ rfl) (hv 21 _ rfl)) (zhX (r) x hfr) rfl (fun _ _ _=>rfl) (fun hrn u pv x' hk=>hpan u pv s x' (Or.inr hrn) hdf (hkb.trans hk hsub)) hK)
  True.intro))
  (zk _ _ _ rfl rfl (fun s x k S1 sv1 mv1 hfr hkb hkp hv hl K hK=>by
    rcases hsame k with hbd|hsm
    ·exact absurd hfr.gal (Nat.not_le.2 hbd)
    ·have e:=hsm.trail;exact Zh (v:=F.trail) (fun w=>by kernel_rfl) (hv 9 _ rfl) ((hfr.row.cell (i:=0) (by decide)).trans (congrArg (fun z=>some z) e)) (hK _ x (Below.refl _ _) nn1 rfl))
  (zk _ _ _ rfl rfl (fun s x k S1 sv1 mv1 hfr hkb hkp hv hl K hK=>by
    rcases hsame k with hbd|hsm
    ·exact absurd hfr.gal (Nat.not_le.2 hbd)
    ·have e:=hsm.self;exact Zb (n:=F.self) (hv 14 _ rfl) ((hfr.row.cell (i:=3) (by decide)).trans (congrArg (fun z=>some (Value.int .u64 (za z 0))) e)) ((hfr.row.cell (i:=4) (by decide)).trans (congrArg (fun z=>some (Value.int .u64 (za z 1))) e)) ((hfr.row.cell (i:=5) (by decide)).trans (congrArg (fun z=>some (Value.int .u64 (za z 2))) e)) ((hfr.row.cell (i:=6) (by decide)).trans (congrArg (fun z=>some (Value.int .u64 (za z 3))) e)) (hK _ x (Below.refl _ _) nn1 rfl))
  (zk _ _ _ rfl rfl (fun s x k S1 sv1 mv1 hfr hkb hkp hv hl K hK=>zdq (hv 11 _ rfl) (hv 15 _ rfl) (hv 19 _ rfl) (hK _ x (Below.refl _ _) nn1 rfl))
  (zk _ _ _ rfl rfl (fun s x k S1 sv1 mv1 hfr hkb hkp hv hl K hK=>zN zjg (ev2 (((hv 10 _ rfl)).trans hptr) (hv 20 _ rfl)) (hget x (htr.kb hkb hdis hno)) (fun e y h9=>⟨_,h9.1,hK _ y h9.2 nn1 rfl⟩))
  True.intro))))
  fun g x S' sv' mv' hfr hkb hsub hT=>hok x S' sv' mv' hfr hkb hsub
end
section
open Go.Maps
def PhO (R:World->Prop) (w:World):Nat->World->Prop
 |0,x=>Below w.heap.size w x
 |_,x=>R x
theorem Z3 {R:World->Prop} {w x:World} {k:Nat} (h:PhO R w k x) (hk:k<=0):Below w.heap.size w x:=by
 match k,hk,h with
 |0,_,h=>exact h
theorem zmx {fb tb kd self key v bk bv:Nat} {R:World->Prop} {Q:Exit->Act->World->Prop} (a:Act) (w:World) (rk:zS w bk key) (rv:zS w bv v) (hlt:fb<w.heap.size) (htp:w.cell? ⟨fb,0,none⟩=some (.pointer (some ⟨tb,0,none⟩))) (hself:∀x,Below w.heap.size w x->x.cell? ⟨fb,3,none⟩=some (.int .u64 (za self 0))/\x.cell? ⟨fb,4,none⟩=some (.int .u64 (za self 1))/\x.cell? ⟨fb,5,none⟩=some (.int .u64 (za self 2))/\x.cell? ⟨fb,6,none⟩=some (.int .u64 (za self 3))) (hset:∀x,Below w.heap.size w x->Calls prog 154 #[.pointer (some ⟨tb,0,none⟩),.agg #[.int .i64 (kd:Int),.int .u64 (za self 0),.int .u64 (za self 1),.int .u64 (za self 2),.int .u64 (za self 3),.int .u64 (za key 0),.int .u64 (za key 1),.int .u64 (za key 2),.int .u64 (za key 3)],wv v] x fun e w'=>e=.returned (.tuple #[])/\R w') (h0:Below w.heap.size w w.drew) (hsz:([16,17,18,19,20,21,22,23,24,25,26,27,28]:List Nat).all (fun d=>decide (d<a.tmps.size))=true) (c0:a.tmps.getD 0 undef=.pointer (some ⟨fb,0,none⟩)) (c1:a.tmps.getD 1 undef=.int .i64 (kd:Int)) (c4:a.tmps.getD 4 undef=.pointer (some ⟨bk,0,none⟩)) (c5:a.tmps.getD 5 undef=.pointer (some ⟨bv,0,none⟩))
  (hok:∀(x:World),(PhO R w) 1 x->Q .normal (zL a [(16,.pointer (some ⟨fb,0,none⟩)),(17,.pointer (some ⟨fb,0,none⟩)),(18,.pointer (some ⟨fb,0,none⟩)),(19,.pointer (some ⟨tb,0,none⟩)),(20,.int .i64 (kd:Int)),(21,.pointer (some ⟨fb,0,none⟩)),(22,.pointer (some ⟨fb,0,none⟩)),(23,.pointer (some ⟨fb,3,none⟩)),(24,wv self),(25,wv key),(26,.agg #[.int .i64 (kd:Int),.int .u64 (za self 0),.int .u64 (za self 1),.int .u64 (za self 2),.int .u64 (za self 3),.int .u64 (za key 0),.int .u64 (za key 1),.int .u64 (za key 2),.int .u64 (za key 3)]),(27,wv v),(28,Value.tuple #[])]) x):
  (Code.region 2 #[⟨some 16,.move (.tmp 0),132,"instructions.go:101",#[],none⟩,⟨some 17,.nilCheck (.tmp 16),0,"instructions.go:101",#[⟨0,.data⟩],none⟩,⟨some 18,.fieldAddr 137 (.tmp 17) 0,0,"instructions.go:101",#[⟨1,.data⟩],none⟩,⟨some 19,.load 96 (.tmp 18),96,"instructions.go:101",#[⟨2,.data⟩],none⟩,⟨some 20,.move (.tmp 1),215,"instructions.go:101",#[],none⟩,⟨some 21,.move (.tmp 0),132,"instructions.go:101",#[],none⟩,⟨some 22,.nilCheck (.tmp 21),0,"instructions.go:101",#[⟨5,.data⟩],none⟩,⟨some 23,.fieldAddr 137 (.tmp 22) 3,0,"instructions.go:101",#[⟨6,.data⟩],none⟩,⟨some 24,.load 24 (.tmp 23),24,"instructions.go:101",#[⟨7,.data⟩],none⟩,⟨some 25,.load 24 (.tmp 4),24,"instructions.go:101",#[],none⟩,⟨some 26,.build 217 #[(0,.tmp 20),(1,.tmp 24),(2,.tmp 25)],217,"instructions.go:101",#[⟨4,.data⟩,⟨8,.data⟩,⟨9,.data⟩],none⟩,⟨some 27,.load 24 (.tmp 5),24,"instructions.go:101",#[],none⟩,⟨some 28,.call ⟨.value (.func 154),#[.tmp 19,.tmp 26,.tmp 27],#[96,217,24]⟩,0,"instructions.go:101",#[⟨3,.data⟩,⟨10,.data⟩,⟨11,.data⟩],none⟩] true).wp prog Q a w:=by
 refine zX (PhO R w) (fun _ _ _=>True) [(0,.pointer (some ⟨fb,0,none⟩)),(1,.int .i64 (kd:Int)),(4,.pointer (some ⟨bk,0,none⟩)),(5,.pointer (some ⟨bv,0,none⟩))] [(some 16,.v (.pointer (some ⟨fb,0,none⟩))),(some 17,.v (.pointer (some ⟨fb,0,none⟩))),(some 18,.v (.pointer (some ⟨fb,0,none⟩))),(some 19,.v (.pointer (some ⟨tb,0,none⟩))),(some 20,.v (.int .i64 (kd:Int))),(some 21,.v (.pointer (some ⟨fb,0,none⟩))),(some 22,.v (.pointer (some ⟨fb,0,none⟩))),(some 23,.v (.pointer (some ⟨fb,3,none⟩))),(some 24,.v (wv self)),(some 25,.v (wv key)),(some 26,.v (.agg #[.int .i64 (kd:Int),.int .u64 (za self 0),.int .u64 (za self 1),.int .u64 (za self 2),.int .u64 (za self 3),.int .u64 (za key 0),.int .u64 (za key 1),.int .u64 (za key 2),.int .u64 (za key 3)])),(some 27,.v (wv v)),(some 28,.v (Value.tuple #[]))] [12] [3,8,9,11] (by kernel_rfl) hsz (zW c0 (zW c1 (zW c4 (zW c5 rfl)))) (by kernel_rfl) h0
  (zk _ _ _ rfl rfl (fun s x hph hdf hv hl K hK=>by
   refine zN zcR (ev3 (hv 19 _ rfl) (hv 26 _ rfl) (hv 27 _ rfl)) (hset x hph) ?_;rintro e y ⟨rfl,hR⟩;exact⟨_,rfl,hK _ y hR trivial nn1 rfl⟩
  )
  True.intro)
  (zk _ _ _ rfl rfl (fun k s x hk hlo hhi hph hdf hv hl K hK=>by
   have k0:x.cell? ⟨fb,0,none⟩=some (.pointer (some ⟨tb,0,none⟩)):=((Z3 hph (by have:=hhi 0 12 rfl (by kernel_rfl);omega)).cell hlt).trans htp;exact Zh (fun w=>by kernel_rfl) (hv 18 _ rfl) k0 (hK _ x rfl nn1 rfl)
  )
  (zk _ _ _ rfl rfl (fun k s x hk hlo hhi hph hdf hv hl K hK=>by
   obtain⟨y0,y1,y2,y3⟩:=hself x (Z3 hph (by have:=hhi 0 12 rfl (by kernel_rfl);omega));exact Zb (n:=self) (hv 23 _ rfl) y0 y1 y2 y3 (hK _ x rfl nn1 rfl)
  )
  (zk _ _ _ rfl rfl (fun k s x hk hlo hhi hph hdf hv hl K hK=>by
   obtain⟨y0,y1,y2,y3⟩:=zb (zf rk (Z3 hph (by have:=hhi 0 12 rfl (by kernel_rfl);omega)));exact Zb (n:=key) (hv 4 _ rfl) y0 y1 y2 y3 (hK _ x rfl nn1 rfl)
  )
  (zk _ _ _ rfl rfl (fun k s x hk hlo hhi hph hdf hv hl K hK=>by
   obtain⟨y0,y1,y2,y3⟩:=zb (zf rv (Z3 hph (by have:=hhi 0 12 rfl (by kernel_rfl);omega)));exact Zb (n:=v) (hv 5 _ rfl) y0 y1 y2 y3 (hK _ x rfl nn1 rfl)
  )
  True.intro))))
  (fun _ _ _ h=>(yH rfl h).elim) ?_
 intro g x hph hT;exact hok x hph
end
section
open Go.Maps
structure FT (base fb tb:Nat) (F:Fz) (T:TS) (S:List Nat) (sv mv:Value) (V:TV) (w:World):Prop where
 fr:Fr base fb F S sv mv w
 tr:Tr base tb T V w
 ptr:F.trail=.pointer (some ⟨tb,0,none⟩)
 dis:∀k∈S,¬zF tb T V k
def KF (S:List Nat) (tb:Nat) (T:TS) (V:TV) (w w':World):Prop:=∃S2,Kb S2 w w'/\∀k∈S2,k∈S\/zF tb T V k
def To2 (base fb tb:Nat) (F':Fz) (T:TS) (T':TS) (V:TV) (S:List Nat) (m:Nat) (w w':World):Prop:=
 ∃S' sv' mv' V',FT base fb tb F' T' S' sv' mv' V' w'/\KF S tb T V w w'/\(∀k∈S',k∈S\/w.heap.size<=k)/\(∀k,zF tb T' V' k->zF tb T V k\/w.heap.size<=k)/\V'.n<=V.n+m/\V'.ab=V.ab
def zbS (r:Option (Fz×TS)) (base fb tb:Nat) (T:TS) (V:TV) (S:List Nat) (m:Nat) (w:World) (e:Ending) (w':World):Prop:=
 match r with
 |some (F',T')=>e=.returned (.tuple #[])/\To2 base fb tb F' T T' V S m w w'
 |none=>Pan e/\Kb S w w'
theorem FT.below {base fb tb:Nat} {F:Fz} {T:TS} {S:List Nat} {sv mv:Value} {V:TV} {w w':World} (h:FT base fb tb F T S sv mv V w) (hb:Below w.heap.size w w'):FT base fb tb F T S sv mv V w':=⟨h.fr.below hb,h.tr.below hb,h.ptr,h.dis⟩
theorem FT.lift {base fb tb:Nat} {F F':Fz} {T:TS} {S:List Nat} {sv mv:Value} {V:TV} {w w':World} (h:FT base fb tb F T S sv mv V w) (ht:F'.trail=F.trail) (hto:To base fb F' S w w'):To2 base fb tb F' T T V S 0 w w':=by
 obtain⟨S',sv',mv',h1,h2,h3⟩:=hto;refine⟨S',sv',mv',V,⟨h1,h.tr.kb h2 h.dis h.fr.no0,ht.trans h.ptr,fun k hk hf=> ?_⟩,⟨S,h2,fun k hk=>Or.inl hk⟩,h3,fun k hk=>Or.inl hk,Nat.le_refl _,rfl⟩;rcases h3 k hk with e|e
 ·exact h.dis k e hf
 ·have:=h.tr.lt hf;omega
theorem To2.comp {base fb tb m m':Nat} {F2:Fz} {T T1 T2:TS} {V V1:TV} {S S1:List Nat} {w w1 w2:World} (hS:∀k∈S,k<w.heap.size) (hT:∀k,zF tb T V k->k<w.heap.size) (h2:KF S tb T V w w1) (h3:∀k∈S1,k∈S\/w.heap.size<=k) (h4:∀k,zF tb T1 V1 k->zF tb T V k\/w.heap.size<=k) (h5:V1.n<=V.n+m) (h6:V1.ab=V.ab) (k:To2 base fb tb F2 T1 T2 V1 S1 m' w1 w2):To2 base fb tb F2 T T2 V S (m+m') w w2:=by
 obtain⟨S2,sv2,mv2,V2,k1,⟨Sk,k2,k2'⟩,k3,k4,k5,k6⟩:=k;obtain⟨Sh,h2,h2'⟩:=h2;refine⟨S2,sv2,mv2,V2,k1,⟨Sh++Sk.filter (fun k=>decide (k<w.heap.size)),(h2.mono (fun i hi=>List.mem_append_left _ hi)).trans k2 (fun i hi=> ?_),fun i hi=> ?_⟩,fun i hi=> ?_,fun i hi=> ?_,by omega,k6.trans h6⟩
 ·by_cases hl:i<w.heap.size
  ·exact Or.inl (List.mem_append_right _ (List.mem_filter.2 ⟨hi,by simpa using hl⟩))
  ·exact Or.inr (by omega)
 ·rcases List.mem_append.1 hi with e|e
  ·exact h2' i e
  ·obtain⟨e1,e2⟩:=List.mem_filter.1 e;have e2:i<w.heap.size:=by simpa using e2
   rcases k2' i e1 with e3|e3
   ·rcases h3 i e3 with e4|e4
    ·exact Or.inl e4
    ·omega
   ·rcases h4 i e3 with e4|e4
    ·exact Or.inr e4
    ·omega
 ·rcases k3 i hi with e|e
  ·exact h3 i e
  ·exact Or.inr (Nat.le_trans h2.size e)
 ·rcases k4 i hi with e|e
  ·exact h4 i e
  ·exact Or.inr (Nat.le_trans h2.size e)
def zcO (kd:Nat) (F:Fz) (T:TS):Option (Unit×Fz):=yE (zu F) (zP (zgH T kd F.self (ZH (zu F))) (zv (zu F)))
theorem load_of {base fb tb:Nat} {F:Fz} {T:TS} {S:List Nat} {sv mv:Value} {V:TV} (kd:Nat) (w:World) (h:FT base fb tb F T S sv mv V w)
  (hget:∀x,Tr base tb T V x->Calls prog 202 #[.pointer (some ⟨tb,0,none⟩),Z6 kd F.self (ZH (zu F))] x fun e w'=>e=.returned (wv (zgH T kd F.self (ZH (zu F))))/\Below x.heap.size x w'):
  Calls prog 268 #[.pointer (some ⟨fb,0,none⟩),.int .i64 (kd:Int)] w (Out (zcO kd F T) zM base fb S w):=by
 go_enter func268,ntmps268;go_wp2;refine load_r0 _ _ h.tr h.ptr h.dis h.fr.no0 hget h.fr rfl rfl rfl ?_ ?_
 ·intro u pv s x hno hd hk
  have e:zcO kd F T=none:=by
   rcases hno with e|e
   ·exact Zq (Or.inl e)
   ·exact Zq (Or.inr e)
  rw[e];exact⟨hd,⟨_,_,rfl⟩,hk⟩
 ·intro x S' sv' mv' hfr hkb hsub;have e:zcO kd F T=_:=(yY fun e=>zcf (bd_push (zad e)) hfr).trans (unit_ok fun e=>zcf (zad e) hfr)
  have HO:Hid (Out (zcO kd F T) zM base fb S w (.returned (.tuple #[])) x):=by
   rw[e];exact⟨rfl,S',sv',mv',hfr,hkb,hsub⟩
  clear e hfr hkb hsub hget h;simp only[zL,List.foldl_cons,List.foldl_nil,Act.put];go_wp2;go_end0;exact HO.out
end
section
open Go.Maps
theorem Tr.no0 {base tb:Nat} {T:TS} {V:TV} {w:World} (h:Tr base tb T V w):¬zF tb T V 0:=by
 have hb1:=h.hb1;rintro(e|e|e|e|e|⟨t,ht,e⟩)
 ·have h1:=h.row.cell (i:=0) (by decide);rw[<-e] at h1;rw[h.zr.1.1] at h1;cases h1
 ·exact zbq h.zr (h.acc.isMap e) rfl
 ·exact zbq h.zr (e▸h.pas.is) rfl
 ·have:=(h.ch.lt 0 e).1;omega
 ·have:=(h.lo.2.1.lt 0 e).1;omega
 ·obtain⟨l,hl⟩:=h.lo.tv ht;have:=(hl.lt 0 e).1;omega
theorem tbT:(4:Nat)≠131:=by decide
theorem tbC:(4:Nat)≠220:=by decide
theorem tbL:(4:Nat)≠112:=by decide
theorem Tr.bno {base tb:Nat} {T:TS} {V:TV} {w:World} (h:Tr base tb T V w) {g N:Nat} {f:Nat->Value} (hr:w.rowIs g 4 N f):¬zF tb T V g:=by
 rintro(e|e|e|e|e|⟨t,ht,e⟩)
 ·exact yF hr h.row tbT e
 ·exact ZC hr (h.acc.isMap e) rfl
 ·exact ZC hr h.pas.is e
 ·exact zQ hr h.ch tbC g e rfl
 ·exact zQ hr h.lo.2.1 tbL g e rfl
 ·obtain⟨l,hl⟩:=h.lo.tv ht;exact zQ hr hl tb1 g e rfl
theorem FT.trail {base fb tb m:Nat} {F:Fz} {T T':TS} {S:List Nat} {sv mv:Value} {V:TV} {w w':World} (h:FT base fb tb F T S sv mv V w) (ht:TTo base tb T V T' m w w'):To2 base fb tb F T T' V S m w w':=by
 obtain⟨V',S2,h1,h2,h3,h4,h5,h6⟩:=ht;refine⟨S,sv,mv,V',⟨h.fr.kb h3 (fun k hk hm=>h.dis k hk (h4 k hm)) (fun hm=>h.tr.no0 (h4 0 hm)) (fun g N f hr hm=>h.tr.bno hr (h4 g hm)),h1,h.ptr,fun k hk hf=> ?_⟩,⟨S2,h3,fun k hk=>Or.inr (h4 k hk)⟩,fun k hk=>Or.inl hk,h5,h2,h6⟩;rcases h5 k hf with e|e
 ·exact h.dis k hk e
 ·have:=h.fr.footlt k hk;omega
theorem FT.next {base fb tb:Nat} {F F':Fz} {T:TS} {S S':List Nat} {sv mv sv' mv':Value} {V:TV} {w w':World} (h:FT base fb tb F T S sv mv V w) (ht:F'.trail=F.trail) (h1:Fr base fb F' S' sv' mv' w') (h2:Kb S w w') (h3:∀k∈S',k∈S\/w.heap.size<=k):FT base fb tb F' T S' sv' mv' V w':=by
 refine⟨h1,h.tr.kb h2 h.dis h.fr.no0,ht.trans h.ptr,fun k hk hf=> ?_⟩;rcases h3 k hk with e|e
 ·exact h.dis k e hf
 ·have:=h.tr.lt hf;omega
theorem FT.foot {base fb tb:Nat} {F:Fz} {T:TS} {S:List Nat} {sv mv:Value} {V:TV} {w:World} (h:FT base fb tb F T S sv mv V w):∀k∈S,k<w.heap.size:=h.fr.footlt
theorem zgT {base fb:Nat} {F:Fz} {S:List Nat} {sv mv:Value} (w:World) (h:Fr base fb F S sv mv w):
  Calls prog 274 #[.pointer (some ⟨fb,0,none⟩)] w fun e w'=>(if F.ro=true then Pan e else e=.returned (.tuple #[]))/\w'=w:=by
 have hg:=h.row.cell (i:=17) (by decide);rw[show F.cell sv mv 17=.bool F.ro from rfl] at hg;clear h;cases hr:F.ro
 ·rw[hr] at hg;go_enter func274,ntmps274;go_wp2;go_end0;exact⟨rfl,rfl⟩
 ·rw[hr] at hg;go_enter func274,ntmps274;go_wp2;exact⟨rfl,⟨_,_,rfl⟩,rfl⟩
def YM (kd:Nat) (F:Fz) (T:TS):Option (Fz×TS):=if F.ro=true then none else(yE (zu F) (yE (zu (zv (zu F))) (some ((),YD F)))).map fun y=>(y.2,yi T kd F.self (zam F) (zbm F))
theorem zlS {F:Fz}:100000<(YD F).gas\/Same F (YD F):=za8 (za8 (Or.inr (Same.refl F)))
theorem zma {base fb tb:Nat} {F:Fz} {T:TS} {S:List Nat} {sv mv:Value} {V:TV} (kd:Nat) (w:World) (h:FT base fb tb F T S sv mv V w)
  (hset:∀key v x,Tr base tb T V x->Calls prog 154 #[.pointer (some ⟨tb,0,none⟩),Z6 kd F.self key,wv v] x fun e w'=>e=.returned (.tuple #[])/\TTo base tb T V (yi T kd F.self key v) 2 x w'):
  Calls prog 269 #[.pointer (some ⟨fb,0,none⟩),.int .i64 (kd:Int)] w (zbS (YM kd F T) base fb tb T V S 2 w):=by
 have HM:=ze (zgT w h.fr);go_enter func269,ntmps269;go_wp2_with fail
 refine HM.out.mono ?_;rintro e w1 ⟨h1,rfl⟩;by_cases hro:F.ro=true
 ·rw[if_pos hro] at h1;obtain⟨u,pv,rfl⟩:=h1;refine⟨rfl, ?_⟩;unfold YM;rw[if_pos hro];exact⟨⟨_,_,rfl⟩,Kb.refl _ _⟩
 rw[if_neg hro] at h1;subst h1;go_wp2;refine zcA _ _ h.fr rfl rfl rfl rfl ?_ ?_
 ·intro u pv s x hno hd hk
  have e:YM kd F T=none:=by
   unfold YM;rw[if_neg hro];rcases hno with e|e
   ·rw[Zq (Or.inl e)];rfl
   ·rw[Zq (Or.inr (Zq (Or.inl e)))];rfl
  rw[e];exact⟨hd,⟨_,_,rfl⟩,hk⟩
 ·intro x S' sv' mv' b0 b1 hfr hkb hsub hn0 hg0 hr0 hn1 hg1 hr1
  have e:YM kd F T=some (YD F,yi T kd F.self (zam F) (zbm F)):=by
   unfold YM;rw[if_neg hro,yY fun e=>zcf (zmr (zad e)) hfr,yY fun e=>zcf (zad e) hfr];rfl
  have hsm:=(zlS (F:=F)).resolve_left (fun hb=>absurd hfr.gal (by have:(zv (zu (zv (zu F)))).gas=(YD F).gas:=rfl;omega));have HE:=ze e;clear e;change Fr base fb (YD F) S' sv' mv' x at hfr;change zS x b0 (zam F) at hr0;change zS x b1 (zbm F) at hr1;have hx:=h.next hsm.trail hfr hkb hsub
  have hself:∀y,Below x.heap.size x y->y.cell? ⟨fb,3,none⟩=some (.int .u64 (za F.self 0))/\y.cell? ⟨fb,3+1,none⟩=some (.int .u64 (za F.self 1))/\y.cell? ⟨fb,3+2,none⟩=some (.int .u64 (za F.self 2))/\y.cell? ⟨fb,3+3,none⟩=some (.int .u64 (za F.self 3)):=by
   intro y hy;have hr:=zf hfr.row hy;rw[<-hsm.self];exact⟨hr.cell (i:=3) (by decide),hr.cell (i:=3+1) (by decide),hr.cell (i:=3+2) (by decide),hr.cell (i:=3+3) (by decide)⟩
  have htp:x.cell? ⟨fb,0,none⟩=some (.pointer (some ⟨tb,0,none⟩)):=(hfr.row.cell (i:=0) (by decide)).trans (congrArg some hx.ptr);simp only[zL,List.foldl_cons,List.foldl_nil,Act.put];simp only[sx9];go_wp2;refine zmx (R:=fun y=>TTo base tb T V (yi T kd F.self (zam F) (zbm F)) 2 x y) (self:=F.self) (key:=zam F) (v:=zbm F) (bk:=b0) (bv:=b1) _ _ hr0 hr1 hfr.row.lt htp hself ?_ (Below.refl _ _).drew rfl rfl rfl rfl rfl ?_
  ·intro y hy;exact(hset (zam F) (zbm F) y (hx.tr.below hy)).mono fun e w' ⟨h1,h3⟩=>⟨h1,TTo.pre hy h3⟩
  intro y hR
  have HO:Hid (zbS (YM kd F T) base fb tb T V S 2 w1 (.returned (.tuple #[])) y):=by
   show zbS _ _ _ _ _ _ _ _ _ _ _;rw[HE.out];exact⟨rfl,To2.comp (m:=0) h.foot (fun k hk=>h.tr.lt hk) ⟨S,hkb,fun k hk=>Or.inl hk⟩ hsub (fun k hk=>Or.inl hk) (Nat.le_refl _) rfl (hx.trail hR)⟩
  clear hR HE hsm hkb hsub hr0 hr1 hself htp hx hfr hset h;simp only[zL,List.foldl_cons,List.foldl_nil,Act.put];simp only[sx9];go_wp2;go_end0;exact HO.out
end
theorem yZ {p:Prop} (h:p):Hid p:=h
def opN (op:Nat):Bool:=(decide (1<=op)&&decide (op<=11))||(decide (16<=op)&&decide (op<=29))
def zbL (op:Nat):Bool:=decide (95<=op)&&decide (op<=127)
def dupN (op:Nat):Bool:=decide (128<=op)&&decide (op<=143)
def zgz (op:Nat):Bool:=decide (144<=op)&&decide (op<=159)
def logN (op:Nat):Bool:=decide (160<=op)&&decide (op<=164)
theorem zaG (op:Nat) (h:op<=255) (w:World):Calls prog 235 #[.int .u8 (op:Int)] w fun e w'=>e=.returned (.bool (zbL op))/\w'=w:=by
 have e1:decide ((95:Int)<=(op:Int))=decide (95<=op):=by rw[decide_eq_decide];omega
 have e2:decide ((op:Int)<=127)=decide (op<=127):=by rw[decide_eq_decide];omega
 unfold zbL;go_enter func235,ntmps235;go_wp2
 all_goals go_ret
 all_goals (refine⟨congrArg (fun z=>Ending.returned (Value.bool z)) ?_,rfl⟩;simp;try omega)
theorem zdG (op:Nat) (h:op<=255) (w:World):Calls prog 237 #[.int .u8 (op:Int)] w fun e w'=>e=.returned (.bool (dupN op))/\w'=w:=by
 have e1:decide ((128:Int)<=(op:Int))=decide (128<=op):=by rw[decide_eq_decide];omega
 have e2:decide ((op:Int)<=143)=decide (op<=143):=by rw[decide_eq_decide];omega
 unfold dupN;go_enter func237,ntmps237;go_wp2
 all_goals go_ret
 all_goals (refine⟨congrArg (fun z=>Ending.returned (Value.bool z)) ?_,rfl⟩;simp;try omega)
theorem zca (op:Nat) (h:op<=255) (w:World):Calls prog 239 #[.int .u8 (op:Int)] w fun e w'=>e=.returned (.bool (zgz op))/\w'=w:=by
 have e1:decide ((144:Int)<=(op:Int))=decide (144<=op):=by rw[decide_eq_decide];omega
 have e2:decide ((op:Int)<=159)=decide (op<=159):=by rw[decide_eq_decide];omega
 unfold zgz;go_enter func239,ntmps239;go_wp2
 all_goals go_ret
 all_goals (refine⟨congrArg (fun z=>Ending.returned (Value.bool z)) ?_,rfl⟩;simp;try omega)
theorem zdx (op:Nat) (h:op<=255) (w:World):Calls prog 241 #[.int .u8 (op:Int)] w fun e w'=>e=.returned (.bool (logN op))/\w'=w:=by
 have e1:decide ((160:Int)<=(op:Int))=decide (160<=op):=by rw[decide_eq_decide];omega
 have e2:decide ((op:Int)<=164)=decide (op<=164):=by rw[decide_eq_decide];omega
 unfold logN;go_enter func241,ntmps241;go_wp2
 all_goals go_ret
 all_goals (refine⟨congrArg (fun z=>Ending.returned (Value.bool z)) ?_,rfl⟩;simp;try omega)
theorem Zv (op:Nat) (h:op<=255) (w:World):Calls prog 231 #[.int .u8 (op:Int)] w fun e w'=>e=.returned (.bool (opN op))/\w'=w:=by
 have e1:decide ((1:Int)<=(op:Int))=decide (1<=op):=by rw[decide_eq_decide];omega
 have e2:decide ((op:Int)<=11)=decide (op<=11):=by rw[decide_eq_decide];omega
 have e3:decide ((16:Int)<=(op:Int))=decide (16<=op):=by rw[decide_eq_decide];omega
 have e4:decide ((op:Int)<=29)=decide (op<=29):=by rw[decide_eq_decide];omega
 unfold opN;go_enter func231,ntmps231;go_wp2
 all_goals go_ret
 all_goals (refine⟨congrArg (fun z=>Ending.returned (Value.bool z)) ?_,rfl⟩;first|rfl|(simp;done)|(simp;omega)|(simp_all;done)|(simp_all;omega))
def callN (op:Nat):Bool:=decide (op=241)||decide (op=244)||decide (op=250)
theorem zhY (op:Nat) (h:op<=255) (w:World):Calls prog 243 #[.int .u8 (op:Int)] w fun e w'=>e=.returned (.bool (callN op))/\w'=w:=by
 have e1:((op:Int)==241)=decide (op=241):=by rw[Bool.eq_iff_iff,beq_iff_eq,decide_eq_true_eq];omega
 have e2:((op:Int)==244)=decide (op=244):=by rw[Bool.eq_iff_iff,beq_iff_eq,decide_eq_true_eq];omega
 have e3:((op:Int)==250)=decide (op=250):=by rw[Bool.eq_iff_iff,beq_iff_eq,decide_eq_true_eq];omega
 unfold callN;go_enter func243,ntmps243;go_wp2
 all_goals go_ret
 all_goals (refine⟨congrArg (fun z=>Ending.returned (Value.bool z)) ?_,rfl⟩;first|rfl|(simp;done)|(simp;omega)|(simp_all;done)|(simp_all;omega))
def yK (op:Nat):Option Nat:=if opN op then some 5 else if zbL op then some 3 else if dupN op then some 3 else if zgz op then some 3 else if logN op then some 300 else none
def ZI (op:Nat):Option Nat:=
 if op=0\/op=243\/op=253 then some 0 else if op=91 then some 1
 else if op=48\/op=51\/op=52\/op=54\/op=56\/op=61\/op=80\/op=88\/op=89\/op=90 then some 2
 else if op=53\/op=55\/op=57\/op=62\/op=81\/op=82\/op=83\/op=94 then some 3
 else if op=86 then some 8 else if op=87\/op=10 then some 10
 else if op=49\/op=84\/op=92\/op=93\/op=241\/op=244\/op=250 then some 100 else if op=85 then some 200 else yK op
def zdh (o:Option Nat):Value:=.tuple #[.int .i64 ((o.getD 0:Nat):Int),.bool o.isSome]
theorem za2 (op:Nat) (h:op<=255) (w:World):Calls prog 230 #[.int .u8 (op:Int)] w fun e w'=>e=.returned (zdh (yK op))/\w'=w:=by
 have H1:=yZ (Zv op h);have H2:=yZ (zaG op h);have H3:=yZ (zdG op h);have H4:=yZ (zca op h);have H5:=yZ (zdx op h);unfold yK;generalize opN op=b1 at*;generalize zbL op=b2 at*;generalize dupN op=b3 at*;generalize zgz op=b4 at*;generalize logN op=b5 at*;cases b1<;>cases b2<;>cases b3<;>cases b4<;>cases b5
 all_goals (
  go_enter func230,ntmps230
  go_wp2_with (first
   |(go_at_call 231;refine(H1.out _).mono ?_;rintro e w1 ⟨rfl,rfl⟩)
   |(go_at_call 235;refine(H2.out _).mono ?_;rintro e w1 ⟨rfl,rfl⟩)
   |(go_at_call 237;refine(H3.out _).mono ?_;rintro e w1 ⟨rfl,rfl⟩)
   |(go_at_call 239;refine(H4.out _).mono ?_;rintro e w1 ⟨rfl,rfl⟩)
   |(go_at_call 241;refine(H5.out _).mono ?_;rintro e w1 ⟨rfl,rfl⟩))
  go_ret2;exact⟨rfl,rfl⟩)
theorem zfh (op:Nat) (h:op<=255) (w:World):Calls prog 203 #[.int .u8 (op:Int)] w fun e w'=>e=.returned (zdh (ZI op))/\w'=w:=by
 have H1:=yZ (za2 op h);have HC:Hid (∀q:Nat,ZI op=some q->Value.tuple #[.int .i64 (q:Int),.bool true]=zdh (ZI op)):=fun q e=>by rw[e];rfl
 have HD:Hid (ZI op=yK op->Value.tuple #[.int .i64 (((yK op).getD 0:Nat):Int),.bool (yK op).isSome]=zdh (ZI op)):=fun e=>by rw[e];rfl
 unfold zdh at H1;generalize zdh (ZI op)=V at*;go_enter func203,ntmps203;go_wp2_with (go_at_call 230;refine(H1.out _).mono ?_;rintro e w1 ⟨rfl,rfl⟩)
 all_goals go_ret2
 all_goals refine⟨congrArg Ending.returned ?_,rfl⟩
 all_goals first
  |exact HC.out 0 (by simp only[beq_iff_eq,beq_eq_false_iff_ne,ne_eq] at*;unfold ZI;rw[if_pos (by omega)])
  |exact HC.out 1 (by simp only[beq_iff_eq,beq_eq_false_iff_ne,ne_eq] at*;unfold ZI;rw[if_neg (by omega),if_pos (by omega)])
  |exact HC.out 2 (by simp only[beq_iff_eq,beq_eq_false_iff_ne,ne_eq] at*;unfold ZI;rw[if_neg (by omega),if_neg (by omega),if_pos (by omega)])
  |exact HC.out 3 (by simp only[beq_iff_eq,beq_eq_false_iff_ne,ne_eq] at*;unfold ZI;rw[if_neg (by omega),if_neg (by omega),if_neg (by omega),if_pos (by omega)])
  |exact HC.out 8 (by simp only[beq_iff_eq,beq_eq_false_iff_ne,ne_eq] at*;unfold ZI;rw[if_neg (by omega),if_neg (by omega),if_neg (by omega),if_neg (by omega),if_pos (by omega)])
  |exact HC.out 10 (by simp only[beq_iff_eq,beq_eq_false_iff_ne,ne_eq] at*;unfold ZI;rw[if_neg (by omega),if_neg (by omega),if_neg (by omega),if_neg (by omega),if_neg (by omega),if_pos (by omega)])
  |exact HC.out 100 (by simp only[beq_iff_eq,beq_eq_false_iff_ne,ne_eq] at*;unfold ZI;rw[if_neg (by omega),if_neg (by omega),if_neg (by omega),if_neg (by omega),if_neg (by omega),if_neg (by omega),if_pos (by omega)])
  |exact HC.out 200 (by simp only[beq_iff_eq,beq_eq_false_iff_ne,ne_eq] at*;unfold ZI;rw[if_neg (by omega),if_neg (by omega),if_neg (by omega),if_neg (by omega),if_neg (by omega),if_neg (by omega),if_neg (by omega),if_pos (by omega)])
  |exact HD.out (by simp only[beq_iff_eq,beq_eq_false_iff_ne,ne_eq] at*;unfold ZI;rw[if_neg (by omega),if_neg (by omega),if_neg (by omega),if_neg (by omega),if_neg (by omega),if_neg (by omega),if_neg (by omega),if_neg (by omega)])
def zZ (op:Nat):Nat:=if op=21\/op=25 then 1 else if op=8\/op=9 then 3 else 2
theorem ZF (op:Nat) (h:op<=255) (w:World):Calls prog 256 #[.int .u8 (op:Int)] w fun e w'=>e=.returned (.int .i64 (zZ op:Int))/\w'=w:=by
 have HC:Hid (∀q:Nat,zZ op=q->Value.int .i64 (q:Int)=.int .i64 (zZ op:Int)):=fun q e=>by rw[e]
 generalize Value.int .i64 (zZ op:Int)=V at*;go_enter func256,ntmps256;go_wp2
 all_goals go_ret
 all_goals refine⟨congrArg Ending.returned ?_,rfl⟩
 all_goals first
  |exact HC.out 1 (by simp only[beq_iff_eq,beq_eq_false_iff_ne,ne_eq] at*;unfold zZ;rw[if_pos (by omega)])
  |exact HC.out 3 (by simp only[beq_iff_eq,beq_eq_false_iff_ne,ne_eq] at*;unfold zZ;rw[if_neg (by omega),if_pos (by omega)])
  |exact HC.out 2 (by simp only[beq_iff_eq,beq_eq_false_iff_ne,ne_eq] at*;unfold zZ;rw[if_neg (by omega),if_neg (by omega)])
def Zc:Nat->Fz->Option (List Nat×Fz)
 |0,F=>some ([],F)
 |i+1,F=>match Zc i F with
  |none=>none
  |some (l,G)=>match zu G with
   |none=>none
   |some (n,G')=>some (l++[n],G')
theorem Yi {F:Fz} {i:Nat} (h:Zc i F=none):∀j,i<=j->Zc j F=none
 |0,hj=>by
  obtain rfl:i=0:=by omega
  exact h
 |j+1,hj=>by
  by_cases e:i=j+1
  ·rw[<-e];exact h
  ·rw[Zc,Yi h j (by omega)]
theorem yR {F:Fz}:∀{i:Nat} {l:List Nat} {G:Fz},Zc i F=some (l,G)->l.length=i
 |0,l,G,h=>by obtain⟨rfl,_⟩:=Prod.mk.inj (Option.some.inj h);rfl
 |i+1,l,G,h=>by
  rw[Zc] at h;split at h
  ·cases h
  ·rename_i l1 G1 h1;split at h
   ·cases h
   ·obtain⟨rfl,_⟩:=Prod.mk.inj (Option.some.inj h);rw[List.length_append,yR h1];rfl
def opsC (l:List Nat):Nat->Value:=fun i=>.int .u64 (za (l.getD (i/4) 0) (i%4))
theorem zcr {base fb:Nat} {F:Fz} {S:List Nat} {sv mv:Value} {Q:Exit->Act->World->Prop} (a:Act) (w:World) {br nr:Nat} (hr6:zS w br (nr)) (hr6n:br∉S) (h:Fr base fb F S sv mv w) (hsz:([39,40,41,42,43]:List Nat).all (fun d=>decide (d<a.tmps.size))=true) (c6:a.tmps.getD 6 undef=.pointer (some ⟨br,0,none⟩)) (c0:a.tmps.getD 0 undef=.pointer (some ⟨fb,0,none⟩))
  (hpan:∀u pv s x,(zP (nr) (F)=none)->s.defers=a.defers->Kb S w x->Q (.panic [{v:=.iface u pv,recovered:=false}]) s x)
  (hok:∀(x:World) (S':List Nat) (sv' mv':Value),Fr base fb (zv (zP (nr) (F))) S' sv' mv' x->Kb S w x->(∀j∈S',j∈S\/w.heap.size<=j)->Q .normal (zL a [(39,.pointer (some ⟨fb,0,none⟩)),(40,.pointer (some ⟨fb,0,none⟩)),(41,.pointer (some ⟨fb,19,none⟩)),(42,wv (nr)),(43,Value.tuple #[])]) x):
  (Code.region 9 #[⟨some 39,.move (.tmp 0),132,"instructions.go:18",#[],none⟩,⟨some 40,.nilCheck (.tmp 39),0,"instructions.go:18",#[⟨0,.data⟩],none⟩,⟨some 41,.fieldAddr 137 (.tmp 40) 10,0,"instructions.go:18",#[⟨1,.data⟩],none⟩,⟨some 42,.load 24 (.tmp 6),24,"instructions.go:18",#[],none⟩,⟨some 43,.call ⟨.value (.func 259),#[.tmp 41,.tmp 42],#[135,24]⟩,0,"instructions.go:18",#[⟨2,.data⟩,⟨3,.data⟩],none⟩] true).wp prog Q a w:=by
 exact Z1 (fun k=>match k with|0=>F|_=>zv (zP (nr) (F))) h [(6,.pointer (some ⟨br,0,none⟩)),(0,.pointer (some ⟨fb,0,none⟩))] [(some 39,.v (.pointer (some ⟨fb,0,none⟩))),(some 40,.v (.pointer (some ⟨fb,0,none⟩))),(some 41,.v (.pointer (some ⟨fb,19,none⟩))),(some 42,.v (wv (nr))),(some 43,.v (Value.tuple #[]))] [4] [3] (by kernel_rfl) hsz (zW c6 (zW c0 rfl)) (by kernel_rfl) trivial
  (zk _ _ _ rfl rfl (fun s x S1 sv1 mv1 hfr hkb hsub hdf hv hl K hK=>zet (r:=zP (nr) (F)) (val:=zM) zcU (ev2 (hv 41 _ rfl) (hv 42 _ rfl)) (zhX (nr) x hfr) rfl (fun _ _ _=>rfl) (fun hrn u pv x' hk=>hpan u pv s x' hrn hdf (hkb.trans hk hsub)) hK)
  True.intro)
  (zk _ _ _ rfl rfl (fun s x k S1 sv1 mv1 hfr hkb hkp hv hl K hK=>zfy 6 42 _ _ (hv 6 _ rfl) (hkb.row hr6 hr6n) (hK _ x (Below.refl _ _) nn1 rfl))
  True.intro)
  fun g x S' sv' mv' hfr hkb hsub hT=>hok x S' sv' mv' hfr hkb hsub
def zc6 (op:Nat) (F:Fz):Option (Unit×Fz):=match Zc (zZ op) F with
 |none=>none
 |some (l,G)=>match(if op=10 then yQ (10*(pl (l.getD 1 0) 0).length) G else some ((),G)) with
  |none=>none
  |some (_,G2)=>zP (zI op (l.getD 0 0%M) (l.getD 1 0%M) (l.getD 2 0%M)) G2
structure OL (base fb:Nat) (F:Fz) (S:List Nat) (w:World) (l:List Nat) (G:Fz) (S':List Nat) (sv' mv':Value) (x:World):Prop where
 fr:Fr base fb G S' sv' mv' x
 kb:Kb S w x
 sub:∀j∈S',j∈S\/w.heap.size<=j
 row:x.rowIs w.heap.size 284 12 (opsC l)
 out:w.heap.size∉S'
 hw:0<w.heap.size
theorem OL.start {base fb:Nat} {F:Fz} {S:List Nat} {sv mv:Value} {w:World} (h:Fr base fb F S sv mv w):OL base fb F S w [] F S sv mv (w.alloc (.cells #[.int .u64 0,.int .u64 0,.int .u64 0,.int .u64 0,.int .u64 0,.int .u64 0,.int .u64 0,.int .u64 0,.int .u64 0,.int .u64 0,.int .u64 0,.int .u64 0] 284)):=by
 refine⟨h.below (bal (Below.refl _ w) _),Kb.of_below (bal (Below.refl _ w) _),fun j hj=>Or.inl hj, ?_,fun hm=>Nat.lt_irrefl _ (h.footlt _ hm),h.hs⟩;refine World.rowIs_alloc w _ _ _ fun i hi=> ?_
 have hi2:i<12:=hi;rcases ltq12 hi2 with rfl|rfl|rfl|rfl|rfl|rfl|rfl|rfl|rfl|rfl|rfl|rfl<;>simp[opsC,za]
theorem tb4:(4:Nat)≠284:=by decide
def put4a (x:World) (b o n:Nat):World:=(((x.setCell ⟨b,o,none⟩ (.int .u64 (za n 0))).setCell ⟨b,o+1,none⟩ (.int .u64 (za n 1))).setCell ⟨b,o+2,none⟩ (.int .u64 (za n 2))).setCell ⟨b,o+3,none⟩ (.int .u64 (za n 3))
theorem zmv (x:World) (b o n:Nat):Kb [b] x (put4a x b o n):=((((Kb.refl [b] x).setCell (Or.inl (by simp)) _).setCell (Or.inl (by simp)) _).setCell (Or.inl (by simp)) _).setCell (Or.inl (by simp)) _
theorem zmJ {x:World} {b:Nat} {l:List Nat} (h:x.rowIs b 284 12 (opsC l)) (n:Nat):(put4a x b (l.length*4) n).rowIs b 284 12 (opsC (l++[n])):=by
 refine((((h.set (l.length*4) _).set (l.length*4+1) _).set (l.length*4+2) _).set (l.length*4+3) _).congr fun i hi=> ?_
 have hg:∀j,j≠l.length->(l++[n]).getD j 0=l.getD j 0:=fun j hj=>by
  rw[List.getD_eq_getElem?_getD,List.getD_eq_getElem?_getD];by_cases hlt:j<l.length
  ·rw[List.getElem?_append_left hlt]
  ·rw[List.getElem?_eq_none (by simp;omega),List.getElem?_eq_none (by omega)]
 have hgn:(l++[n]).getD l.length 0=n:=by simp[List.getD_eq_getElem?_getD]
 unfold opsC;show(if i=l.length*4+3 then _ else if i=l.length*4+2 then _ else if i=l.length*4+1 then _ else if i=l.length*4 then _ else _)=_;by_cases e3:i=l.length*4+3
 ·rw[if_pos e3,show i/4=l.length by omega,show i%4=3 by omega,hgn]
 ·rw[if_neg e3];by_cases e2:i=l.length*4+2
  ·rw[if_pos e2,show i/4=l.length by omega,show i%4=2 by omega,hgn]
  ·rw[if_neg e2];by_cases e1:i=l.length*4+1
   ·rw[if_pos e1,show i/4=l.length by omega,show i%4=1 by omega,hgn]
   ·rw[if_neg e1];by_cases e0:i=l.length*4
    ·rw[if_pos e0,show i/4=l.length by omega,show i%4=0 by omega,hgn]
    ·rw[if_neg e0,hg (i/4) (by omega)]
theorem OL.step {base fb:Nat} {F:Fz} {S:List Nat} {w:World} {l:List Nat} {G G':Fz} {S' S'':List Nat} {sv' mv' sv'' mv'':Value} {x x':World} (h:OL base fb F S w l G S' sv' mv' x) (hf:Fr base fb G' S'' sv'' mv'' x') (hk:Kb S' x x') (hs:∀j∈S'',j∈S'\/x.heap.size<=j) (n:Nat):
  OL base fb F S w (l++[n]) G' S'' sv'' mv'' (put4a x' w.heap.size (l.length*4) n):=by
 have hlt:w.heap.size<x.heap.size:=h.row.lt;have ho:w.heap.size∉S'':=fun hm=>(hs _ hm).elim h.out (fun h2=>by omega)
 have hkp:=zmv x' w.heap.size (l.length*4) n;have h0:=h.hw;exact⟨hf.kb hkp (fun j hj=>by simp;exact fun e=>ho (e▸hj)) (by simp;omega) (fun g N f hr hm=>yF hr (hk.row h.row h.out) tb4 (by simpa using hm)),(h.kb.trans hk h.sub).trans hkp (fun j hj=>Or.inr (by simp at hj;omega)),fun j hj=>(hs j hj).elim (h.sub j) (fun h2=>Or.inr (Nat.le_trans h.kb.size h2)),zmJ (hk.row h.row h.out) n,ho,h0⟩
theorem zej {base fb:Nat} {F:Fz} {S:List Nat} {sv mv:Value} (op:Nat) (ho:op<=255) (w:World) (h:Fr base fb F S sv mv w) (hp:Zc (zZ op) F=none):
  Calls prog 232 #[.pointer (some ⟨fb,0,none⟩),.int .u8 (op:Int)] w (Out (none:Option (Unit×Fz)) zM base fb S w):=by
 have HC:=ze (ZF op ho);have hk:zZ op<=3:=by unfold zZ;split;omega;split<;>omega
 generalize zZ op=k at*;have HP:=ze hp;have HF:=ze h;clear h hp;go_enter func232,ntmps232;go_wp2_with fail
 refine(HC.out _).mono ?_;rintro e w1 ⟨rfl,rfl⟩;go_wp2
 go_loopw [10] (fun t10 x=>∃(i:Nat) (l:List Nat) (G:Fz) (S':List Nat) (sv' mv':Value),i<=k/\t10=.int .i64 (i:Int)/\Hid (Zc i F=some (l,G))/\OL base fb F S w l G S' sv' mv' x) (fun t10 _=>k - (RowKit.intOf t10).toNat)
 case atStart=>exact⟨0,[],F,S,sv,mv,by omega,rfl,rfl,OL.start HF.out⟩
 case round=>
  obtain⟨i,l,G,S',sv',mv',hi,rfl,HL,hol⟩:=hrel;by_cases hlt:i<k
  ·have d:decide ((i:Int)<(k:Int))=true:=decide_eq_true (by omega);have hll:=yR HL.out;have HPO:=ze (zbC _ hol.fr);cases hpo:zu G with
   |none=>
    rw[hpo] at HPO;have HKB:=ze hol.kb;have HSB:=ze hol.sub;clear hol hpo;go_wp2_with fail
    refine HPO.out.mono ?_;rintro e x2 ⟨⟨u,pv,rfl⟩,hk2⟩;exact⟨rfl,⟨_,_,rfl⟩,HKB.out.trans hk2 HSB.out⟩
   |some r=>
    obtain⟨n,G'⟩:=r;rw[hpo] at HPO;have HL2:Hid (Zc (i+1) F=some (l++[n],G')):=by show _=_;rw[Zc,HL.out];show(match zu G with|none=>none|some (n,G')=>some (l++[n],G'))=_;rw[hpo]
    have HOL:=ze hol;clear hol hpo;go_wp2_with fail
    refine HPO.out.mono ?_;rintro e x2 ⟨rfl,S2,sv2,mv2,hf2,hk2,hs2⟩;have hr2:=hk2.row HOL.out.row HOL.out.out;have HOL2:=ze (HOL.out.step hf2 hk2 hs2 n);have hfz:=hr2.frozen;have c0:=hr2.cell (i:=i*4) (by omega);have c1:=hr2.cell (i:=i*4+1) (by omega);have c2:=hr2.cell (i:=i*4+2) (by omega);have c3:=hr2.cell (i:=i*4+3) (by omega);clear hf2 hk2 hs2 hr2;have hi3:i<3:=by omega
    go_wp2;refine⟨⟨i+1,l++[n],G',S2,sv2,mv2,by omega,by go_num,HL2, ?_⟩,by simp[RowKit.intOf];omega⟩;have h9:=HOL2.out;rw[hll] at h9;exact h9
  ·obtain rfl:i=k:=by omega
   rw[HP.out] at HL;exact absurd HL.out (by simp)
theorem OL.words {base fb:Nat} {F:Fz} {S:List Nat} {w:World} {l:List Nat} {G:Fz} {S':List Nat} {sv' mv':Value} {x:World} (h:OL base fb F S w l G S' sv' mv' x):
  (x.cell? ⟨w.heap.size,0,none⟩=some (.int .u64 (za (l.getD 0 0) 0))/\x.cell? ⟨w.heap.size,1,none⟩=some (.int .u64 (za (l.getD 0 0) 1))/\x.cell? ⟨w.heap.size,2,none⟩=some (.int .u64 (za (l.getD 0 0) 2))/\x.cell? ⟨w.heap.size,3,none⟩=some (.int .u64 (za (l.getD 0 0) 3)))/\
  (x.cell? ⟨w.heap.size,4,none⟩=some (.int .u64 (za (l.getD 1 0) 0))/\x.cell? ⟨w.heap.size,5,none⟩=some (.int .u64 (za (l.getD 1 0) 1))/\x.cell? ⟨w.heap.size,6,none⟩=some (.int .u64 (za (l.getD 1 0) 2))/\x.cell? ⟨w.heap.size,7,none⟩=some (.int .u64 (za (l.getD 1 0) 3)))/\
  (x.cell? ⟨w.heap.size,8,none⟩=some (.int .u64 (za (l.getD 2 0) 0))/\x.cell? ⟨w.heap.size,9,none⟩=some (.int .u64 (za (l.getD 2 0) 1))/\x.cell? ⟨w.heap.size,10,none⟩=some (.int .u64 (za (l.getD 2 0) 2))/\x.cell? ⟨w.heap.size,11,none⟩=some (.int .u64 (za (l.getD 2 0) 3))):=
 ⟨⟨h.row.cell (i:=0) (by omega),h.row.cell (i:=1) (by omega),h.row.cell (i:=2) (by omega),h.row.cell (i:=3) (by omega)⟩,⟨h.row.cell (i:=4) (by omega),h.row.cell (i:=5) (by omega),h.row.cell (i:=6) (by omega),h.row.cell (i:=7) (by omega)⟩,⟨h.row.cell (i:=8) (by omega),h.row.cell (i:=9) (by omega),h.row.cell (i:=10) (by omega),h.row.cell (i:=11) (by omega)⟩⟩
theorem zdi {base fb:Nat} {F G:Fz} {S:List Nat} {sv mv:Value} {l:List Nat} (op:Nat) (ho:op<=255) (h10:op≠10) (w:World) (h:Fr base fb F S sv mv w) (hp:Zc (zZ op) F=some (l,G)):
  Calls prog 232 #[.pointer (some ⟨fb,0,none⟩),.int .u8 (op:Int)] w (Out (zP (zI op (l.getD 0 0%M) (l.getD 1 0%M) (l.getD 2 0%M)) G) zM base fb S w):=by
 have HC:=ze (ZF op ho);have hk:zZ op<=3:=by unfold zZ;split;omega;split<;>omega
 generalize zZ op=k at*;have HP:=ze hp;have HF:=ze h;have hne:((op:Int)==10)=false:=by simp;omega
 obtain⟨a,HA⟩:∃a,Hid (a=l.getD 0 0):=⟨_,rfl⟩;obtain⟨b,HB⟩:∃b,Hid (b=l.getD 1 0):=⟨_,rfl⟩;obtain⟨c,HCC⟩:∃c,Hid (c=l.getD 2 0):=⟨_,rfl⟩;rw[<-HA.out,<-HB.out,<-HCC.out];have HCA:=ze (YF op ho a b c);obtain⟨y,HY⟩:∃y,Hid (y=zI op (a%M) (b%M) (c%M)):=⟨_,rfl⟩;rw[<-HY.out] at HCA⊢;clear h hp;go_enter func232,ntmps232;go_wp2_with fail
 refine(HC.out _).mono ?_;rintro e w1 ⟨rfl,rfl⟩;go_wp2
 go_loopw [10] (fun t10 x=>∃(i:Nat) (l:List Nat) (G:Fz) (S':List Nat) (sv' mv':Value),i<=k/\t10=.int .i64 (i:Int)/\Hid (Zc i F=some (l,G))/\OL base fb F S w l G S' sv' mv' x) (fun t10 _=>k - (RowKit.intOf t10).toNat)
 case atStart=>exact⟨0,[],F,S,sv,mv,by omega,rfl,rfl,OL.start HF.out⟩
 case round=>
  obtain⟨i,l1,G1,S',sv',mv',hi,rfl,HL,hol⟩:=hrel;by_cases hlt:i<k
  ·have d:decide ((i:Int)<(k:Int))=true:=decide_eq_true (by omega);have hll:=yR HL.out;have HPO:=ze (zbC _ hol.fr);cases hpo:zu G1 with
   |none=>
    exfalso;have h1:Zc (i+1) F=none:=by rw[Zc,HL.out];show(match zu G1 with|none=>none|some (n,G')=>some (l1++[n],G'))=_;rw[hpo]
    have h2:=Yi h1 k (by omega);rw[HP.out] at h2;cases h2
   |some r=>
    obtain⟨n,G'⟩:=r;rw[hpo] at HPO;have HL2:Hid (Zc (i+1) F=some (l1++[n],G')):=by show _=_;rw[Zc,HL.out];show(match zu G1 with|none=>none|some (n,G')=>some (l1++[n],G'))=_;rw[hpo]
    have HOL:=ze hol;clear hol hpo;go_wp2_with fail
    refine HPO.out.mono ?_;rintro e x2 ⟨rfl,S2,sv2,mv2,hf2,hk2,hs2⟩;have hr2:=hk2.row HOL.out.row HOL.out.out;have HOL2:=ze (HOL.out.step hf2 hk2 hs2 n);have hfz:=hr2.frozen;have c0:=hr2.cell (i:=i*4) (by omega);have c1:=hr2.cell (i:=i*4+1) (by omega);have c2:=hr2.cell (i:=i*4+2) (by omega);have c3:=hr2.cell (i:=i*4+3) (by omega);clear hf2 hk2 hs2 hr2;have hi3:i<3:=by omega
    go_wp2;refine⟨⟨i+1,l1++[n],G',S2,sv2,mv2,by omega,by go_num,HL2, ?_⟩,by simp[RowKit.intOf];omega⟩;have h9:=HOL2.out;rw[hll] at h9;exact h9
  ·obtain rfl:i=k:=by omega
   have hle:Zc i F=some (l1,G1):=HL.out;rw[HP.out] at hle;obtain⟨rfl,rfl⟩:=Prod.mk.inj (Option.some.inj hle);have d:decide ((i:Int)<(i:Int))=false:=decide_eq_false (by omega);obtain⟨⟨a0,a1,a2,a3⟩,⟨b0,b1,b2,b3⟩,⟨c0,c1,c2,c3⟩⟩:=hol.words;rw[<-HA.out] at a0 a1 a2 a3;rw[<-HB.out] at b0 b1 b2 b3;rw[<-HCC.out] at c0 c1 c2 c3;have HOL:=ze hol;clear hol hle HL;go_wp2_with fail
   refine(HCA.out _).mono ?_;rintro e x2 ⟨r,HR,rfl,hb2⟩;obtain rfl:r=y:=HR.out;have HB2:=ze hb2;clear hb2 HR;go_wp2;have hbe:Below wr.heap.size wr (x2.alloc (wc r)):=bal HB2.out _;have hkb:Kb S w (x2.alloc (wc r)):=HOL.out.kb.below hbe;refine zcr _ (x2.alloc (wc r)) (br:=x2.heap.size) (nr:=r) (Zn x2 r) (fun hm=>by have h5:=HOL.out.fr.footlt _ hm;have h6:=HB2.out.size;omega) (HOL.out.fr.below hbe) rfl rfl rfl ?_ ?_
   ·intro u pv s x hno hd hk;refine⟨hd, ?_⟩;rw[hno];exact⟨⟨_,_,rfl⟩,hkb.trans hk HOL.out.sub⟩
   ·intro x S2 sv2 mv2 hfr hk2 hs2;cases hpu:zP r G with
    |none=>
     rw[hpu] at hfr;exact absurd hfr (fun h=>zcJ h)
    |some q=>
     obtain⟨u,G2⟩:=q;rw[hpu] at hfr
     first|go_end0|refine bodyPost_ret (results_none rfl _ _ _) rfl ?_
     exact⟨rfl,S2,sv2,mv2,hfr,hkb.trans hk2 HOL.out.sub,fun j hj=>(hs2 j hj).elim (HOL.out.sub j) (fun h=>Or.inr (Nat.le_trans hkb.size h))⟩
end cin
end Go.Proofs.YtohoajjdoihekaaGreatDoor
