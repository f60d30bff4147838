import Derived.Test.YtohoajjdoihekaaGreatDoorPq
import Derived.Conc.RwLib
import Derived.Conc.MuData
import Derived.Conc.MuLone
import Derived.KernelRfl
set_option linter.unusedVariables false
set_option linter.unusedSimpArgs false
namespace Go.Proofs.YtohoajjdoihekaaGreatDoor
namespace cin
open Go.RowKit Go.Proofs.Tryz Tryz
set_option maxRecDepth 100000
set_option maxHeartbeats 8000000
section
open Go.Maps
theorem do_surr {Post:Ending->World->Prop} (fb op:Nat) (h1:48<=op) (h2:op<=62) (w:World) (hP:zaD Post) (hc:Calls prog 233 #[.pointer (some ⟨fb,0,none⟩),.int .u8 (op:Int)] w Post):
  Calls prog 205 #[.pointer (some ⟨fb,0,none⟩),.int .u8 (op:Int)] w Post:=by
 have hop:op<=255:=by omega
 have H1:=zb (Zl op hop);rw[show opN op=false by unfold opN;simp;omega] at H1;have d1:decide ((48:Int)<=(op:Int))=true:=decide_eq_true (by omega);have d2:decide ((op:Int)<=62)=true:=decide_eq_true (by omega);have HC:=zb hc;have HP:=zb hP;clear hc hP;go_enter func205,ntmps205
 go_wp2_with (first
  |(go_at_call 231;refine(H1.out _).mono ?_;rintro e w1 ⟨rfl,rfl⟩)
  |fail)
 refine HC.out.mono ?_;intro e w2 hq;have HQ:=zb hq;rcases HP.out e w2 hq with rfl|⟨u,pv,rfl⟩
 ·clear hq HC;go_wp2;go_end0;exact HQ.out
 ·exact⟨rfl,HQ.out⟩
theorem do_dup {Post:Ending->World->Prop} (fb op:Nat) (h1:128<=op) (h2:op<=143) (w:World) (hP:zaD Post) (hc:Calls prog 238 #[.pointer (some ⟨fb,19,none⟩),.int .i64 (((op - 128:Nat):Int)+1)] w Post):
  Calls prog 205 #[.pointer (some ⟨fb,0,none⟩),.int .u8 (op:Int)] w Post:=by
 have hop:op<=255:=by omega
 have H1:=zb (Zl op hop);rw[show opN op=false by unfold opN;simp;omega] at H1;have H2:=zb (yX op hop);rw[show zab op=false by unfold zab;simp;omega] at H2;have H3:=zb (YV op hop);rw[show zdD op=true by unfold zdD;simp;omega] at H3;have d1:decide ((48:Int)<=(op:Int))=true:=decide_eq_true (by omega);have d2:decide ((op:Int)<=62)=false:=decide_eq_false (by omega);have d3:decide ((80:Int)<=(op:Int))=true:=decide_eq_true (by omega);have d4:decide ((op:Int)<=94)=false:=decide_eq_false (by omega);have d5:IntKind.u8.wrap ((op:Int) - 128)=((op - 128:Nat):Int):=by simp[IntKind.wrap,IntKind.signed,IntKind.bits];omega
 have d6:IntKind.i64.wrap ((op - 128:Nat):Int)=((op - 128:Nat):Int):=by simp[IntKind.wrap,IntKind.signed,IntKind.bits];omega
 have d7:IntKind.i64.wrap (((op - 128:Nat):Int)+1)=((op - 128:Nat):Int)+1:=by simp[IntKind.wrap,IntKind.signed,IntKind.bits];omega
 have HC:=zb hc;have HP:=zb hP;clear hc hP;go_enter func205,ntmps205
 go_wp2_with (first
  |(go_at_call 231;refine(H1.out _).mono ?_;rintro e w1 ⟨rfl,rfl⟩)
  |(go_at_call 235;refine(H2.out _).mono ?_;rintro e w1 ⟨rfl,rfl⟩)
  |(go_at_call 237;refine(H3.out _).mono ?_;rintro e w1 ⟨rfl,rfl⟩)
  |fail)
 refine HC.out.mono ?_;intro e w2 hq;have HQ:=zb hq;rcases HP.out e w2 hq with rfl|⟨u,pv,rfl⟩
 ·clear hq HC;go_wp2;go_end0;exact HQ.out
 ·exact⟨rfl,HQ.out⟩
theorem do_swap {Post:Ending->World->Prop} (fb op:Nat) (h1:144<=op) (h2:op<=159) (w:World) (hP:zaD Post) (hc:Calls prog 240 #[.pointer (some ⟨fb,19,none⟩),.int .i64 (((op - 144:Nat):Int)+1)] w Post):
  Calls prog 205 #[.pointer (some ⟨fb,0,none⟩),.int .u8 (op:Int)] w Post:=by
 have hop:op<=255:=by omega
 have H1:=zb (Zl op hop);rw[show opN op=false by unfold opN;simp;omega] at H1;have H2:=zb (yX op hop);rw[show zab op=false by unfold zab;simp;omega] at H2;have H3:=zb (YV op hop);rw[show zdD op=false by unfold zdD;simp;omega] at H3;have H4:=zb (zaa op hop);rw[show zby op=true by unfold zby;simp;omega] at H4;have d1:decide ((48:Int)<=(op:Int))=true:=decide_eq_true (by omega);have d2:decide ((op:Int)<=62)=false:=decide_eq_false (by omega);have d3:decide ((80:Int)<=(op:Int))=true:=decide_eq_true (by omega);have d4:decide ((op:Int)<=94)=false:=decide_eq_false (by omega);have d5:IntKind.u8.wrap ((op:Int) - 144)=((op - 144:Nat):Int):=by simp[IntKind.wrap,IntKind.signed,IntKind.bits];omega
 have d6:IntKind.i64.wrap ((op - 144:Nat):Int)=((op - 144:Nat):Int):=by simp[IntKind.wrap,IntKind.signed,IntKind.bits];omega
 have d7:IntKind.i64.wrap (((op - 144:Nat):Int)+1)=((op - 144:Nat):Int)+1:=by simp[IntKind.wrap,IntKind.signed,IntKind.bits];omega
 have HC:=zb hc;have HP:=zb hP;clear hc hP;go_enter func205,ntmps205
 go_wp2_with (first
  |(go_at_call 231;refine(H1.out _).mono ?_;rintro e w1 ⟨rfl,rfl⟩)
  |(go_at_call 235;refine(H2.out _).mono ?_;rintro e w1 ⟨rfl,rfl⟩)
  |(go_at_call 237;refine(H3.out _).mono ?_;rintro e w1 ⟨rfl,rfl⟩)
  |(go_at_call 239;refine(H4.out _).mono ?_;rintro e w1 ⟨rfl,rfl⟩)
  |fail)
 refine HC.out.mono ?_;intro e w2 hq;have HQ:=zb hq;rcases HP.out e w2 hq with rfl|⟨u,pv,rfl⟩
 ·clear hq HC;go_wp2;go_end0;exact HQ.out
 ·exact⟨rfl,HQ.out⟩
theorem do_log {Post:Ending->World->Prop} (fb op:Nat) (h1:160<=op) (h2:op<=164) (w:World) (hP:zaD Post) (hc:Calls prog 242 #[.pointer (some ⟨fb,0,none⟩),.int .i64 ((op - 160:Nat):Int)] w Post):
  Calls prog 205 #[.pointer (some ⟨fb,0,none⟩),.int .u8 (op:Int)] w Post:=by
 have hop:op<=255:=by omega
 have H1:=zb (Zl op hop);rw[show opN op=false by unfold opN;simp;omega] at H1;have H2:=zb (yX op hop);rw[show zab op=false by unfold zab;simp;omega] at H2;have H3:=zb (YV op hop);rw[show zdD op=false by unfold zdD;simp;omega] at H3;have H4:=zb (zaa op hop);rw[show zby op=false by unfold zby;simp;omega] at H4;have H5:=zb (zbP op hop);rw[show zhn op=true by unfold zhn;simp;omega] at H5;have d1:decide ((48:Int)<=(op:Int))=true:=decide_eq_true (by omega);have d2:decide ((op:Int)<=62)=false:=decide_eq_false (by omega);have d3:decide ((80:Int)<=(op:Int))=true:=decide_eq_true (by omega);have d4:decide ((op:Int)<=94)=false:=decide_eq_false (by omega);have d5:IntKind.u8.wrap ((op:Int) - 160)=((op - 160:Nat):Int):=by simp[IntKind.wrap,IntKind.signed,IntKind.bits];omega
 have d6:IntKind.i64.wrap ((op - 160:Nat):Int)=((op - 160:Nat):Int):=by simp[IntKind.wrap,IntKind.signed,IntKind.bits];omega
 have HC:=zb hc;have HP:=zb hP;clear hc hP;go_enter func205,ntmps205
 go_wp2_with (first
  |(go_at_call 231;refine(H1.out _).mono ?_;rintro e w1 ⟨rfl,rfl⟩)
  |(go_at_call 235;refine(H2.out _).mono ?_;rintro e w1 ⟨rfl,rfl⟩)
  |(go_at_call 237;refine(H3.out _).mono ?_;rintro e w1 ⟨rfl,rfl⟩)
  |(go_at_call 239;refine(H4.out _).mono ?_;rintro e w1 ⟨rfl,rfl⟩)
  |(go_at_call 241;refine(H5.out _).mono ?_;rintro e w1 ⟨rfl,rfl⟩)
  |fail)
 refine HC.out.mono ?_;intro e w2 hq;have HQ:=zb hq;rcases HP.out e w2 hq with rfl|⟨u,pv,rfl⟩
 ·clear hq HC;go_wp2;go_end0;exact HQ.out
 ·exact⟨rfl,HQ.out⟩
theorem do_call {Post:Ending->World->Prop} (fb op:Nat) (h0:op=241\/op=244\/op=250) (w:World) (hP:zaD Post) (hc:Calls prog 244 #[.pointer (some ⟨fb,0,none⟩),.int .u8 (op:Int)] w Post):
  Calls prog 205 #[.pointer (some ⟨fb,0,none⟩),.int .u8 (op:Int)] w Post:=by
 have hop:op<=255:=by omega
 have H1:=zb (Zl op hop);rw[show opN op=false by unfold opN;simp;omega] at H1;have H2:=zb (yX op hop);rw[show zab op=false by unfold zab;simp;omega] at H2;have H3:=zb (YV op hop);rw[show zdD op=false by unfold zdD;simp;omega] at H3;have H4:=zb (zaa op hop);rw[show zby op=false by unfold zby;simp;omega] at H4;have H5:=zb (zbP op hop);rw[show zhn op=false by unfold zhn;simp;omega] at H5;have H6:=zb (zeu op hop);rw[show ziy op=true by unfold ziy;simp;omega] at H6;have d1:decide ((48:Int)<=(op:Int))=true:=decide_eq_true (by omega);have d2:decide ((op:Int)<=62)=false:=decide_eq_false (by omega);have d3:decide ((80:Int)<=(op:Int))=true:=decide_eq_true (by omega);have d4:decide ((op:Int)<=94)=false:=decide_eq_false (by omega);have HC:=zb hc;have HP:=zb hP;clear hc hP;go_enter func205,ntmps205
 go_wp2_with (first
  |(go_at_call 231;refine(H1.out _).mono ?_;rintro e w1 ⟨rfl,rfl⟩)
  |(go_at_call 235;refine(H2.out _).mono ?_;rintro e w1 ⟨rfl,rfl⟩)
  |(go_at_call 237;refine(H3.out _).mono ?_;rintro e w1 ⟨rfl,rfl⟩)
  |(go_at_call 239;refine(H4.out _).mono ?_;rintro e w1 ⟨rfl,rfl⟩)
  |(go_at_call 241;refine(H5.out _).mono ?_;rintro e w1 ⟨rfl,rfl⟩)
  |(go_at_call 243;refine(H6.out _).mono ?_;rintro e w1 ⟨rfl,rfl⟩)
  |fail)
 refine HC.out.mono ?_;intro e w2 hq;have HQ:=zb hq;rcases HP.out e w2 hq with rfl|⟨u,pv,rfl⟩
 ·clear hq HC;go_wp2;go_end0;exact HQ.out
 ·exact⟨rfl,HQ.out⟩
end
theorem zhQ {base fb:Nat} {F:Fz} {S:List Nat} {sv mv:Value} {Q:Exit->Act->World->Prop} (a:Act) (w:World) (h:Fr base fb F S sv mv w) (hsz:([2,3,4,5,6,7,8,9,10,11,12,13]:List Nat).all (fun d=>decide (d<a.tmps.size))=true) (c0:a.tmps.getD 0 undef=.pointer (some ⟨fb,0,none⟩))
  (hpan:∀u pv s x,(zi (F)=none\/zk (zA (zi (F))) (32) (zh (zi (F)))=none\/zl (ofL (YM (zk (zA (zi (F))) (32) (zh (zi (F)))))) (zh (zk (zA (zi (F))) (32) (zh (zi (F)))))=none)->s.defers=a.defers->Kb S w x->Q (.panic [{v:=.iface u pv,recovered:=false}]) s x)
  (hok:∀(x:World) (S':List Nat) (sv' mv':Value) (z9:Value),Fr base fb (zh (zl (ofL (YM (zk (zA (zi (F))) (32) (zh (zi (F)))))) (zh (zk (zA (zi (F))) (32) (zh (zi (F))))))) S' sv' mv' x->Kb S w x->(∀j∈S',j∈S\/w.heap.size<=j)->(Pr 2 (zk (zA (zi (F))) (32) (zh (zi (F))))) (4,mv') S' z9 x->Q .normal (zF a [(2,.pointer (some ⟨fb,0,none⟩)),(3,.pointer (some ⟨fb,0,none⟩)),(4,.pointer (some ⟨fb,19,none⟩)),(5,.pointer (some ⟨fb,0,none⟩)),(6,.pointer (some ⟨fb,0,none⟩)),(7,.pointer (some ⟨fb,0,none⟩)),(8,.pointer (some ⟨fb,19,none⟩)),(9,wv (zA (zi (F)))),(10,wv (32)),(11,z9),(12,wv (ofL (YM (zk (zA (zi (F))) (32) (zh (zi (F))))))),(13,Value.tuple #[])]) x):
  (Code.region 0 #[⟨some 2,.move (.tmp 0),132,"memory.go:40",#[],none⟩,⟨some 3,.nilCheck (.tmp 2),0,"memory.go:40",#[⟨0,.data⟩],none⟩,⟨some 4,.fieldAddr 137 (.tmp 3) 10,0,"memory.go:40",#[⟨1,.data⟩],none⟩,⟨some 5,.move (.tmp 0),132,"memory.go:40",#[],none⟩,⟨some 6,.move (.tmp 0),132,"memory.go:40",#[],none⟩,⟨some 7,.nilCheck (.tmp 6),0,"memory.go:40",#[⟨4,.data⟩],none⟩,⟨some 8,.fieldAddr 137 (.tmp 7) 10,0,"memory.go:40",#[⟨5,.data⟩],none⟩,⟨some 9,.call ⟨.value (.func 257),#[.tmp 8],#[135]⟩,24,"memory.go:40",#[⟨6,.data⟩],none⟩,⟨some 10,.call ⟨.value (.func 262),#[.const (.int .i64 32)],#[3]⟩,24,"memory.go:40",#[⟨7,.chain⟩],none⟩,⟨some 11,.call ⟨.value (.func 275),#[.tmp 5,.tmp 9,.tmp 10],#[132,24,24]⟩,26,"memory.go:40",#[⟨3,.data⟩,⟨7,.data⟩,⟨8,.data⟩,⟨8,.chain⟩],none⟩,⟨some 12,.call ⟨.value (.func 260),#[.tmp 11],#[26]⟩,24,"memory.go:40",#[⟨9,.data⟩,⟨9,.chain⟩],none⟩,⟨some 13,.call ⟨.value (.func 259),#[.tmp 4,.tmp 12],#[135,24]⟩,0,"memory.go:40",#[⟨2,.data⟩,⟨10,.data⟩,⟨10,.chain⟩],none⟩] true).wp prog Q a w:=by
 exact ZC (fun k=>match k with|0=>F|1=>zh (zi (F))|2=>zh (zk (zA (zi (F))) (32) (zh (zi (F))))|3=>zh (zk (zA (zi (F))) (32) (zh (zi (F))))|_=>zh (zl (ofL (YM (zk (zA (zi (F))) (32) (zh (zi (F)))))) (zh (zk (zA (zi (F))) (32) (zh (zi (F))))))) h [(0,.pointer (some ⟨fb,0,none⟩))] [(some 2,.v (.pointer (some ⟨fb,0,none⟩))),(some 3,.v (.pointer (some ⟨fb,0,none⟩))),(some 4,.v (.pointer (some ⟨fb,19,none⟩))),(some 5,.v (.pointer (some ⟨fb,0,none⟩))),(some 6,.v (.pointer (some ⟨fb,0,none⟩))),(some 7,.v (.pointer (some ⟨fb,0,none⟩))),(some 8,.v (.pointer (some ⟨fb,19,none⟩))),(some 9,.v (wv (zA (zi (F))))),(some 10,.v (wv (32))),(some 11,.l (Pr 2 (zk (zA (zi (F))) (32) (zh (zi (F)))))),(some 12,.v (wv (ofL (YM (zk (zA (zi (F))) (32) (zh (zi (F)))))))),(some 13,.v (Value.tuple #[]))] [7,9,10,11] [8] (by kernel_rfl) hsz (Zi c0 rfl) (by kernel_rfl) (And.intro (YU _ _) trivial)
  (zf _ _ _ rfl rfl (fun s x S1 sv1 mv1 hfr hkb hsub hdf hv hl K hK=>zbn (r:=zi (F)) (val:=wv) YO (ev1 (hv 8 _ rfl)) (Ym x hfr) rfl (fun _ _ e=>by rw[e];rfl) (fun hrn u pv x' hk=>hpan u pv s x' (Or.inl hrn) hdf (hkb.trans hk hsub)) hK)
  (zf _ _ _ rfl rfl (fun s x S1 sv1 mv1 hfr hkb hsub hdf hv hl K hK=>zhD (r:=zk (zA (zi (F))) (32) (zh (zi (F)))) zfu (ev3 (hv 5 _ rfl) (hv 9 _ rfl) (hv 10 _ rfl)) (zav (zA (zi (F))) (32) x hfr) rfl (fun hrn u pv x' hk=>hpan u pv s x' (Or.inr (Or.inl hrn)) hdf (hkb.trans hk hsub)) hK)
  (zf _ _ _ rfl rfl (fun s x S1 sv1 mv1 hfr hkb hsub hdf hv hl K hK=>by
   exact ZL zb5 (ev1 rfl) (zax (YM (zk (zA (zi (F))) (32) (zh (zi (F))))) (Nat.le_trans (zm8 _ _ _) (by decide)) _ x (Pr.rds (hl 11 _ rfl) hfr)) (fun e x' h9=>⟨_,h9.1,hK _ S1 sv1 mv1 x' (hfr.below h9.2) (Kb.of_below h9.2) (fun j hj=>Or.inl hj) nn1 rfl⟩))
  (zf _ _ _ rfl rfl (fun s x S1 sv1 mv1 hfr hkb hsub hdf hv hl K hK=>zbn (r:=zl (ofL (YM (zk (zA (zi (F))) (32) (zh (zi (F)))))) (zh (zk (zA (zi (F))) (32) (zh (zi (F)))))) (val:=zx) zbC (ev2 (hv 4 _ rfl) (hv 12 _ rfl)) (yg (ofL (YM (zk (zA (zi (F))) (32) (zh (zi (F)))))) x hfr) rfl (fun _ _ _=>rfl) (fun hrn u pv x' hk=>hpan u pv s x' (Or.inr (Or.inr hrn)) hdf (hkb.trans hk hsub)) hK)
  True.intro))))
  (zf _ _ _ rfl rfl (fun s x k S1 sv1 mv1 hfr hkb hkp hv hl K hK=>ZL zbG (ev1 rfl) (ZI (32) (by omega) x) (fun e x' h9=>⟨_,h9.1,hK _ x' h9.2 nn1 rfl⟩))
  True.intro)
  fun g x S' sv' mv' hfr hkb hsub hT=>hok x S' sv' mv' (g 9) hfr hkb hsub (hT 9 _ _ rfl)
def yE (F:Fz):Option (Unit×Fz):=
 zK (zi F) (zK (zk (zA (zi F)) 32 (zh (zi F))) (zl (ofL (YM (zk (zA (zi F)) 32 (zh (zi F))))) (zh (zk (zA (zi F)) 32 (zh (zi F))))))
theorem zjD {base fb:Nat} {F:Fz} {S:List Nat} {sv mv:Value} (w:World) (h:Fr base fb F S sv mv w):
  Calls prog 265 #[.pointer (some ⟨fb,0,none⟩)] w (Out (yE F) zx base fb S w):=by
 go_enter func265,ntmps265;go_wp2;refine zhQ _ _ h rfl rfl ?_ ?_
 ·intro u pv s x hno hd hk
  have e:yE F=none:=by
   rcases hno with e|e|e
   ·exact zn (Or.inl e)
   ·exact zn (Or.inr (zn (Or.inl e)))
   ·exact zn (Or.inr (zn (Or.inr e)))
  rw[e];exact⟨hd,⟨_,_,rfl⟩,hk⟩
 ·intro x S' sv' mv' z hfr hkb hsub hz;have e:yE F=_:=(zT fun e=>ZS (zcQ (zne (zV e))) hfr).trans ((zT fun e=>ZS (zcQ (zV e)) hfr).trans (zaW fun e=>ZS (zV e) hfr))
  have HO:Hid (Out (yE F) zx base fb S w (.returned (.tuple #[])) x):=by
   rw[e];exact⟨rfl,S',sv',mv',hfr,hkb,hsub⟩
  clear e hfr hz hkb hsub;simp only[zF,List.foldl_cons,List.foldl_nil,Act.put];go_wp2;go_end0;exact HO.out
section
open Go.Maps
def Fz.sj (F:Fz) (t j:Value):Fz:={F with trail:=t,jd:=j}
def sjR {α:Type} (t j:Value) (r:Option (α×Fz)):Option (α×Fz):=r.map fun y=>(y.1,y.2.sj t j)
section
variable {t j:Value} {α β:Type}
theorem yS (a:α) (F:Fz):sjR t j (some (a,F))=some (a,F.sj t j):=rfl
theorem Zu {r:Option (α×Fz)} {k k':Option (β×Fz)} (h:r≠none->k'=sjR t j k):zK (sjR t j r) k'=sjR t j (zK r k):=by
 cases r with
 |none=>rfl
 |some y=>exact h (by simp)
theorem yA (r:Option (Nat×Fz)):zA (sjR t j r)=zA r:=by cases r<;>rfl
theorem Zy {r:Option (α×Fz)} (h:r≠none):zh (sjR t j r)=(zh r).sj t j:=by
 cases r with
 |none=>exact absurd rfl h
 |some y=>rfl
theorem part_sj (r:Option ((Nat×Nat)×Fz)):YM (sjR t j r)=YM r:=by cases r<;>rfl
theorem ziO {r:Option ((Nat×Nat)×Fz)} (h:r≠none) (L:List UInt8):yL (sjR t j r) L=(yL r L).sj t j:=by
 cases r with
 |none=>exact absurd rfl h
 |some y=>rfl
theorem ZB (F:Fz):zi (F.sj t j)=sjR t j (zi F):=by
 unfold zi;show(match F.st with|[]=>none|n::r=>some (n,{F.sj t j with st:=r}))=_;cases F.st<;>rfl
theorem yT (n:Nat) (F:Fz):zl n (F.sj t j)=sjR t j (zl n F):=by
 unfold zl;show(if F.st.length=1024 then none else some ((),{F.sj t j with st:=n::F.st}))=_;by_cases h:F.st.length=1024
 ·rw[if_pos h,if_pos h];rfl
 ·rw[if_neg h,if_neg h];rfl
theorem zkw (c:Nat) (F:Fz):yC c (F.sj t j)=sjR t j (yC c F):=by
 unfold yC;show(if F.gas<c then none else some ((),{F.sj t j with gas:=F.gas - c}))=_;by_cases h:F.gas<c
 ·rw[if_pos h,if_pos h];rfl
 ·rw[if_neg h,if_neg h];rfl
theorem grow_sj (n:Nat) (F:Fz):yt n (F.sj t j)=sjR t j (yt n F):=by
 unfold yt;rw[zkw];show(if n<=zD F.mem.length then some ((),F.sj t j) else match sjR t j (yC (3*(n - zD F.mem.length)) F) with|none=>none|some (_,F1)=>some ((),{F1 with mem:=F1.mem++List.replicate (32*(n - zD F.mem.length)) 0}))=_;by_cases h:n<=zD F.mem.length
 ·rw[if_pos h,if_pos h];rfl
 ·rw[if_neg h,if_neg h];cases yC (3*(n - zD F.mem.length)) F<;>rfl
theorem yO (p n:Nat) (F:Fz):zk p n (F.sj t j)=sjR t j (zk p n F):=by
 unfold zk;rw[grow_sj];by_cases h:n%M=0
 ·rw[if_pos h,if_pos h];rfl
 ·rw[if_neg h,if_neg h];by_cases h2:Yq p n 65536
  ·rw[if_pos h2,if_pos h2];cases yt (zD (p%M+n%M)) F<;>rfl
  ·rw[if_neg h2,if_neg h2];rfl
theorem zgZ (F:Fz):∀n,Zd n (F.sj t j)=sjR t j (Zd n F)
 |0=>rfl
 |n+1=>by
  rw[Zd,Zd,zgZ F n];cases Zd n F with
  |none=>rfl
  |some y=>
   obtain⟨l,G⟩:=y;show(match zi (G.sj t j) with|none=>none|some (n,G')=>some (l++[n],G'))=sjR t j (match zi G with|none=>none|some (n,G')=>some (l++[n],G'));rw[ZB];cases zi G<;>rfl
theorem oper_sj (op:Nat) (F:Fz):zdQ op (F.sj t j)=sjR t j (zdQ op F):=by
 unfold zdQ;rw[zgZ];cases Zd (yr op) F with
 |none=>rfl
 |some y=>
  obtain⟨l,G⟩:=y;show(match(if op=10 then yC (10*(pl (l.getD 1 0) 0).length) (G.sj t j) else some ((),G.sj t j)) with|none=>none|some (_,G2)=>zl (zU op (l.getD 0 0%M) (l.getD 1 0%M) (l.getD 2 0%M)) G2)=sjR t j (match(if op=10 then yC (10*(pl (l.getD 1 0) 0).length) G else some ((),G)) with|none=>none|some (_,G2)=>zl (zU op (l.getD 0 0%M) (l.getD 1 0%M) (l.getD 2 0%M)) G2);by_cases h:op=10
  ·rw[if_pos h,if_pos h,zkw];cases yC (10*(pl (l.getD 1 0) 0).length) G with
   |none=>rfl
   |some z=>obtain⟨u,G2⟩:=z;exact yT _ G2
  ·rw[if_neg h,if_neg h];exact yT _ G
theorem zgK (n:Nat) (F:Fz):Z4 n (F.sj t j)=sjR t j (Z4 n F):=by
 unfold Z4;rw[yT];show(match sjR t j (zl (ofL (zS F.code (F.nx%M) n)) F) with|none=>none|some (_,F1)=>some ((),{F1 with nx:=F1.nx+n}))=_;cases zl (ofL (zS F.code (F.nx%M) n)) F<;>rfl
theorem dup_sj (n:Nat) (F:Fz):ziJ n (F.sj t j)=sjR t j (ziJ n F):=by
 unfold ziJ;rw[yT];show(if n<=F.st.length then sjR t j (zl (F.st.getD (n - 1) 0) F) else none)=_;by_cases h:n<=F.st.length
 ·rw[if_pos h,if_pos h]
 ·rw[if_neg h,if_neg h];rfl
theorem swap_sj (n:Nat) (F:Fz):zb6 n (F.sj t j)=sjR t j (zb6 n F):=by
 unfold zb6;show(if n<F.st.length then some ((),{F.sj t j with st:=zbz n F.st}) else none)=_;by_cases h:n<F.st.length
 ·rw[if_pos h,if_pos h];rfl
 ·rw[if_neg h,if_neg h];rfl
theorem end_sj (op:Nat) (F:Fz):zd2 op (F.sj t j)=sjR t j (zd2 op F):=by
 unfold zd2;by_cases h:op=0
 ·rw[if_pos h,if_pos h];rfl
 ·rw[if_neg h,if_neg h];show(match zi (Fz.sj {F with ended:=true} t j) with|none=>none|some (p,F1)=>match zi F1 with|none=>none|some (n,F2)=>match zk p n F2 with|none=>none|some ((a,b),F3)=>some ((),if op=253 then{F3 with out:=⟨(zP F3.mem a b).toArray⟩,status:=1} else{F3 with out:=⟨(zP F3.mem a b).toArray⟩}))=_;rw[ZB];cases zi {F with ended:=true} with
  |none=>rfl
  |some y=>
   obtain⟨p,F1⟩:=y;simp only[yS];rw[ZB];cases zi F1 with
   |none=>rfl
   |some z=>
    obtain⟨n,F2⟩:=z;simp only[yS];rw[yO];cases zk p n F2 with
    |none=>rfl
    |some q=>
     obtain⟨⟨a,b⟩,F3⟩:=q;simp only[yS];by_cases h2:op=253
     ·rw[if_pos h2,if_pos h2];rfl
     ·rw[if_neg h2,if_neg h2];rfl
theorem zkU (p:Nat) (F:Fz):zan p (F.sj t j)=sjR t j (zan p F):=by
 unfold zan;show(if (upB p F.code.size&&(jdL F.code).getD (p%M) false)=true then some ((),{F.sj t j with nx:=p%M}) else none)=_;by_cases h:(upB p F.code.size&&(jdL F.code).getD (p%M) false)=true
 ·rw[if_pos h,if_pos h];rfl
 ·rw[if_neg h,if_neg h];rfl
theorem zps (F:Fz):zbd (F.sj t j)=sjR t j (zbd F):=by
 unfold zbd;rw[ZB];refine Zu fun h=> ?_
 rw[yA,Zy h,zkU]
theorem zl2 (F:Fz):YE (F.sj t j)=sjR t j (YE F):=by
 unfold YE;simp only[zY,Zh,zE];rw[ZB];refine Zu fun h=> ?_
 rw[Zy h,ZB];refine Zu fun h2=> ?_
 rw[yA,yA,Zy h2];split
 ·rfl
 ·exact zkU _ _
theorem zi1 (F:Fz):yE (F.sj t j)=sjR t j (yE F):=by
 unfold yE;rw[ZB];refine Zu fun h=> ?_
 rw[yA,Zy h,yO];refine Zu fun h2=> ?_
 rw[part_sj,Zy h2,yT]
theorem zhC (F:Fz):ye (F.sj t j)=sjR t j (ye F):=by
 unfold ye;simp only[zY,Zh,zE];rw[ZB];refine Zu fun h=> ?_
 rw[Zy h,ZB];refine Zu fun h2=> ?_
 rw[yA,yA,Zy h2,yO];refine Zu fun h3=> ?_
 rw[ziO h3];rfl
theorem zhj (F:Fz):yf (F.sj t j)=sjR t j (yf F):=by
 unfold yf;simp only[zY,Zh,zE];rw[ZB];refine Zu fun h=> ?_
 rw[Zy h,ZB];refine Zu fun h2=> ?_
 rw[yA,yA,Zy h2,yO];refine Zu fun h3=> ?_
 rw[ziO h3];rfl
theorem zcW (src:ByteArray) (a b n:Nat) (F:Fz):Zq src a b n (F.sj t j)=sjR t j (Zq src a b n F):=by
 unfold Zq;rw[yO];cases zk a n F with
 |none=>rfl
 |some y=>
  obtain⟨⟨c,d⟩,F1⟩:=y;simp only[yS];show(if F1.gas<3*zD d then none else some ((),{F1.sj t j with gas:=F1.gas - 3*zD d,mem:=splice F1.mem c (zS src (b%M) d)}))=_;by_cases h:F1.gas<3*zD d
  ·rw[if_pos h,if_pos h];rfl
  ·rw[if_neg h,if_neg h];rfl
theorem zlW (a b n:Nat) (F:Fz):YR a b n (F.sj t j)=sjR t j (YR a b n F):=by
 unfold YR;rw[yO];cases zk b n F with
 |none=>rfl
 |some y=>
  obtain⟨⟨c,d⟩,F1⟩:=y;simp only[yS];rw[yO];cases zk a n F1 with
  |none=>rfl
  |some z=>
   obtain⟨⟨e,f⟩,F2⟩:=z;simp only[yS];show(if F2.gas<3*zD d then none else some ((),{F2.sj t j with gas:=F2.gas - 3*zD d,mem:=splice F2.mem e (zP F1.mem c d)}))=_;by_cases h:F2.gas<3*zD d
   ·rw[if_pos h,if_pos h];rfl
   ·rw[if_neg h,if_neg h];rfl
theorem zkv {F:Fz} {g:Nat->Nat->Nat->Fz->Option (Unit×Fz)} (hg:∀a b c G,g a b c (G.sj t j)=sjR t j (g a b c G)):by3 (F.sj t j) (g (zY (F.sj t j)) (Zh (F.sj t j)) (zci (F.sj t j)) (zaF (F.sj t j)))=sjR t j (by3 F (g (zY F) (Zh F) (zci F) (zaF F))):=by
 unfold by3;simp only[zY,Zh,zci,zE,zaF];rw[ZB];refine Zu fun h=> ?_
 rw[Zy h,ZB];refine Zu fun h2=> ?_
 rw[Zy h2,ZB];refine Zu fun h3=> ?_
 rw[yA,yA,yA,Zy h3];exact hg _ _ _ _
theorem zfR (src:ByteArray) (F:Fz):ZR src (F.sj t j)=sjR t j (ZR src F):=zkv (g:=fun a b c G=>Zq src a b c G) (fun a b c G=>zcW src a b c G)
theorem zjx (a b n:Nat) (F:Fz):zaf a b n (F.sj t j)=sjR t j (zaf a b n F):=by
 unfold zaf;show(if n%M≠0/\spB b n F.ret.size=false then none else Zq F.ret a b n (F.sj t j))=_;by_cases h:n%M≠0/\spB b n F.ret.size=false
 ·rw[if_pos h,if_pos h];rfl
 ·rw[if_neg h,if_neg h];exact zcW _ _ _ _ _
theorem zd3 (F:Fz):ZT (F.sj t j)=sjR t j (ZT F):=zkv (g:=fun a b c G=>zaf a b c G) (fun a b c G=>zjx a b c G)
theorem zfJ (F:Fz):yb (F.sj t j)=sjR t j (yb F):=zkv (g:=fun a b c G=>YR a b c G) (fun a b c G=>zlW a b c G)
theorem load_sj (kd:Nat) (F:Fz) (T:TS):zb7 kd (F.sj t j) T=sjR t j (zb7 kd F T):=by
 unfold zb7;rw[ZB];refine Zu fun h=> ?_
 rw[yA,Zy h,yT];rfl
theorem popV_sj (op:Nat) (F:Fz):Zt op (F.sj t j)=sjR t j (Zt op F):=by
 unfold Zt;split
 ·exact ZB F
 ·rfl
def sjT (t j:Value) (r:Option (Fz×TS)):Option (Fz×TS):=r.map fun y=>(y.1.sj t j,y.2)
theorem zi0 (kd:Nat) (F:Fz) (T:TS):yK kd (F.sj t j) T=sjT t j (yK kd F T):=by
 unfold yK;show(if F.ro=true then none else _)=_;by_cases h0:F.ro=true
 ·rw[if_pos h0,if_pos h0];rfl
 ·rw[if_neg h0,if_neg h0];simp only[zY,Zh,zE];rw[ZB];cases hp:zi F with
  |none=>rfl
  |some y=>
   obtain⟨a,F1⟩:=y;simp only[yS,zh,zA];rw[ZB];cases hp2:zi F1 with
   |none=>rfl
   |some z=>rfl
theorem logP_sj (self p l:Nat) (ts:List Nat) (F:Fz) (T:TS):zhz self p l ts (F.sj t j) T=sjR t j (zhz self p l ts F T):=by
 unfold zhz;rw[yO];cases zk p l F with
 |none=>rfl
 |some y=>
  obtain⟨⟨a,b⟩,F2⟩:=y;simp only[yS];show(if F2.gas<8*b then none else some (({T with logs:=T.logs++[⟨self,ts,ya (zP F2.mem a b)⟩]}:TS),({F2.sj t j with gas:=F2.gas - 8*b}:Fz)))=_;by_cases h:F2.gas<8*b
  ·rw[if_pos h,if_pos h];rfl
  ·rw[if_neg h,if_neg h];rfl
theorem logB_sj (n p l:Nat) (F:Fz) (T:TS):zfM n p l (F.sj t j) T=sjR t j (zfM n p l F T):=by
 unfold zfM;rw[zgZ];cases Zd n F with
 |none=>rfl
 |some y=>
  obtain⟨ts,F1⟩:=y;exact logP_sj F1.self p l ts F1 T
theorem log_sj (n:Nat) (F:Fz) (T:TS):zdF n (F.sj t j) T=sjR t j (zdF n F T):=by
 unfold zdF;show(if F.ro=true then none else _)=_;by_cases h0:F.ro=true
 ·rw[if_pos h0,if_pos h0];rfl
 ·rw[if_neg h0,if_neg h0];simp only[zY,Zh,zE];rw[ZB];refine Zu fun h=> ?_
  rw[Zy h,ZB];refine Zu fun h2=> ?_
  rw[yA,yA,Zy h2,logB_sj]
theorem zoc (wk:Wk) (op asked tt v:Nat) (data:ByteArray) (c d:Nat) (F:Fz) (T:TS):zbe wk op asked tt v data c d (F.sj t j) T=sjR t j (zbe wk op asked tt v data c d F T):=by
 unfold zbe
 show(if zal F T v=true then
  (yQ (Fz.sj {F with gas:=F.gas - Ze F asked} t j) (wk (zN op asked tt v data F T) T v F.self tt).1.st (wk (zN op asked tt v data F T) T v F.self tt).1.gas (wk (zN op asked tt v data F T) T v F.self tt).1.out c d).map fun y=>((wk (zN op asked tt v data F T) T v F.self tt).2,y.2)
 else(zl 0 (F.sj t j)).map fun y=>(T,y.2))=_
 by_cases h:zal F T v=true
 ·rw[if_pos h,if_pos h];unfold yQ;rw[show∀(G:Fz) g o,zeF (G.sj t j) g o c d=(zeF G g o c d).sj t j from fun _ _ _=>rfl,yT];cases zl _ _<;>rfl
 ·rw[if_neg h,if_neg h,yT];cases zl 0 F<;>rfl
theorem ziz (wk:Wk) (op asked tt v dp dl rp rl:Nat) (F:Fz) (T:TS):zaC wk op asked tt v dp dl rp rl (F.sj t j) T=sjR t j (zaC wk op asked tt v dp dl rp rl F T):=by
 unfold zaC;rw[yO];cases zk dp dl F with
 |none=>rfl
 |some y=>
  obtain⟨⟨a,b⟩,F2⟩:=y;simp only[yS];rw[yO];cases zk rp rl F2 with
  |none=>rfl
  |some z=>
   obtain⟨⟨c,d⟩,F3⟩:=z;exact zoc wk op asked tt v (ya (zP F2.mem a b)) c d {F3 with ret:=⟨#[]⟩} T
theorem zou (wk:Wk) (op asked tt v dp dl rp rl:Nat) (F:Fz) (T:TS):zcC wk op asked tt v dp dl rp rl (F.sj t j) T=sjR t j (zcC wk op asked tt v dp dl rp rl F T):=by
 unfold zcC zcl;show(match(if v%M=0 then some ((),F.sj t j) else if F.ro=true then none else yC 900 (F.sj t j)) with|none=>none|some (_,F1)=>zaC wk op asked tt v dp dl rp rl F1 T)=_;by_cases h:v%M=0
 ·rw[if_pos h,if_pos h];exact ziz ..
 ·rw[if_neg h,if_neg h];by_cases h2:F.ro=true
  ·rw[if_pos h2,if_pos h2];rfl
  ·rw[if_neg h2,if_neg h2,zkw];cases yC 900 F with
   |none=>rfl
   |some y=>obtain⟨u,F1⟩:=y;exact ziz ..
theorem call_sj (wk:Wk) (op:Nat) (F:Fz) (T:TS):Yl wk op (F.sj t j) T=sjR t j (Yl wk op F T):=by
 unfold Yl F3w;simp only[zY,Zh,zE];rw[ZB];refine Zu fun h1=> ?_
 rw[Zy h1,ZB];refine Zu fun h2=> ?_
 rw[Zy h2,popV_sj];refine Zu fun h3=> ?_
 rw[Zy h3,ZB];refine Zu fun h4=> ?_
 rw[Zy h4,ZB];refine Zu fun h5=> ?_
 rw[Zy h5,ZB];refine Zu fun h6=> ?_
 rw[Zy h6,ZB];refine Zu fun h7=> ?_
 simp only[yA];rw[Zy h7,zou]
end
end
section
open Go.Maps
def zbf (r:Option (Unit×Fz)) (T:TS):Option (Fz×TS):=r.map fun y=>(y.2,T)
def zeD (op:Nat) (F:Fz) (T:TS):Option (Unit×Fz):=
 if op=48 then zl F.self F else if op=49 then zK (zi F) (zl (T.acc (zA (zi F))).bal (zh (zi F)))
 else if op=51 then zl F.caller F else if op=52 then zl F.value F
 else if op=53 then zK (zi F) (zl (ofL (zS F.data (zA (zi F)%M) 32)) (zh (zi F)))
 else if op=54 then zl F.data.size F else if op=55 then ZR F.data F
 else if op=56 then zl F.code.size F else if op=57 then ZR F.code F
 else if op=61 then zl F.ret.size F else ZT F
def zdT (op:Nat) (F:Fz) (T:TS):Option (Unit×Fz):=
 if op=80 then zhu F else if op=81 then yE F else if op=82 then ye F else if op=83 then yf F
 else if op=84 then zb7 1 F T else if op=86 then zbd F else if op=87 then YE F else if op=88 then zl F.pc F
 else if op=89 then zl F.mem.length F else if op=90 then zl F.gas F else if op=91 then some ((),F)
 else if op=92 then zb7 2 F T else yb F
def ze1 (op:Nat) (F:Fz) (T:TS):Option (Fz×TS):=
 if op=85 then yK 1 F T else if op=93 then yK 2 F T else zbf (zdT op F T) T
def doM (wk:Wk) (op:Nat) (F:Fz) (T:TS):Option (Fz×TS):=
 if opN op=true then zbf (zdQ op F) T else if op<48 then zbf (zd2 op F) T else if op<80 then zbf (zeD op F T) T
 else if op<95 then ze1 op F T else if op<128 then zbf (Z4 (op - 95) F) T else if op<144 then zbf (ziJ (op - 128+1) F) T
 else if op<160 then zbf (zb6 (op - 144+1) F) T else if op<165 then zdu (zdF (op - 160) F T)
 else if op=241\/op=244\/op=250 then zdu (Yl wk op F T) else zbf (zd2 op F) T
def Zc (F:Fz) (c:Nat):Fz:={onF F with gas:=F.gas - c}
def Z6 (wk:Wk) (F:Fz) (T:TS):Option (Fz×TS):=match ZA (opF F) with
 |none=>none
 |some c=>if F.gas<c then none else doM wk (opF F) (Zc F c) T
section
variable {t j:Value}
theorem zkI (r:Option (Unit×Fz)) (T:TS):zbf (sjR t j r) T=sjT t j (zbf r T):=by cases r<;>rfl
theorem swp_sj (r:Option (TS×Fz)):zdu (sjR t j r)=sjT t j (zdu r):=by cases r<;>rfl
theorem surr_sj (op:Nat) (F:Fz) (T:TS):zeD op (F.sj t j) T=sjR t j (zeD op F T):=by
 unfold zeD
 have hp:zK (zi (F.sj t j)) (zl (T.acc (zA (zi (F.sj t j)))).bal (zh (zi (F.sj t j))))=sjR t j (zK (zi F) (zl (T.acc (zA (zi F))).bal (zh (zi F)))):=by
  rw[ZB];refine Zu fun h=> ?_
  rw[yA,Zy h,yT]
 have hq:zK (zi (F.sj t j)) (zl (ofL (zS F.data (zA (zi (F.sj t j))%M) 32)) (zh (zi (F.sj t j))))=sjR t j (zK (zi F) (zl (ofL (zS F.data (zA (zi F)%M) 32)) (zh (zi F)))):=by
  rw[ZB];refine Zu fun h=> ?_
  rw[yA,Zy h,yT]
 repeat' split
 all_goals first|exact yT _ _|exact hp|exact hq|exact zfR _ _|exact zd3 _
theorem popU_sj (F:Fz):zhu (F.sj t j)=sjR t j (zhu F):=by
 unfold zhu;rw[ZB];cases zi F<;>rfl
theorem zoA (op:Nat) (F:Fz) (T:TS):zdT op (F.sj t j) T=sjR t j (zdT op F T):=by
 have e1:(F.sj t j).pc=F.pc:=rfl;have e2:(F.sj t j).mem=F.mem:=rfl;have e3:(F.sj t j).gas=F.gas:=rfl;unfold zdT;simp only[apply_ite (sjR t j),popU_sj,zi1,zhC,zhj,load_sj,zps,zl2,e1,e2,e3,yT,zfJ,yS]
theorem zm2 (op:Nat) (F:Fz) (T:TS):ze1 op (F.sj t j) T=sjT t j (ze1 op F T):=by
 unfold ze1
 repeat' split
 ·exact zi0 _ _ _
 ·exact zi0 _ _ _
 ·rw[zoA,zkI]
theorem doM_sj (wk:Wk) (op:Nat) (F:Fz) (T:TS):doM wk op (F.sj t j) T=sjT t j (doM wk op F T):=by
 unfold doM;rw[oper_sj,end_sj,surr_sj,zm2,zgK,dup_sj,swap_sj,log_sj,call_sj];simp only[zkI,swp_sj]
 repeat' split
 all_goals rfl
theorem zpm (wk:Wk) (F:Fz) (T:TS):Z6 wk (F.sj t j) T=sjT t j (Z6 wk F T):=by
 unfold Z6;show(match ZA (opF F) with|none=>none|some c=>if F.gas<c then none else doM wk (opF F) ((Zc F c).sj t j) T)=_;cases ZA (opF F) with
 |none=>rfl
 |some c=>
  show(if F.gas<c then none else doM wk (opF F) ((Zc F c).sj t j) T)=sjT t j (if F.gas<c then none else doM wk (opF F) (Zc F c) T);by_cases h:F.gas<c
  ·rw[if_pos h,if_pos h];rfl
  ·rw[if_neg h,if_neg h,doM_sj]
end
def P5 (F F':Fz):Prop:=∃st mem gas,F'={F with st:=st,mem:=mem,gas:=gas}/\gas<=F.gas
theorem P5.refl (F:Fz):P5 F F:=⟨F.st,F.mem,F.gas,rfl,Nat.le_refl _⟩
theorem P5.trans {F G H:Fz} (h:P5 F G) (k:P5 G H):P5 F H:=by
 obtain⟨a,b,c,rfl,h1⟩:=h;obtain⟨a',b',c',rfl,h2⟩:=k;exact⟨a',b',c',rfl,Nat.le_trans h2 h1⟩
def PF5 {α:Type} (F:Fz) (r:Option (α×Fz)):Prop:=∀a F',r=some (a,F')->P5 F F'
section
variable {α β:Type}
theorem PF5.none (F:Fz):PF5 (α:=α) F none:=fun a F' h=>by cases h
theorem PF5.self (F:Fz) (a:α):PF5 F (some (a,F)):=fun a F' h=>by obtain⟨_,rfl⟩:=Prod.mk.inj (Option.some.inj h);exact P5.refl _
theorem PF5.then {F:Fz} {r:Option (α×Fz)} {k:Option (β×Fz)} (h:PF5 F r) (hk:r≠Option.none->PF5 (zh r) k):PF5 F (zK r k):=by
 cases r with
 |none=>exact PF5.none F
 |some y=>obtain⟨a,G⟩:=y;exact fun b F' e=>(h a G rfl).trans (hk (by simp) b F' e)
theorem Zf (F:Fz):PF5 F (zi F):=fun a F' h=>by
 unfold zi at h;split at h
 ·cases h
 ·obtain⟨_,rfl⟩:=Prod.mk.inj (Option.some.inj h);exact⟨_,F.mem,F.gas,rfl,Nat.le_refl _⟩
theorem yu (n:Nat) (F:Fz):PF5 F (zl n F):=fun a F' h=>by
 unfold zl at h;split at h
 ·cases h
 ·obtain⟨_,rfl⟩:=Prod.mk.inj (Option.some.inj h);exact⟨_,F.mem,F.gas,rfl,Nat.le_refl _⟩
theorem zgN (n:Nat) (F:Fz):PF5 F (yC n F):=fun a F' h=>by
 unfold yC at h;split at h
 ·cases h
 ·obtain⟨_,rfl⟩:=Prod.mk.inj (Option.some.inj h);exact⟨F.st,F.mem,_,rfl,Nat.sub_le _ _⟩
theorem pr_grow (n:Nat) (F:Fz):PF5 F (yt n F):=fun a F' h=>by
 unfold yt at h;split at h
 ·exact PF5.self F () a F' h
 ·split at h
  ·cases h
  ·rename_i u F1 hp;obtain⟨_,rfl⟩:=Prod.mk.inj (Option.some.inj h);exact(zgN _ F _ _ hp).trans ⟨_,_,_,rfl,Nat.le_refl _⟩
theorem yo (p n:Nat) (F:Fz):PF5 F (zk p n F):=fun a F' h=>by
 unfold zk at h;split at h
 ·exact PF5.self F _ a F' h
 ·split at h
  ·split at h
   ·cases h
   ·rename_i u F1 hp;obtain⟨_,rfl⟩:=Prod.mk.inj (Option.some.inj h);exact pr_grow _ F _ _ hp
  ·cases h
theorem zd9 (F:Fz):∀n,PF5 F (Zd n F)
 |0=>PF5.self F _
 |n+1=>fun a F' h=>by
  rw[Zd] at h;split at h
  ·cases h
  ·rename_i l G hp;split at h
   ·cases h
   ·rename_i m G' hp2;obtain⟨_,rfl⟩:=Prod.mk.inj (Option.some.inj h);exact(zd9 F n _ _ hp).trans (Zf G _ _ hp2)
theorem zk5 (op:Nat) (F:Fz):PF5 F (zdQ op F):=fun a F' h=>by
 unfold zdQ at h;split at h
 ·cases h
 ·rename_i l G hp;split at h
  ·cases h
  ·rename_i u G2 hq;refine(zd9 F _ _ _ hp).trans (P5.trans ?_ (yu _ G2 _ _ h));split at hq
   ·exact zgN _ G _ _ hq
   ·exact PF5.self G () _ _ hq
theorem zoC (n:Nat) (F:Fz):PF5 F (ziJ n F):=by
 unfold ziJ;split
 ·exact yu _ F
 ·exact PF5.none F
theorem zle (n:Nat) (F:Fz):PF5 F (zb6 n F):=fun a F' h=>by
 unfold zb6 at h;split at h
 ·obtain⟨_,rfl⟩:=Prod.mk.inj (Option.some.inj h);exact⟨_,F.mem,F.gas,rfl,Nat.le_refl _⟩
 ·cases h
theorem zo5 {F:Fz} {r:Option ((Nat×Nat)×Fz)} (h:PF5 F r) (hr:r≠Option.none) (L:List UInt8):P5 F (yL r L):=by
 cases r with
 |none=>exact absurd rfl hr
 |some y=>obtain⟨⟨a,b⟩,G⟩:=y;exact(h _ _ rfl).trans ⟨_,_,_,rfl,Nat.le_refl _⟩
theorem zcp (src:ByteArray) (a b n:Nat) (F:Fz):PF5 F (Zq src a b n F):=fun u F' h=>by
 unfold Zq at h;split at h
 ·cases h
 ·rename_i c d F1 hp;split at h
  ·cases h
  ·obtain⟨_,rfl⟩:=Prod.mk.inj (Option.some.inj h);exact(yo _ _ F _ _ hp).trans ⟨_,_,_,rfl,Nat.sub_le _ _⟩
theorem zl5 (a b n:Nat) (F:Fz):PF5 F (YR a b n F):=fun u F' h=>by
 unfold YR at h;split at h
 ·cases h
 ·rename_i c d F1 hp;split at h
  ·cases h
  ·rename_i e f F2 hp2;split at h
   ·cases h
   ·obtain⟨_,rfl⟩:=Prod.mk.inj (Option.some.inj h);exact((yo _ _ F _ _ hp).trans (yo _ _ F1 _ _ hp2)).trans ⟨_,_,_,rfl,Nat.sub_le _ _⟩
theorem zjN {F:Fz} {r:Option (Unit×Fz)} (h:PF5 (zaF F) r):PF5 F (by3 F r):=by
 unfold by3;exact(Zf F).then fun _=>(Zf _).then fun _=>(Zf _).then fun _=>h
theorem zlG (op:Nat) (F:Fz) (T:TS):PF5 F (zeD op F T):=by
 unfold zeD
 repeat' split
 all_goals first
  |exact yu _ F
  |exact(Zf F).then fun _=>yu _ _
  |exact zjN (zcp _ _ _ _ _)
  |(refine zjN ?_;unfold zaf;split;exact PF5.none _;exact zcp _ _ _ _ _)
def P6 (F F':Fz):Prop:=∃G n,P5 F G/\F'={G with nx:=n}/\(n=F.nx\/n<=F.code.size)
theorem P6.of {F F':Fz} (h:P5 F F'):P6 F F':=by
 obtain⟨a,b,c,rfl,h1⟩:=h;exact⟨_,F.nx,⟨a,b,c,rfl,h1⟩,rfl,Or.inl rfl⟩
theorem P6.pre {F G H:Fz} (h:P5 F G) (k:P6 G H):P6 F H:=by
 obtain⟨G',n,h1,h2,h3⟩:=k;refine⟨G',n,h.trans h1,h2, ?_⟩;obtain⟨a,b,c,rfl,_⟩:=h;exact h3
theorem zkW {p:Nat} {F F':Fz} {u:Unit} (h:zan p F=some (u,F')):P6 F F':=by
 unfold zan at h;split at h
 ·rename_i hb;obtain⟨_,rfl⟩:=Prod.mk.inj (Option.some.inj h);refine⟨F,p%M,P5.refl F,rfl,Or.inr ?_⟩;rw[Bool.and_eq_true] at hb;have:=hb.1;unfold upB at this;exact of_decide_eq_true this
 ·cases h
theorem zi4 (F:Fz):PF5 F (yE F):=(Zf F).then fun _=>(yo _ _ _).then fun _=>yu _ _
theorem zge (F:Fz) (n:Nat) (L:List UInt8):PF5 F (zK (zi F) (zK (zi (zh (zi F))) (zK (zk (zY F) n (zE F)) (some ((),yL (zk (zY F) n (zE F)) L))))):=by
 refine(Zf F).then fun h1=>(Zf _).then fun h2=> ?_
 intro a F' e;cases hr:zk (zY F) n (zE F) with
 |none=>rw[hr] at e;cases e
 |some y=>
  rw[hr] at e;obtain⟨_,rfl⟩:=Prod.mk.inj (Option.some.inj e);exact zo5 (hr▸yo (zY F) n (zE F)) (by simp) L
theorem zlD (kd:Nat) (F:Fz) (T:TS):PF5 F (zb7 kd F T):=(Zf F).then fun _=>yu _ _
theorem pr_popU (F:Fz):PF5 F (zhu F):=fun u F' h=>by
 unfold zhu at h;cases hp:zi F with
 |none=>rw[hp] at h;cases h
 |some y=>
  obtain⟨n,G⟩:=y;rw[hp] at h;obtain⟨_,rfl⟩:=Prod.mk.inj (Option.some.inj h);exact Zf F _ _ hp
theorem znG {F F':Fz} {u:Unit} (h:zbd F=some (u,F')):P6 F F':=by
 unfold zbd at h;cases hp:zi F with
 |none=>rw[hp] at h;cases h
 |some y=>
  obtain⟨n,G⟩:=y;rw[hp] at h;exact P6.pre (Zf F _ _ hp) (zkW h)
theorem zaQ {F F':Fz} {u:Unit} {c:Prop} [Decidable c] {a b:Option (Unit×Fz)} (ha:a=some (u,F')->P6 F F') (hb:b=some (u,F')->P6 F F') (h:(if c then a else b)=some (u,F')):P6 F F':=by
 split at h
 ·exact ha h
 ·exact hb h
theorem zky (y:α×Fz) (k:Option (β×Fz)):zK (some y) k=k:=rfl
theorem zlY (n:Nat) (F:Fz):zA (some (n,F))=n:=rfl
theorem zjK (a:α) (F:Fz):zh (some (a,F))=F:=rfl
theorem zlN {F F':Fz} {u:Unit} (h:YE F=some (u,F')):P6 F F':=by
 unfold YE at h;simp only[zY,Zh,zE] at h;cases hp:zi F with
 |none=>rw[hp] at h;cases h
 |some y=>
  obtain⟨n,G⟩:=y;rw[hp] at h;have h:zK (zi G) (if zA (zi G)%M=0 then some ((),zh (zi G)) else zan n (zh (zi G)))=some (u,F'):=h;cases hp2:zi G with
  |none=>rw[hp2] at h;cases h
  |some z=>
   obtain⟨m,H⟩:=z;rw[hp2] at h;simp only[zky,zlY,zjK] at h;refine P6.pre ((Zf F _ _ hp).trans (Zf G _ _ hp2)) ?_;exact zaQ (fun h=>P6.of (PF5.self H () _ _ h)) zkW h
theorem zhv (F:Fz):PF5 F (ye F):=zge F 32 (bys (Zh F) 0)
theorem zhk (F:Fz):PF5 F (yf F):=zge F 1 [zd5 (Zh F)]
theorem zfG (F:Fz):PF5 F (yb F):=zjN (zl5 _ _ _ _)
theorem zhZ {op:Nat} {F F':Fz} {T:TS} {u:Unit} (h:zdT op F T=some (u,F')):P6 F F':=by
 unfold zdT at h;exact zaQ (fun h=>P6.of (pr_popU F _ _ h)) (zaQ (fun h=>P6.of (zi4 F _ _ h)) (zaQ (fun h=>P6.of (zhv F _ _ h)) (zaQ (fun h=>P6.of (zhk F _ _ h)) (zaQ (fun h=>P6.of (zlD _ F T _ _ h)) (zaQ znG (zaQ zlN (zaQ (fun h=>P6.of (yu _ F _ _ h)) (zaQ (fun h=>P6.of (yu _ F _ _ h)) (zaQ (fun h=>P6.of (yu _ F _ _ h)) (zaQ (fun h=>P6.of (PF5.self F () _ _ h)) (zaQ (fun h=>P6.of (zlD _ F T _ _ h)) (fun h=>P6.of (zfG F _ _ h))))))))))))) h
end
end
section
open Go.Maps
structure Wf (F:Fz):Prop where
 cs:F.code.size<=1000
 ds:F.data.size<=65536
 rs:F.ret.size<=65536
 dp:F.depth<=16
 nx:F.nx<=3000
 pc:F.pc<=3000
structure WfT (T:TS):Prop where
 cs:∀a,(T.acc a).code.size<=1000
 ch:T.ch.length<10000000
 lo:T.logs.length<10000000
 kd:∀c∈T.ch,c.kind<3
theorem Out2.mono {r:Option (Fz×TS)} {base fb tb m m':Nat} {T:TS} {V:TV} {S:List Nat} {w w':World} {e:Ending} (h:Out2 r base fb tb T V S m w e w') (hm:m<=m'):Out2 r base fb tb T V S m' w e w':=by
 cases r with
 |none=>exact h
 |some y=>
  obtain⟨F',T'⟩:=y;obtain⟨h1,S',sv',mv',V',k1,k2,k3,k4,k5,k6⟩:=h;exact⟨h1,S',sv',mv',V',k1,k2,k3,k4,by omega,k6⟩
theorem P5.trail {F F':Fz} (h:P5 F F'):F'.trail=F.trail:=by obtain⟨a,b,c,rfl,_⟩:=h;rfl
theorem P6.trail {F F':Fz} (h:P6 F F'):F'.trail=F.trail:=by obtain⟨G,n,⟨a,b,c,rfl,_⟩,rfl,_⟩:=h;rfl
theorem zd1 {n:Nat} {F F':Fz} {u:Unit} (h:Z4 n F=some (u,F')):F'.trail=F.trail:=by
 unfold Z4 at h;split at h
 ·cases h
 ·rename_i hp;obtain⟨_,rfl⟩:=Prod.mk.inj (Option.some.inj h);exact(yu _ F _ _ hp).trail
theorem zgq {op:Nat} {F F':Fz} {u:Unit} (h:zd2 op F=some (u,F')):F'.trail=F.trail:=by
 unfold zd2 at h;split at h
 ·obtain⟨_,rfl⟩:=Prod.mk.inj (Option.some.inj h);rfl
 ·split at h
  ·cases h
  ·rename_i p F1 h1;split at h
   ·cases h
   ·rename_i n F2 h2;split at h
    ·cases h
    ·rename_i a b F3 h3;obtain⟨_,rfl⟩:=Prod.mk.inj (Option.some.inj h);have e:=((Zf _ _ _ h1).trans ((Zf _ _ _ h2).trans (yo _ _ _ _ _ h3))).trail;split<;>exact e
theorem cost_lo:∀op,op<256->ZA op≠none->opN op=false->op<48->op=0:=by decide
theorem zjR:((List.range 256).all fun op=>(ZA op).isNone||decide (op<48)||decide (80<=op)||([48,49,51,52,53,54,55,56,57,61,62]:List Nat).contains op)=true:=by kernel_rfl
theorem zgp (op:Nat) (ho:op<256) (hc:ZA op≠none) (h1:48<=op) (h2:op<80):op∈([48,49,51,52,53,54,55,56,57,61,62]:List Nat):=by
 have h:=List.all_eq_true.1 zjR op (List.mem_range.2 ho);rw[decide_eq_false (show¬op<48 by omega),decide_eq_false (show¬80<=op by omega)] at h;cases hn:ZA op with
 |none=>exact absurd hn hc
 |some c=>
  rw[hn] at h;simpa using h
theorem znc:((List.range 256).all fun op=>(ZA op).isNone||decide (op<165)||([241,244,250,243,253]:List Nat).contains op)=true:=by kernel_rfl
theorem cost_hi (op:Nat) (ho:op<256) (hc:ZA op≠none) (h1:165<=op):op=241\/op=244\/op=250\/op=243\/op=253:=by
 have h:=List.all_eq_true.1 znc op (List.mem_range.2 ho);rw[decide_eq_false (show¬op<165 by omega)] at h;cases hn:ZA op with
 |none=>exact absurd hn hc
 |some c=>
  rw[hn] at h;simpa using h
theorem cost_le:∀op,op<256->∀c,ZA op=some c->c<=1000:=by
 intro op ho c h;have:∀op,op<256->(ZA op).getD 0<=1000:=by decide
 have h2:=this op ho;rw[h] at h2;exact h2
theorem surr_I {base fb tb:Nat} {F:Fz} {T:TS} {S:List Nat} {sv mv:Value} {V:TV} (op:Nat) (hop:op<256) (hc:ZA op≠none) (h1:48<=op) (h2:op<80) (w:World) (h:FT base fb tb F T S sv mv V w) (hw:Wf F):
  Calls prog 233 #[.pointer (some ⟨fb,0,none⟩),.int .u8 (op:Int)] w (Out (zeD op F T) zx base fb S w):=by
 have hm:=zgp op hop hc h1 h2;have d1:=hw.ds;have d2:=hw.rs;have d3:=hw.cs;simp only[List.mem_cons,List.not_mem_nil,or_false] at hm;rcases hm with rfl|rfl|rfl|rfl|rfl|rfl|rfl|rfl|rfl|rfl|rfl
 ·exact surr_48 w h.fr
 ·exact surr_49 h.ptr h.dis h.fr.no0 w h.tr h.fr
 ·exact surr_51 w h.fr
 ·exact surr_52 w h.fr
 ·exact surr_53 (by omega) w h.fr
 ·exact surr_54 (by omega) w h.fr
 ·exact surr_55 (by omega) w h.fr
 ·exact surr_56 (by omega) w h.fr
 ·exact surr_57 (by omega) w h.fr
 ·exact surr_61 (by omega) w h.fr
 ·exact surr_62 (by omega) w h.fr
theorem keepU_I {base fb tb:Nat} {F:Fz} {T:TS} {S:List Nat} {sv mv:Value} {V:TV} (op:Nat) (h1:80<=op) (h2:op<95) (h3:op≠85) (h4:op≠93) (w:World) (h:FT base fb tb F T S sv mv V w) (hw:Wf F):
  Calls prog 234 #[.pointer (some ⟨fb,0,none⟩),.int .u8 (op:Int)] w (Out (zdT op F T) zx base fb S w):=by
 have d3:=hw.cs;have d4:=hw.pc;have hpl:∀r:Option (Unit×Fz),zaD (Out r zx base fb S w):=fun r e x ho=>zaY e x ho
 obtain hm:op=80\/op=81\/op=82\/op=83\/op=84\/op=86\/op=87\/op=88\/op=89\/op=90\/op=91\/op=92\/op=94:=by omega
 rcases hm with rfl|rfl|rfl|rfl|rfl|rfl|rfl|rfl|rfl|rfl|rfl|rfl|rfl
 ·exact zob w h.fr
 ·exact keep_81 fb w (hpl _) (zjD w h.fr)
 ·exact keep_82 fb w (hpl _) (ziL w h.fr)
 ·exact keep_83 fb w (hpl _) (zjc w h.fr)
 ·exact keep_84 fb w (hpl _) (zlJ 1 w h (fun x hx=>zdX F.self (zA (zi F)) x hx))
 ·exact keep_86 (by omega) w h.fr
 ·exact keep_87 fb w (hpl _) (znN (by omega) w h.fr)
 ·exact zpl (by omega) w h.fr
 ·exact zo9 (by have:=h.fr.mel;omega) w h.fr
 ·exact znj (by have:=h.fr.gal;omega) w h.fr
 ·exact(keep_91 fb w).mono fun e x ⟨h1,h2⟩=>⟨h1,by rw[h2];exact h.fr.to⟩
 ·exact keep_92 fb w (hpl _) (zlJ 2 w h (fun x hx=>zdJ F.self (zA (zi F)) x hx))
 ·exact keep_94 fb w (hpl _) (zgT w h.fr)
theorem ziV {op:Nat} {F F':Fz} {T:TS} {u:Unit} (h:zdT op F T=some (u,F')):F'.trail=F.trail:=(zhZ h).trail
theorem do_I {base fb tb:Nat} {F:Fz} {T:TS} {S:List Nat} {sv mv:Value} {V:TV} {m:Nat} (wk:Wk) (op:Nat) (hop:op<256) (hc:ZA op≠none) (w:World) (h:FT base fb tb F T S sv mv V w) (hw:Wf F) (hT:WfT T) (hm:2<=m) (hn:V.n+m<800000000000)
  (hwk:op=241\/op=244\/op=250->∀asked tt v data F',F'.depth=F.depth->F'.ro=F.ro->F'.self=F.self->F'.caller=F.caller->F'.value=F.value->F'.gas<=F.gas->data.size<=65536->zal F' T v=true->∀c d,Yl wk op F T=(yQ {F' with gas:=F'.gas - Ze F' asked} (wk (zN op asked tt v data F' T) T v F'.self tt).1.st (wk (zN op asked tt v data F' T) T v F'.self tt).1.gas (wk (zN op asked tt v data F' T) T v F'.self tt).1.out c d).map (fun y=>((wk (zN op asked tt v data F' T) T v F'.self tt).2,y.2))->WakeOk wk m (zN op asked tt v data F' T) T v F'.self tt):
  Calls prog 205 #[.pointer (some ⟨fb,0,none⟩),.int .u8 (op:Int)] w (Out2 (doM wk op F T) base fb tb T V S m w):=by
 have lu:∀{e x} {r:Option (Unit×Fz)},(∀F',r=some ((),F')->F'.trail=F.trail)->Out r zx base fb S w e x->Out2 (zbf r T) base fb tb T V S m w e x:=fun ht ho=>(h.lift' (α:=Unit) (val:=zx) ht ho).mono (Nat.zero_le _)
 have d1:=hw.cs;have d2:=hw.nx;have d3:=hw.dp;unfold doM;by_cases c1:opN op=true
 ·rw[if_pos c1];exact do_oper fb op (by omega) c1 w Zz ((zmA op (by omega) w h.fr).mono fun e x ho=>lu (fun F' e=>(zk5 op F _ _ e).trail) ho)
 rw[if_neg c1];have c1:opN op=false:=by simpa using c1
 by_cases c2:op<48
 ·rw[if_pos c2];obtain rfl:=cost_lo op hop hc c1 c2;exact znr fb 0 (Or.inl rfl) w Zz ((zko w h.fr).mono fun e x ho=>lu (fun F' e=>zgq e) ho)
 rw[if_neg c2];by_cases c3:op<80
 ·rw[if_pos c3]
  have h62:op<=62:=by
   have:=zgp op hop hc (by omega) c3;simp at this;omega
  exact do_surr fb op (by omega) h62 w Zz ((surr_I op hop hc (by omega) c3 w h hw).mono fun e x ho=>lu (fun F' e=>(zlG op F T _ _ e).trail) ho)
 rw[if_neg c3];by_cases c4:op<95
 ·rw[if_pos c4];refine do_keep fb op (by omega) (by omega) w Zz ?_;unfold ze1;by_cases e1:op=85
  ·rw[if_pos e1];subst e1;exact keep_85 fb w Zz ((ziQ 1 w h (fun key v x hx=>zjs F.self key v x hx (by have:=hT.ch;omega) (by omega))).mono fun e x ho=>ho.mono hm)
  rw[if_neg e1];by_cases e2:op=93
  ·rw[if_pos e2];subst e2;exact keep_93 fb w Zz ((ziQ 2 w h (fun key v x hx=>ziU F.self key v x hx (by have:=hT.ch;omega) (by omega))).mono fun e x ho=>ho.mono hm)
  rw[if_neg e2];exact(keepU_I op (by omega) c4 e1 e2 w h hw).mono fun e x ho=>lu (fun F' e=>ziV e) ho
 rw[if_neg c4];by_cases c5:op<128
 ·rw[if_pos c5];exact do_push fb op (by omega) (by omega) w Zz ((ziM (op - 95) (by omega) d1 (by omega) w h.fr).mono fun e x ho=>lu (fun F' e=>zd1 e) ho)
 rw[if_neg c5];by_cases c6:op<144
 ·rw[if_pos c6];refine do_dup fb op (by omega) (by omega) w Zz ?_;have h9:=dup_I (op - 128+1) (by omega) (by omega) w h.fr;rw[show((op - 128+1:Nat):Int)=((op - 128:Nat):Int)+1 by omega] at h9;exact h9.mono fun e x ho=>lu (fun F' e=>(zoC _ F _ _ e).trail) ho
 rw[if_neg c6];by_cases c7:op<160
 ·rw[if_pos c7];refine do_swap fb op (by omega) (by omega) w Zz ?_;have h9:=swap_I (op - 144+1) (by omega) w h.fr;rw[show((op - 144+1:Nat):Int)=((op - 144:Nat):Int)+1 by omega] at h9;exact h9.mono fun e x ho=>lu (fun F' e=>(zle _ F _ _ e).trail) ho
 rw[if_neg c7];by_cases c8:op<165
 ·rw[if_pos c8];exact do_log fb op (by omega) (by omega) w Zz ((log_I (op - 160) (by omega) w h (by have:=hT.lo;omega)).mono fun e x ho=>ho.mono (Nat.zero_le _))
 rw[if_neg c8];by_cases c9:op=241\/op=244\/op=250
 ·rw[if_pos c9];exact do_call fb op c9 w Zz (call_I wk op (by omega) w h (by omega) hT.cs (hwk c9) hn)
 rw[if_neg c9]
 have c10:op=243\/op=253:=by
  rcases cost_hi op hop hc (by omega) with e|e|e|e|e
  ·exact absurd (Or.inl e) c9
  ·exact absurd (Or.inr (Or.inl e)) c9
  ·exact absurd (Or.inr (Or.inr e)) c9
  ·exact Or.inl e
  ·exact Or.inr e
 exact znr fb op (Or.inr c10) w Zz ((zmb op c10 w h.fr).mono fun e x ho=>lu (fun F' e=>zgq e) ho)
end
section
open Go.Maps
theorem zjp {base fb tb m:Nat} {F:Fz} {T:TS} {S:List Nat} {sv mv:Value} {V:TV} (w:World) (h:FT base fb tb F T S sv mv V w) (hnx:F.nx<=1000000) (hcs:F.code.size<=1000) (hc:ZA (opF F)=none\/∃c,ZA (opF F)=some c/\c<=1000/\F.gas<c):
  Calls prog 158 #[.pointer (some ⟨fb,0,none⟩)] w (Out2 none base fb tb T V S m w):=by
 have c1:=h.fr.row.cell (i:=23) (by decide);have f1:=h.fr.row.frozen 23;have c2:=h.fr.row.cell (i:=22) (by decide);have f2:=h.fr.row.frozen 22;rw[show F.cell sv mv 23=.int .i64 (F.nx:Int) from rfl] at c1;rw[show F.cell sv mv 22=.int .i64 (F.pc:Int) from rfl] at c2;have HFT:=zb h
 have hop:opF F<=255:=by
  unfold opF;split
  ·have:=ze8 F.code F.nx;omega
  ·omega
 have HB:=zb (zc2 (opF F) hop);go_enter func158,ntmps158;go_wp2;have e1:(F.nx:Int)+1=((F.nx+1:Nat):Int):=by omega
 rw[e1]
 have hto:To base fb (onF F) S w ((w.setCell ⟨fb,22,none⟩ (.int .i64 (F.nx:Int))).setCell ⟨fb,23,none⟩ (.int .i64 ((F.nx+1:Nat):Int))):=
  (h.fr.set1 22 _ (zlk F sv mv F.nx) rfl rfl rfl rfl h.fr.gal).trans fun S1 sv1 mv1 h1=>h1.set1 23 _ (zeb _ sv1 mv1 (F.nx+1)) rfl rfl rfl rfl h.fr.gal
 obtain⟨S1,sv1,mv1,h1,h2,h3⟩:=hto;generalize((w.setCell ⟨fb,22,none⟩ (.int .i64 (F.nx:Int))).setCell ⟨fb,23,none⟩ (.int .i64 ((F.nx+1:Nat):Int)))=x at*;have hx:FT base fb tb (onF F) T S1 sv1 mv1 V x:=h.next rfl h1 h2 h3;have k1:=h1.row.cell (i:=22) (by decide);rw[show(onF F).cell sv1 mv1 22=.int .i64 (F.nx:Int) from rfl] at k1;have k2:=h1.row.cell (i:=1) (by decide);rw[show(onF F).cell sv1 mv1 1=.string F.code from rfl] at k2;have H2:=zb h2;have H3:=zb h3
 have HPAY:Hid (∀y c,Below x.heap.size x y->c<=1000->F.gas<c->Calls prog 204 #[.pointer (some ⟨fb,0,none⟩),.int .i64 (c:Int)] y (Out (none:Option (Unit×Fz)) zx base fb S1 y)):=fun y c hy hcl hg=>by
  have hp:=zhW c (by omega) y (h1.below hy);unfold yC at hp;rw[if_pos (show(onF F).gas<c from hg)] at hp;exact hp
 clear h1 h2 h3 hx h c1 f1 c2 f2 e1;have hl9:F.code.size<9223372036854775808:=by omega
 rcases hc with hc|⟨c,hc,hcl,hg⟩
 ·rw[hc] at HB;rw[show zcB none=.tuple #[.int .i64 0,.bool false] from rfl] at HB;by_cases hlt:F.nx<F.code.size
  ·have hopf:opF F=byt F.code F.nx:=if_pos hlt;have hd:decide ((F.nx:Int)<(F.code.size:Int))=true:=decide_eq_true (by omega);have hb:=zgV F.code F.nx hlt;rw[<-hopf] at hb;generalize opF F=op at*;clear hopf
   go_region
   go_wp2
   go_region
   go_wp2_with (first
    |(go_at_call 203;refine(HB.out _).mono ?_;rintro e w1 ⟨rfl,rfl⟩)
    |fail)
   exact⟨rfl,⟨_,_,rfl⟩,H2.out.below ((Below.refl _ x).drew.drew)⟩
  ·have hopf:opF F=0:=if_neg hlt;rw[hopf] at hc;exact absurd hc (by decide)
 ·rw[hc] at HB;have hco:(zcB (some c))=.tuple #[.int .i64 (c:Int),.bool true]:=rfl;rw[hco] at HB;clear hco;by_cases hlt:F.nx<F.code.size
  ·have hopf:opF F=byt F.code F.nx:=if_pos hlt;have hd:decide ((F.nx:Int)<(F.code.size:Int))=true:=decide_eq_true (by omega);have hb:=zgV F.code F.nx hlt;rw[<-hopf] at hb;generalize opF F=op at*;clear hopf
   go_region
   go_wp2
   go_region
   go_wp2_with (first
    |(go_at_call 203;refine(HB.out _).mono ?_;rintro e w1 ⟨rfl,rfl⟩)
    |fail)
   refine(HPAY.out _ c ((Below.refl _ x).drew.drew) hcl hg).mono ?_;rintro e y ⟨⟨u,pv,rfl⟩,hk⟩;exact⟨rfl,⟨_,_,rfl⟩,(H2.out.below ((Below.refl _ x).drew.drew)).trans hk H3.out⟩
  ·have hopf:opF F=0:=if_neg hlt;rw[hopf] at hc;have:ZA 0=some 0:=by decide
   rw[this] at hc;injection hc with hc
   omega
theorem step_I {F:Fz} {T:TS} {m:Nat} (wk:Wk) (hw:Wf F) (hn2:F.nx<=2000) (hT:WfT T) (hm:2<=m)
  (hwk:∀asked tt v data F',F'.depth=F.depth->F'.ro=F.ro->F'.self=F.self->F'.caller=F.caller->F'.value=F.value->F'.gas+100<=F.gas->data.size<=65536->zal F' T v=true->∀c d,
   Z6 wk F T=zdu ((yQ {F' with gas:=F'.gas - Ze F' asked} (wk (zN (opF F) asked tt v data F' T) T v F'.self tt).1.st (wk (zN (opF F) asked tt v data F' T) T v F'.self tt).1.gas (wk (zN (opF F) asked tt v data F' T) T v F'.self tt).1.out c d).map (fun y=>((wk (zN (opF F) asked tt v data F' T) T v F'.self tt).2,y.2)))->WakeOk wk m (zN (opF F) asked tt v data F' T) T v F'.self tt):zef F T m (Z6 wk F T):=by
 intro base fb tb S sv mv V w h hn
 have hop:opF F<256:=by
  unfold opF;split
  ·have:=ze8 F.code F.nx;omega
  ·omega
 have hcs:=hw.cs;have hnx:=hw.nx;unfold Z6 at hwk⊢;cases hc:ZA (opF F) with
 |none=>exact zjp w h (by omega) hcs (Or.inl hc)
 |some c=>
  have hcl:=cost_le (opF F) hop c hc;rw[hc] at hwk;dsimp only at hwk⊢;by_cases hp:F.gas<c
  ·rw[if_pos hp];exact zjp w h (by omega) hcs (Or.inr ⟨c,hc,hcl,hp⟩)
  ·rw[if_neg hp] at hwk⊢;refine step_of w h (by omega) hcs hc hcl (by omega) fun S1 sv1 mv1 x hx=> ?_
   refine do_I wk (opF F) hop (by rw[hc];simp) x hx ⟨hw.cs,hw.ds,hw.rs,hw.dp,by show F.nx+1<=3000;omega,hnx⟩ hT hm hn ?_;intro hcall asked tt v data F' e1 e2 e3 e4 e5 e6 e7 e8 c' d' e9
   have hc100:c=100:=by
    rcases hcall with e|e|e<;>rw[e] at hc<;>exact(Option.some.inj hc).symm
   have hno:opN (opF F)=false:=by rcases hcall with e|e|e<;>rw[e]<;>rfl
   have hdo:doM wk (opF F) (Zc F c) T=zdu (Yl wk (opF F) (Zc F c) T):=by
    unfold doM;rw[hno,if_neg (by simp),if_neg (by omega),if_neg (by omega),if_neg (by omega),if_neg (by omega),if_neg (by omega),if_neg (by omega),if_neg (by omega),if_pos hcall]
   exact hwk asked tt v data F' e1 e2 e3 e4 e5 (by have e6:F'.gas<=F.gas - c:=e6;omega) e7 e8 c' d' (hdo.trans (congrArg zdu e9))
end
section
open Go.Maps
structure Ext (T T':TS):Prop where
 ch:∃l,T'.ch=T.ch++l/\∀c∈l,c.kind<3
 lo:∃l,T'.logs=T.logs++l
 code:∀a,(T'.acc a).code=(T.acc a).code
theorem Ext.refl (T:TS):Ext T T:=⟨⟨[],by simp,by simp⟩,⟨[],by simp⟩,fun _=>rfl⟩
theorem Ext.trans {T U V:TS} (h:Ext T U) (k:Ext U V):Ext T V:=by
 obtain⟨l,h1,h2⟩:=h.ch;obtain⟨l',k1,k2⟩:=k.ch;obtain⟨m,h3⟩:=h.lo;obtain⟨m',k3⟩:=k.lo;refine⟨⟨l++l',by rw[k1,h1,List.append_assoc],fun c hc=>(List.mem_append.1 hc).elim (h2 c) (k2 c)⟩,⟨m++m',by rw[k3,h3,List.append_assoc]⟩,fun a=>(k.code a).trans (h.code a)⟩
theorem zfW {A:Nat->Acc} {a:Nat} {b:Acc} (hb:b.code=(A a).code) (hc:∀m,m%M=a%M->A m=A a) (m:Nat):(zO A a b m).code=(A m).code:=by
 by_cases e:m%M=a%M
 ·rw[Zx e,hb,hc m e]
 ·rw[Za e]
def ZF (T:TS):Prop:=∀m m',m%M=m'%M->T.acc m=T.acc m'
theorem zf7 {T:TS} (hT:ZF T) (k a key v:Nat) (m:Nat):((yN T k a key v).acc m).code=(T.acc m).code:=by
 unfold yN;split
 ·exact zfW (b:={T.acc a with bal:=v}) rfl (fun m e=>hT m a e) m
 ·split
  ·exact zfW (b:={T.acc a with slots:=yi (T.acc a).slots key v}) rfl (fun m e=>hT m a e) m
  ·rfl
theorem zf5 {T:TS} (hT:ZF T) (k a key v:Nat):ZF (yN T k a key v):=by
 unfold yN;intro m m' e;split
 ·exact zaK a _ e (hT m m' e)
 ·split
  ·exact zaK a _ e (hT m m' e)
  ·exact hT m m' e
theorem zc6 {T:TS} (hT:ZF T) (k a key v:Nat) (hk:k<3):Ext T (yY T k a key v)/\ZF (yY T k a key v):=by
 have hT':ZF {T with ch:=T.ch++[⟨k,a,key,zeA T k a key⟩]}:=hT;refine⟨⟨⟨[⟨k,a,key,zeA T k a key⟩], ?_,by simpa using hk⟩,⟨[], ?_⟩,fun m=> ?_⟩,zf5 hT' k a key v⟩
 ·exact(zbF _ k a key v).1
 ·rw[List.append_nil];exact(zbF _ k a key v).2
 ·exact zf7 hT' k a key v m
theorem zhy (T:TS) (k a key v:Nat):(yY T k a key v).ch.length=T.ch.length+1/\(yY T k a key v).logs=T.logs:=by
 refine⟨?_,(zbF _ k a key v).2⟩;unfold yY;rw[(zbF _ k a key v).1];simp
theorem zbs {T:TS} (hT:ZF T) (amt fr tt:Nat):Ext T (zM T amt fr tt)/\ZF (zM T amt fr tt)/\(zM T amt fr tt).ch.length=T.ch.length+2/\(zM T amt fr tt).logs=T.logs:=by
 have h1:=zc6 hT 0 fr 0 (zU 3 ((T.acc fr).bal%M) (amt%M) 0) (by omega);have h2:=zc6 h1.2 0 tt 0 (zU 1 (((yB T amt fr).acc tt).bal%M) (amt%M) 0) (by omega);have l1:=zhy T 0 fr 0 (zU 3 ((T.acc fr).bal%M) (amt%M) 0);have l2:=zhy (yB T amt fr) 0 tt 0 (zU 1 (((yB T amt fr).acc tt).bal%M) (amt%M) 0);refine⟨h1.1.trans h2.1,h2.2, ?_, ?_⟩
 ·show(yY (yB T amt fr) 0 tt 0 _).ch.length=_;rw[l2.1];show(yY T 0 fr 0 _).ch.length+1=_;rw[l1.1]
 ·show(yY (yB T amt fr) 0 tt 0 _).logs=_;rw[l2.2];exact l1.2
theorem zdl {T:TS} (hT:ZF T):∀l:List Chg,(∀m,((yv l T).acc m).code=(T.acc m).code)/\ZF (yv l T)
 |[]=>⟨fun _=>rfl,hT⟩
 |c::r=>by
  have ih:=zdl hT r;exact⟨fun m=>(zf7 ih.2 _ _ _ _ m).trans (ih.1 m),zf5 ih.2 _ _ _ _⟩
theorem zn4 {T T':TS} (hT:ZF T') (h:Ext T T') (st:Nat):Ext T (yP T T' st)/\ZF (yP T T' st):=by
 unfold yP;split
 ·exact⟨h,hT⟩
 ·obtain⟨l,h1,h2⟩:=h.ch;obtain⟨m,h3⟩:=h.lo;have hu:=zdl hT (T'.ch.drop T.ch.length);refine⟨⟨⟨[], ?_,by simp⟩,⟨[], ?_⟩,fun a=>(hu.1 a).trans (h.code a)⟩,hu.2⟩
  ·show T'.ch.take T.ch.length=_;rw[h1];simp
  ·show T'.logs.take T.logs.length=_;rw[h3];simp
theorem znf {T T':TS} (h:Ext T T') (st:Nat):(yP T T' st).ch.length<=T'.ch.length/\(yP T T' st).logs.length<=T'.logs.length:=by
 unfold yP;split
 ·exact⟨Nat.le_refl _,Nat.le_refl _⟩
 ·constructor
  ·show(T'.ch.take _).length<=_;rw[List.length_take];exact Nat.min_le_right _ _
  ·show(T'.logs.take _).length<=_;rw[List.length_take];exact Nat.min_le_right _ _
theorem Ext.len {T T':TS} (h:Ext T T'):T.ch.length<=T'.ch.length/\T.logs.length<=T'.logs.length:=by
 obtain⟨l,h1,_⟩:=h.ch;obtain⟨m,h3⟩:=h.lo;rw[h1,h3];simp
theorem zdy {p n a b:Nat} {F F1:Fz} (h:zk p n F=some ((a,b),F1)):b<=65536:=by
 unfold zk at h;split at h
 ·obtain⟨h1,_⟩:=Prod.mk.inj (Option.some.inj h);obtain⟨_,rfl⟩:=Prod.mk.inj h1;omega
 ·split at h
  ·rename_i hs;split at h
   ·cases h
   ·obtain⟨h1,_⟩:=Prod.mk.inj (Option.some.inj h);obtain⟨_,rfl⟩:=Prod.mk.inj h1;have:=hs.2.2;omega
  ·cases h
theorem zeO (m:List UInt8) (a b:Nat):(zP m a b).length<=b:=by unfold zP;rw[List.length_take];omega
structure Fx (F F':Fz):Prop where
 code:F'.code=F.code
 data:F'.data=F.data
 depth:F'.depth=F.depth
 self:F'.self=F.self
 caller:F'.caller=F.caller
 value:F'.value=F.value
 ro:F'.ro=F.ro
theorem Fx.trans {F G H:Fz} (h:Fx F G) (k:Fx G H):Fx F H:=⟨k.code.trans h.code,k.data.trans h.data,k.depth.trans h.depth,k.self.trans h.self,k.caller.trans h.caller,k.value.trans h.value,k.ro.trans h.ro⟩
theorem P5.fx {F F':Fz} (h:P5 F F'):Fx F F':=by obtain⟨a,b,c,rfl,_⟩:=h;exact⟨rfl,rfl,rfl,rfl,rfl,rfl,rfl⟩
theorem P5.more {F F':Fz} (h:P5 F F'):F'.gas<=F.gas/\F'.nx=F.nx/\F'.pc=F.pc/\F'.ret=F.ret/\F'.out=F.out/\F'.status=F.status/\F'.ended=F.ended:=by obtain⟨a,b,c,rfl,h1⟩:=h;exact⟨h1,rfl,rfl,rfl,rfl,rfl,rfl⟩
structure WkP (wk:Wk) (G:Fz) (T:TS) (v fr tt:Nat):Prop where
 ext:Ext T (wk G T v fr tt).2
 cong:ZF (wk G T v fr tt).2
 gas:(wk G T v fr tt).1.gas<=G.gas
 st:(wk G T v fr tt).1.st<=2
 os:(wk G T v fr tt).1.out.size<=65536
 bud:(wk G T v fr tt).2.ch.length+(wk G T v fr tt).2.logs.length+(wk G T v fr tt).1.gas<=T.ch.length+T.logs.length+2+G.gas
theorem Zj {α β:Type} {r:Option (α×Fz)} {k:Option (β×Fz)} {y:β×Fz} (h:zK r k=some y):r≠none/\k=some y:=by
 cases r with
 |none=>cases h
 |some z=>exact⟨by simp,h⟩
theorem PF5.next {α:Type} {F:Fz} {r:Option (α×Fz)} (h:PF5 F r) (hr:r≠Option.none):P5 F (zh r):=by
 cases r with
 |none=>exact absurd rfl hr
 |some y=>exact h y.1 y.2 rfl
theorem zkL (op:Nat) (F:Fz):PF5 F (Zt op F):=by
 unfold Zt;split
 ·exact Zf F
 ·exact PF5.self F _
theorem zjL {wk:Wk} {op:Nat} {F F':Fz} {T T':TS} (h:Yl wk op F T=some (T',F')):∃G,P5 F G/\
  ((T'=T/\P5 {G with ret:=⟨#[]⟩} F')\/∃asked tt v data c d,data.size<=65536/\zal {G with ret:=⟨#[]⟩} T v=true/\
   Yl wk op F T=(yQ {({G with ret:=⟨#[]⟩}:Fz) with gas:=G.gas - Ze {G with ret:=⟨#[]⟩} asked} (wk (zN op asked tt v data {G with ret:=⟨#[]⟩} T) T v G.self tt).1.st (wk (zN op asked tt v data {G with ret:=⟨#[]⟩} T) T v G.self tt).1.gas (wk (zN op asked tt v data {G with ret:=⟨#[]⟩} T) T v G.self tt).1.out c d).map (fun y=>((wk (zN op asked tt v data {G with ret:=⟨#[]⟩} T) T v G.self tt).2,y.2))):=by
 have hall:=h;have h0:=h;unfold Yl at h;obtain⟨r1,h⟩:=Zj h;obtain⟨r2,h⟩:=Zj h;obtain⟨r3,h⟩:=Zj h;obtain⟨r4,h⟩:=Zj h;obtain⟨r5,h⟩:=Zj h;obtain⟨r6,h⟩:=Zj h;obtain⟨r7,h⟩:=Zj h;have hp:P5 F (zE (zE (F3w op F))):=((Zf F).next r1).trans (((Zf _).next r2).trans (((zkL op _).next r3).trans (((Zf _).next r4).trans (((Zf _).next r5).trans (((Zf _).next r6).trans ((Zf _).next r7))))));generalize zE (zE (F3w op F))=F7 at*;unfold zcC at h;cases hv:zcl (zA (Zt op (zE F))) F7 with
 |none=>rw[hv] at h;cases h
 |some y=>
  obtain⟨u,F8⟩:=y;rw[hv] at h
  have hp8:P5 F F8:=by
   refine hp.trans ?_;unfold zcl at hv;split at hv
   ·exact PF5.self F7 () _ _ hv
   ·split at hv
    ·cases hv
    ·exact zgN _ F7 _ _ hv
  dsimp only at h;unfold zaC at h;split at h
  ·cases h
  ·rename_i a b F9 h9;split at h
   ·cases h
   ·rename_i c d F10 h10;have hpG:P5 F F10:=hp8.trans ((yo _ _ _ _ _ h9).trans (yo _ _ _ _ _ h10));refine⟨F10,hpG, ?_⟩;have hds:(ya (zP F9.mem a b)).size<=65536:=Nat.le_trans (zeO _ _ _) (zdy h9);have hc:=h;unfold zbe at h;split at h
    ·rename_i hmay;refine Or.inr ⟨zY F,Zh F,zA (Zt op (zE F)),ya (zP F9.mem a b),c,d,hds,hmay, ?_⟩;rw[hall];unfold zbe at hc;rw[if_pos hmay] at hc;exact hc.symm
    ·refine Or.inl ?_;cases hpu:zl 0 {F10 with ret:=⟨#[]⟩} with
     |none=>rw[hpu] at h;cases h
     |some z=>
      obtain⟨u,F11⟩:=z;rw[hpu] at h;obtain⟨rfl,rfl⟩:=Prod.mk.inj (Option.some.inj h);exact⟨rfl,yu _ _ _ _ hpu⟩
end
section
open Go.Maps
structure SI (F F':Fz) (T T':TS):Prop where
 fx:Fx F F'
 gas:F'.gas<=F.gas
 lt:F'.ended=false->F'.gas<F.gas
 nx:F'.ended=false->F'.nx<=1100
 pc:F'.pc<=1100
 rs:F'.ret.size<=65536
 os:F'.out.size<=65536
 st:F'.status<=1
 ext:Ext T T'
 cong:ZF T'
 bud:T'.ch.length+T'.logs.length+F'.gas<=T.ch.length+T.logs.length+F.gas
structure RunF (F:Fz):Prop where
 cs:F.code.size<=1000
 ds:F.data.size<=65536
 rs:F.ret.size<=65536
 dp:F.depth<=16
 nx:F.nx<=1100
 pc:F.pc<=1100
 os:F.out.size<=65536
 st:F.status<=1
theorem zmS:((List.range 256).all fun op=>decide (ZA op≠some 0)||([0,243,253]:List Nat).contains op)=true:=by kernel_rfl
theorem zah {op c:Nat} (ho:op<256) (hc:ZA op=some c) (h0:op≠0) (h1:op≠243) (h2:op≠253):1<=c:=by
 have h:=List.all_eq_true.1 zmS op (List.mem_range.2 ho);rw[hc] at h;cases c with
 |zero=>simp[h0,h1,h2] at h
 |succ n=>omega
theorem nx_lt {F:Fz} (h:opF F≠0):F.nx<F.code.size:=by
 unfold opF at h;split at h
 ·assumption
 ·exact absurd rfl h
theorem op_lt (F:Fz):opF F<256:=by
 unfold opF;split
 ·have:=ze8 F.code F.nx;omega
 ·omega
theorem zdP {F F':Fz} {T:TS} {c:Nat} (hr:RunF F) (hT:ZF T) (hc:1<=c) (hg:c<=F.gas) (hx:F.nx<F.code.size) (h:P5 (Zc F c) F'):SI F F' T T:=by
 obtain⟨m1,m2,m3,m4,m5,m6,m7⟩:=h.more;have hcs:=hr.cs;have m1:F'.gas<=F.gas - c:=m1;have m2:F'.nx=F.nx+1:=m2;have m3:F'.pc=F.nx:=m3;have m4:F'.ret=F.ret:=m4;have m5:F'.out=F.out:=m5;have m6:F'.status=F.status:=m6;exact⟨Fx.trans (G:=Zc F c) ⟨rfl,rfl,rfl,rfl,rfl,rfl,rfl⟩ h.fx,by omega,fun _=>by omega,fun _=>by omega,by omega,by rw[m4];exact hr.rs,by rw[m5];exact hr.os,by rw[m6];exact hr.st,Ext.refl T,hT,by omega⟩
theorem si_p6 {F F':Fz} {T:TS} {c:Nat} (hr:RunF F) (hT:ZF T) (hc:1<=c) (hg:c<=F.gas) (hx:F.nx<F.code.size) (h:P6 (Zc F c) F'):SI F F' T T:=by
 obtain⟨G,n,h1,rfl,h3⟩:=h;have hs:=zdP hr hT hc hg hx h1;refine⟨⟨hs.fx.code,hs.fx.data,hs.fx.depth,hs.fx.self,hs.fx.caller,hs.fx.value,hs.fx.ro⟩,hs.gas,hs.lt,fun _=> ?_,hs.pc,hs.rs,hs.os,hs.st,hs.ext,hs.cong,hs.bud⟩;have hcs:=hr.cs;show n<=1100;rcases h3 with e|e
 ·have e:n=F.nx+1:=e;omega
 ·have e:n<=F.code.size:=e;omega
theorem si_push {F F':Fz} {T:TS} {c n:Nat} {u:Unit} (hr:RunF F) (hT:ZF T) (hc:1<=c) (hg:c<=F.gas) (hx:F.nx<F.code.size) (hn:n<=32) (h:Z4 n (Zc F c)=some (u,F')):SI F F' T T:=by
 unfold Z4 at h;split at h
 ·cases h
 ·rename_i G hp;obtain⟨_,rfl⟩:=Prod.mk.inj (Option.some.inj h);have h1:=yu _ _ _ _ hp;have hs:=zdP hr hT hc hg hx h1;refine⟨⟨hs.fx.code,hs.fx.data,hs.fx.depth,hs.fx.self,hs.fx.caller,hs.fx.value,hs.fx.ro⟩,hs.gas,hs.lt,fun _=> ?_,hs.pc,hs.rs,hs.os,hs.st,hs.ext,hs.cong,hs.bud⟩;have hcs:=hr.cs;have e:G.nx=F.nx+1:=h1.more.2.1;show G.nx+n<=1100;omega
theorem znC {F F':Fz} {T:TS} {c op:Nat} {u:Unit} (hr:RunF F) (hT:ZF T) (hg:c<=F.gas) (h:zd2 op (Zc F c)=some (u,F')):SI F F' T T:=by
 have hnx:=hr.nx;unfold zd2 at h;split at h
 ·obtain⟨_,rfl⟩:=Prod.mk.inj (Option.some.inj h);exact⟨⟨rfl,rfl,rfl,rfl,rfl,rfl,rfl⟩,Nat.sub_le _ _,fun e=>(by cases e),fun e=>(by cases e),hnx,hr.rs,hr.os,hr.st,Ext.refl T,hT,by show _+(F.gas - c)<=_;omega⟩
 ·split at h
  ·cases h
  ·rename_i p F1 h1;split at h
   ·cases h
   ·rename_i n F2 h2;split at h
    ·cases h
    ·rename_i a b F3 h3;obtain⟨_,rfl⟩:=Prod.mk.inj (Option.some.inj h);have hp:=(Zf _ _ _ h1).trans ((Zf _ _ _ h2).trans (yo _ _ _ _ _ h3));obtain⟨m1,m2,m3,m4,m5,m6,m7⟩:=hp.more;have m1:F3.gas<=F.gas - c:=m1;have m3:F3.pc=F.nx:=m3;have m4:F3.ret=F.ret:=m4;have m6:F3.status=F.status:=m6;have m7:F3.ended=true:=m7
     have fx:Fx F F3:=by
      have q:=hp.fx;exact⟨q.code,q.data,q.depth,q.self,q.caller,q.value,q.ro⟩
     have hos:(⟨(zP F3.mem a b).toArray⟩:ByteArray).size<=65536:=Nat.le_trans (zeO _ _ _) (zdy h3)
     have key:∀F9:Fz,F9.code=F3.code->F9.data=F3.data->F9.depth=F3.depth->F9.self=F3.self->F9.caller=F3.caller->F9.value=F3.value->F9.ro=F3.ro->F9.gas=F3.gas->F9.ended=F3.ended->F9.pc=F3.pc->F9.ret=F3.ret->F9.out.size<=65536->F9.status<=1->SI F F9 T T:=by
      intro F9 e1 e2 e3 e4 e5 e6 e7 e8 e9 e10 e11 e12 e13;have ne:F9.ended=false->False:=fun e=>by rw[e9,m7] at e;cases e
      refine⟨⟨e1.trans fx.code,e2.trans fx.data,e3.trans fx.depth,e4.trans fx.self,e5.trans fx.caller,e6.trans fx.value,e7.trans fx.ro⟩,by omega,fun e=>(ne e).elim,fun e=>(ne e).elim,by omega, ?_,e12,e13,Ext.refl T,hT,by omega⟩;rw[e11,m4];exact hr.rs
     by_cases e253:op=253
     ·rw[if_pos e253];exact key _ rfl rfl rfl rfl rfl rfl rfl rfl rfl rfl rfl hos (Nat.le_refl _)
     ·rw[if_neg e253];exact key _ rfl rfl rfl rfl rfl rfl rfl rfl rfl rfl rfl hos (by show F3.status<=1;rw[m6];exact hr.st)
theorem zjg {F F':Fz} {T T':TS} {c kd:Nat} (hr:RunF F) (hT:ZF T) (hc:1<=c) (hg:c<=F.gas) (hx:F.nx<F.code.size) (hk:kd<3) (h:yK kd (Zc F c) T=some (F',T')):SI F F' T T':=by
 unfold yK at h;split at h
 ·cases h
 ·cases hq:(zK (zi (Zc F c)) (zK (zi (zh (zi (Zc F c)))) (some ((),zE (Zc F c))))) with
  |none=>rw[hq] at h;cases h
  |some y=>
   rw[hq] at h;obtain⟨r1,h1⟩:=Zj hq;obtain⟨r2,h2⟩:=Zj h1;obtain⟨rfl,rfl⟩:=Prod.mk.inj (Option.some.inj h);obtain rfl:=Option.some.inj h2;have hp:P5 (Zc F c) (zE (Zc F c)):=((Zf _).next r1).trans ((Zf _).next r2);have hs:=zdP (T:=T) hr hT hc hg hx hp;have he:=zc6 hT kd (Zc F c).self (zY (Zc F c)) (Zh (Zc F c)) hk;have hl:=zhy T kd (Zc F c).self (zY (Zc F c)) (Zh (Zc F c));have hg2:(zE (Zc F c)).gas<=F.gas - c:=hp.more.1;refine⟨hs.fx,hs.gas,hs.lt,hs.nx,hs.pc,hs.rs,hs.os,hs.st,he.1,he.2, ?_⟩;show(yY T kd (Zc F c).self (zY (Zc F c)) (Zh (Zc F c))).ch.length+(yY T kd (Zc F c).self (zY (Zc F c)) (Zh (Zc F c))).logs.length+(zE (Zc F c)).gas<=_;rw[hl.1,hl.2];omega
theorem si_log {F F':Fz} {T T':TS} {c n:Nat} (hr:RunF F) (hT:ZF T) (hc:1<=c) (hg:c<=F.gas) (hx:F.nx<F.code.size) (h:zdF n (Zc F c) T=some (T',F')):SI F F' T T':=by
 unfold zdF at h;split at h
 ·cases h
 ·obtain⟨r1,h⟩:=Zj h;obtain⟨r2,h⟩:=Zj h;have hp:P5 (Zc F c) (zE (Zc F c)):=((Zf _).next r1).trans ((Zf _).next r2);unfold zfM at h;split at h
  ·cases h
  ·rename_i ts F1 h1;unfold zhz at h;split at h
   ·cases h
   ·rename_i a b F2 h2;split at h
    ·cases h
    ·obtain⟨rfl,rfl⟩:=Prod.mk.inj (Option.some.inj h);have hp2:P5 (Zc F c) {F2 with gas:=F2.gas - 8*b}:=hp.trans ((zd9 _ _ _ _ h1).trans ((yo _ _ _ _ _ h2).trans ⟨F2.st,F2.mem,_,rfl,Nat.sub_le _ _⟩));have hs:=zdP (T:=T) hr hT hc hg hx hp2;have hg2:F2.gas - 8*b<=F.gas - c:=hp2.more.1;refine⟨hs.fx,hs.gas,hs.lt,hs.nx,hs.pc,hs.rs,hs.os,hs.st,⟨⟨[],by simp,by simp⟩,⟨_,rfl⟩,fun _=>rfl⟩,hT, ?_⟩;show T.ch.length+(T.logs++[_]).length+(F2.gas - 8*b)<=_;rw[List.length_append];show T.ch.length+(T.logs.length+1)+(F2.gas - 8*b)<=_;omega
theorem si_call {F F':Fz} {T T':TS} {c op:Nat} (wk:Wk) (hr:RunF F) (hT:ZF T) (hc:2<=c) (hg:c<=F.gas) (hx:F.nx<F.code.size) (h:Yl wk op (Zc F c) T=some (T',F'))
  (hwk:∀asked tt v data G,G.depth=F.depth->G.ro=F.ro->G.self=F.self->G.caller=F.caller->G.value=F.value->G.gas+c<=F.gas->data.size<=65536->zal G T v=true->WkP wk (zN op asked tt v data G T) T v G.self tt):SI F F' T T':=by
 obtain⟨G,hp,hor⟩:=zjL h;obtain⟨m1,m2,m3,m4,m5,m6,m7⟩:=hp.more;have hcs:=hr.cs;have m1:G.gas<=F.gas - c:=m1;have m2:G.nx=F.nx+1:=m2;have m3:G.pc=F.nx:=m3;have m5:G.out=F.out:=m5;have m6:G.status=F.status:=m6
 have fx:Fx F {G with ret:=⟨#[]⟩}:=by
  have:=Fx.trans (F:=F) (G:=Zc F c) ⟨rfl,rfl,rfl,rfl,rfl,rfl,rfl⟩ hp.fx;exact⟨this.code,this.data,this.depth,this.self,this.caller,this.value,this.ro⟩
 rcases hor with⟨rfl,h5⟩|⟨asked,tt,v,data,c',d',hds,hmay,he⟩
 ·obtain⟨n1,n2,n3,n4,n5,n6,n7⟩:=h5.more;have n1:F'.gas<=G.gas:=n1;have n2:F'.nx=G.nx:=n2;have n3:F'.pc=G.pc:=n3;have n4:F'.ret=⟨#[]⟩:=n4;have n5:F'.out=G.out:=n5;have n6:F'.status=G.status:=n6;exact⟨fx.trans h5.fx,by omega,fun _=>by omega,fun _=>by omega,by omega,by rw[n4];exact Nat.zero_le _,by rw[n5,m5];exact hr.os,by rw[n6,m6];exact hr.st,Ext.refl _,hT,by omega⟩
 ·have hW:=hwk asked tt v data {G with ret:=⟨#[]⟩} fx.depth fx.ro fx.self fx.caller fx.value (by show G.gas+c<=F.gas;omega) hds hmay;rw[he] at h
  have hgr:Ze {G with ret:=⟨#[]⟩} asked<=G.gas:=by
   unfold Ze zdZ;show(if asked%M<=G.gas - G.gas/64 then asked%M else G.gas - G.gas/64)<=_;split<;>omega
  have hgas:(wk (zN op asked tt v data {G with ret:=⟨#[]⟩} T) T v G.self tt).1.gas<=Ze {G with ret:=⟨#[]⟩} asked:=hW.gas;have hbud:(wk (zN op asked tt v data {G with ret:=⟨#[]⟩} T) T v G.self tt).2.ch.length+(wk (zN op asked tt v data {G with ret:=⟨#[]⟩} T) T v G.self tt).2.logs.length+(wk (zN op asked tt v data {G with ret:=⟨#[]⟩} T) T v G.self tt).1.gas<=T.ch.length+T.logs.length+2+Ze {G with ret:=⟨#[]⟩} asked:=hW.bud;have hos:(wk (zN op asked tt v data {G with ret:=⟨#[]⟩} T) T v G.self tt).1.out.size<=65536:=hW.os;have hext:Ext T (wk (zN op asked tt v data {G with ret:=⟨#[]⟩} T) T v G.self tt).2:=hW.ext;have hcong:ZF (wk (zN op asked tt v data {G with ret:=⟨#[]⟩} T) T v G.self tt).2:=hW.cong;generalize wk (zN op asked tt v data {G with ret:=⟨#[]⟩} T) T v G.self tt=W at*;generalize Ze {G with ret:=⟨#[]⟩} asked=gr at*;unfold yQ at h;cases hpu:zl (if W.1.st=0 then 1 else 0) (zeF {({G with ret:=⟨#[]⟩}:Fz) with gas:=G.gas - gr} W.1.gas W.1.out c' d') with
  |none=>rw[hpu] at h;cases h
  |some y=>
   obtain⟨u,F9⟩:=y;rw[hpu] at h;obtain⟨rfl,rfl⟩:=Prod.mk.inj (Option.some.inj h);have h5:=yu _ _ _ _ hpu;obtain⟨n1,n2,n3,n4,n5,n6,n7⟩:=h5.more;have n1:F9.gas<=G.gas - gr+W.1.gas:=n1;have n2:F9.nx=G.nx:=n2;have n3:F9.pc=G.pc:=n3;have n4:F9.ret=W.1.out:=n4;have n5:F9.out=G.out:=n5;have n6:F9.status=G.status:=n6;have fx2:=h5.fx;have fx2:Fx {G with ret:=⟨#[]⟩} F9:=⟨fx2.code,fx2.data,fx2.depth,fx2.self,fx2.caller,fx2.value,fx2.ro⟩;show SI F F9 T W.2;exact⟨fx.trans fx2,by omega,fun _=>by omega,fun _=>by omega,by omega,by rw[n4];exact hos,by rw[n5,m5];exact hr.os,by rw[n6,m6];exact hr.st,hext,hcong,by omega⟩
theorem ZD {r:Option (Unit×Fz)} {T T':TS} {F':Fz} (h:zbf r T=some (F',T')):r=some ((),F')/\T'=T:=by
 cases r with
 |none=>cases h
 |some y=>obtain⟨u,G⟩:=y;obtain⟨rfl,rfl⟩:=Prod.mk.inj (Option.some.inj h);exact⟨rfl,rfl⟩
theorem zcU {r:Option (TS×Fz)} {T':TS} {F':Fz} (h:zdu r=some (F',T')):r=some (T',F'):=by
 cases r with
 |none=>cases h
 |some y=>obtain⟨u,G⟩:=y;obtain⟨rfl,rfl⟩:=Prod.mk.inj (Option.some.inj h);rfl
theorem zoY {F F':Fz} {T T':TS} (wk:Wk) (hr:RunF F) (hT:ZF T) (h:Z6 wk F T=some (F',T'))
  (hwk:∀asked tt v data G,G.depth=F.depth->G.ro=F.ro->G.self=F.self->G.caller=F.caller->G.value=F.value->G.gas+100<=F.gas->data.size<=65536->zal G T v=true->WkP wk (zN (opF F) asked tt v data G T) T v G.self tt):SI F F' T T':=by
 have hop:=op_lt F;unfold Z6 at h;cases hc:ZA (opF F) with
 |none=>rw[hc] at h;cases h
 |some c=>
  rw[hc] at h;dsimp only at h;split at h
  ·cases h
  rename_i hg;have hg:c<=F.gas:=by omega
  unfold doM at h;split at h
  ·rename_i c1;obtain⟨hh,rfl⟩:=ZD h;have h0:opF F≠0:=fun e=>by rw[e] at c1;cases c1
   exact zdP hr hT (zah hop hc h0 (fun e=>by rw[e] at c1;cases c1) (fun e=>by rw[e] at c1;cases c1)) hg (nx_lt h0) (zk5 _ _ _ _ hh)
  split at h
  ·obtain⟨hh,rfl⟩:=ZD h;exact znC hr hT hg hh
  rename_i c2;have h0:opF F≠0:=by omega
  have hx:=nx_lt h0;split at h
  ·obtain⟨hh,rfl⟩:=ZD h;exact zdP hr hT (zah hop hc h0 (by omega) (by omega)) hg hx (zlG _ _ _ _ _ hh)
  split at h
  ·have hp:=zah hop hc h0 (by omega) (by omega);unfold ze1 at h;split at h
   ·exact zjg hr hT hp hg hx (by omega) h
   split at h
   ·exact zjg hr hT hp hg hx (by omega) h
   ·obtain⟨hh,rfl⟩:=ZD h;exact si_p6 hr hT hp hg hx (zhZ hh)
  split at h
  ·obtain⟨hh,rfl⟩:=ZD h;exact si_push hr hT (zah hop hc h0 (by omega) (by omega)) hg hx (by omega) hh
  split at h
  ·obtain⟨hh,rfl⟩:=ZD h;exact zdP hr hT (zah hop hc h0 (by omega) (by omega)) hg hx (zoC _ _ _ _ hh)
  split at h
  ·obtain⟨hh,rfl⟩:=ZD h;exact zdP hr hT (zah hop hc h0 (by omega) (by omega)) hg hx (zle _ _ _ _ hh)
  split at h
  ·exact si_log hr hT (zah hop hc h0 (by omega) (by omega)) hg hx (zcU h)
  split at h
  ·rename_i hcall
   have hc100:c=100:=by
    rcases hcall with e|e|e<;>rw[e] at hc<;>exact(Option.some.inj hc).symm
   subst hc100;exact si_call wk hr hT (by omega) hg hx (zcU h) hwk
  ·obtain⟨hh,rfl⟩:=ZD h;exact znC hr hT hg hh
end
section
open Go.Maps
def zJ (wk:Wk):Nat->Fz->TS->Option Fz×TS
 |0,F,T=>(none,T)
 |n+1,F,T=>if F.ended=true then(some F,T) else match Z6 wk F T with
  |none=>(none,T)
  |some (F',T')=>zJ wk n F' T'
def outM (o:Option Fz):Res:=⟨zay o,zaM o,ziZ o⟩
def wkM:Nat->Wk
 |0=>fun _ T _ _ _=>(⟨2,0,⟨#[]⟩⟩,T)
 |d+1=>fun G T v fr tt=>(outM (zJ (wkM d) (G.gas+2) G (zM T v fr tt)).1,yP T (zJ (wkM d) (G.gas+2) G (zM T v fr tt)).2 (zay (zJ (wkM d) (G.gas+2) G (zM T v fr tt)).1))
section
variable {t j:Value}
theorem zk1 (wk:Wk):∀(n:Nat) (F:Fz) (T:TS),zJ wk n (F.sj t j) T=((zJ wk n F T).1.map (fun G=>G.sj t j),(zJ wk n F T).2)
 |0,F,T=>rfl
 |n+1,F,T=>by
  rw[zJ,zJ];show(if F.ended=true then _ else _)=_;by_cases h:F.ended=true
  ·rw[if_pos h,if_pos h];rfl
  ·rw[if_neg h,if_neg h,zpm];cases Z6 wk F T with
   |none=>rfl
   |some y=>exact zk1 wk n y.1 y.2
theorem zkT (o:Option Fz):zay (o.map fun G=>G.sj t j)=zay o:=by cases o<;>rfl
theorem zlK (o:Option Fz):zaM (o.map fun G=>G.sj t j)=zaM o:=by cases o<;>rfl
theorem resO_sj (o:Option Fz):ziZ (o.map fun G=>G.sj t j)=ziZ o:=by cases o<;>rfl
end
structure GoodT (T:TS):Prop where
 cong:ZF T
 cs:∀a,(T.acc a).code.size<=1000
 kd:∀c∈T.ch,c.kind<3
theorem GoodT.ext {T T':TS} (h:GoodT T) (he:Ext T T') (hc:ZF T'):GoodT T':=by
 refine⟨hc,fun a=>by rw[he.code a];exact h.cs a,fun c hm=> ?_⟩;obtain⟨l,h1,h2⟩:=he.ch;rw[h1] at hm;exact(List.mem_append.1 hm).elim (h.kd c) (h2 c)
def zgk (wk:Wk) (A dep:Nat):Prop:=∀G T v fr tt,RunF G->dep<G.depth->G.gas<=100000->GoodT T->T.ch.length+T.logs.length+2+G.gas<=1000000->
 WkP wk G T v fr tt/\WakeOk wk (A*(G.gas - (wk G T v fr tt).1.gas)+10) G T v fr tt
theorem WakeOk.mono {wk:Wk} {m m':Nat} {G:Fz} {T:TS} {v fr tt:Nat} (h:WakeOk wk m G T v fr tt) (hm:m<=m'):WakeOk wk m' G T v fr tt:=by
 obtain⟨h1,h2,h3⟩:=h;refine⟨h1,h2,fun base gb tb jd V x hx hn=>(h3 base gb tb jd V x hx (by omega)).mono ?_⟩;rintro e x' ⟨he,V',S2,k1,k2,k3,k4,k5,k6⟩;exact⟨he,V',S2,k1,k2,k3,k4,by omega,k6⟩
theorem zde {op asked tt v:Nat} {data:ByteArray} {G:Fz} {T:TS} (hd:data.size<=65536) (hm:zal G T v=true) (hT:GoodT T):RunF (zN op asked tt v data G T):=by
 unfold zal at hm;rw[Bool.and_eq_true] at hm;have hdp:G.depth<16:=of_decide_eq_true hm.1;exact⟨hT.cs tt,hd,Nat.zero_le _,hdp,Nat.zero_le _,Nat.zero_le _,Nat.zero_le _,Nat.zero_le _⟩
theorem zcu (G:Fz) (asked:Nat):Ze G asked<=G.gas:=by
 unfold Ze zdZ;split<;>omega
def costS (A:Nat) (F:Fz):Option (Fz×TS)->Nat
 |none=>A*F.gas+2
 |some (F',_)=>A*(F.gas - F'.gas)+(if F'.ended=true then 2 else 0)
theorem zbN {wk:Wk} {A dep:Nat} {F:Fz} {T:TS} (hA:2<=A) (hW:zgk wk A dep) (hr:RunF F) (hd:dep<=F.depth) (hg:F.gas<=100000) (hT:GoodT T) (hb:T.ch.length+T.logs.length+F.gas<=1000000):
  zef F T (costS A F (Z6 wk F T)) (Z6 wk F T)/\∀F' T',Z6 wk F T=some (F',T')->SI F F' T T':=by
 have hW2:∀asked tt v data G,G.depth=F.depth->G.gas+100<=F.gas->data.size<=65536->zal G T v=true->WkP wk (zN (opF F) asked tt v data G T) T v G.self tt/\WakeOk wk (A*(Ze G asked - (wk (zN (opF F) asked tt v data G T) T v G.self tt).1.gas)+10) (zN (opF F) asked tt v data G T) T v G.self tt:=by
  intro asked tt v data G e1 e6 e7 e8;have hgl:=zcu G asked;refine hW (zN (opF F) asked tt v data G T) T v G.self tt (zde e7 e8 hT) (by show dep<G.depth+1;omega) (by show Ze G asked<=_;omega) hT (by show T.ch.length+T.logs.length+2+Ze G asked<=_;omega)
 have hsi:∀F' T',Z6 wk F T=some (F',T')->SI F F' T T':=fun F' T' h=>zoY wk hr hT.cong h fun asked tt v data G e1 e2 e3 e4 e5 e6 e7 e8=>(hW2 asked tt v data G e1 e6 e7 e8).1
 refine⟨?_,hsi⟩;have hnx:=hr.nx;have hpc:=hr.pc;refine step_I wk ⟨hr.cs,hr.ds,hr.rs,hr.dp,by omega,by omega⟩ (by omega) ⟨hT.cs,by omega,by omega,hT.kd⟩ ?_ ?_
 ·cases hs:Z6 wk F T with
  |none=>show 2<=A*F.gas+2;omega
  |some y=>
   obtain⟨F',T'⟩:=y;have h:=hsi F' T' hs;show 2<=A*(F.gas - F'.gas)+(if F'.ended=true then 2 else 0);split
   ·omega
   ·rename_i he;have hl:=h.lt (by simpa using he);have:A*1<=A*(F.gas - F'.gas):=Nat.mul_le_mul_left A (by omega);omega
 ·intro asked tt v data F' e1 e2 e3 e4 e5 e6 e7 e8 c d e9;obtain⟨w1,w2⟩:=hW2 asked tt v data F' e1 e6 e7 e8;have hgl:=zcu F' asked;refine w2.mono ?_;have hwg:(wk (zN (opF F) asked tt v data F' T) T v F'.self tt).1.gas<=Ze F' asked:=w1.gas;generalize wk (zN (opF F) asked tt v data F' T) T v F'.self tt=W at*;rw[e9];unfold yQ;cases hpu:zl (if W.1.st=0 then 1 else 0) (zeF {F' with gas:=F'.gas - Ze F' asked} W.1.gas W.1.out c d) with
  |none=>
   show _<=A*F.gas+2;have h1:A*(Ze F' asked - W.1.gas+100)<=A*F.gas:=Nat.mul_le_mul_left A (by omega);rw[Nat.mul_add] at h1;omega
  |some y=>
   obtain⟨u,F9⟩:=y;have hg9:F9.gas<=F'.gas - Ze F' asked+W.1.gas:=(yu _ _ _ _ hpu).more.1;show _<=A*(F.gas - F9.gas)+(if F9.ended=true then 2 else 0);have h1:A*(Ze F' asked - W.1.gas+100)<=A*(F.gas - F9.gas):=Nat.mul_le_mul_left A (by omega);rw[Nat.mul_add] at h1;omega
theorem zfd {wk:Wk} {A dep:Nat} (hA:2<=A) (hW:zgk wk A dep):∀(n:Nat) (F:Fz) (T:TS),(F.ended=false->F.gas+2<=n)->1<=n->RunF F->dep<=F.depth->F.gas<=100000->GoodT T->T.ch.length+T.logs.length+F.gas<=1000000->
  (∃k m,Chain2 k m F T (zJ wk n F T).1 (zJ wk n F T).2/\m<=A*(F.gas - zaM (zJ wk n F T).1)+2)/\zaM (zJ wk n F T).1<=F.gas/\Ext T (zJ wk n F T).2/\ZF (zJ wk n F T).2/\zay (zJ wk n F T).1<=2/\(ziZ (zJ wk n F T).1).size<=65536/\(zJ wk n F T).2.ch.length+(zJ wk n F T).2.logs.length+zaM (zJ wk n F T).1<=T.ch.length+T.logs.length+F.gas
 |0,F,T,_,h1,_,_,_,_,_=>by omega
 |n+1,F,T,hn,h1,hr,hd,hg,hT,hb=>by
  rw[zJ];by_cases he:F.ended=true
  ·rw[if_pos he];exact⟨⟨0,0,.done he,Nat.zero_le _⟩,Nat.le_refl _,Ext.refl T,hT.cong,Nat.le_trans hr.st (by omega),hr.os,Nat.le_refl _⟩
  ·rw[if_neg he];have he:F.ended=false:=by simpa using he
   obtain⟨s1,s2⟩:=zbN hA hW hr hd hg hT hb;cases hs:Z6 wk F T with
   |none=>
    rw[hs] at s1;exact⟨⟨1,_,.fail he s1,by show A*F.gas+2<=A*(F.gas - 0)+2;simp⟩,Nat.zero_le _,Ext.refl T,hT.cong,Nat.le_refl _,Nat.zero_le _,by show T.ch.length+T.logs.length+0<=_;omega⟩
   |some y=>
    obtain⟨F',T'⟩:=y;rw[hs] at s1;have h:=s2 F' T' hs;dsimp only;have hT':=hT.ext h.ext h.cong;have hgn:F'.gas<=F.gas:=h.gas;have hbud:=h.bud;have hfx:=h.fx;have hn0:=hn he
    have hr':RunF F'\/F'.ended=true:=by
     by_cases e:F'.ended=true
     ·exact Or.inr e
     ·have e:F'.ended=false:=by simpa using e
      exact Or.inl ⟨by rw[hfx.code];exact hr.cs,by rw[hfx.data];exact hr.ds,h.rs,by rw[hfx.depth];exact hr.dp,h.nx e,h.pc,h.os,h.st⟩
    rcases hr' with hr'|e
    ·obtain⟨⟨k,m,i1,i2⟩,i3,i4,i5,i6,i7,i8⟩:=zfd hA hW n F' T' (fun e=>by have:=h.lt e;omega) (by omega) hr' (by rw[hfx.depth];exact hd) (by omega) hT' (by omega);refine⟨⟨k+1,_,.step he s1 i1, ?_⟩,Nat.le_trans i3 hgn,h.ext.trans i4,i5,i6,i7,by omega⟩;show A*(F.gas - F'.gas)+(if F'.ended=true then 2 else 0)+m<=_
     have hm1:A*(F.gas - zaM (zJ wk n F' T').1)=A*(F.gas - F'.gas)+A*(F'.gas - zaM (zJ wk n F' T').1):=by
      rw[<-Nat.mul_add];congr 1;omega
     rw[hm1];split
     ·rename_i e;cases n with
      |zero=>omega
      |succ n=>
       rw[zJ,if_pos e] at i1 i2⊢;cases k with
       |zero=>have:=i1.1;omega
       |succ k=>have e2:=i1.1;rw[e] at e2;cases e2
     ·omega
    ·cases n with
     |zero=>omega
     |succ n=>
      rw[zJ,if_pos e];refine⟨⟨1,_,.step he s1 (.done e), ?_⟩,hgn,h.ext,h.cong,Nat.le_trans h.st (by omega),h.os,by show T'.ch.length+T'.logs.length+F'.gas<=_;omega⟩;show A*(F.gas - F'.gas)+(if F'.ended=true then 2 else 0)+0<=A*(F.gas - F'.gas)+2;rw[if_pos e];omega
theorem zdt:∀d,d<=16->zgk (wkM d) (2*d+2) (16 - d)
 |0,_=>fun G T v fr tt hr hd=>by have:=hr.dp;omega
 |d+1,h16=>fun G T v fr tt hr hd hg hT hb=>by
  have ih:=zdt d (by omega);obtain⟨e1,e2,e3,e4⟩:=zbs hT.cong v fr tt;have hTm:=hT.ext e1 e2;have key:∀t j,_:=fun(t j:Value)=>zfd (by omega) ih (G.gas+2) (G.sj t j) (zM T v fr tt) (fun _=>Nat.le_refl _) (by omega) ⟨hr.cs,hr.ds,hr.rs,hr.dp,hr.nx,hr.pc,hr.os,hr.st⟩ (by show 16 - d<=G.depth;omega) hg hTm (by show(zM T v fr tt).ch.length+(zM T v fr tt).logs.length+G.gas<=_;rw[e3,e4];omega)
  have hk0:=key G.trail G.jd;have hG:G.sj G.trail G.jd=G:=rfl;rw[hG] at hk0;obtain⟨_,k3,k4,k5,k6,k7,k8⟩:=hk0;rw[e3,e4] at k8;have hE:=e1.trans k4;have hX:=zn4 k5 hE (zay (zJ (wkM d) (G.gas+2) G (zM T v fr tt)).1);have hL:=znf hE (zay (zJ (wkM d) (G.gas+2) G (zM T v fr tt)).1);refine⟨⟨hX.1,hX.2,k3,k6,k7, ?_⟩,k3,Nat.le_trans k6 (by omega),fun base gb tb jd V x hx hn=> ?_⟩
  ·show(yP T _ _).ch.length+(yP T _ _).logs.length+zaM _<=_;omega
  ·obtain⟨⟨k,m,c1,c2⟩,_⟩:=key (.pointer (some ⟨tb,0,none⟩)) jd;rw[zk1] at c1 c2;dsimp only at c1 c2;rw[zlK] at c2;have hn:V.n+((2*(d+1)+2)*(G.gas - zaM (zJ (wkM d) (G.gas+2) G (zM T v fr tt)).1)+10)<800000000000:=hn;have c2:m<=(2*d+2)*(G.gas - zaM (zJ (wkM d) (G.gas+2) G (zM T v fr tt)).1)+2:=c2;have hlen:=hE.len
   have e5:(2*(d+1)+2)*(G.gas - zaM (zJ (wkM d) (G.gas+2) G (zM T v fr tt)).1)=(2*d+2)*(G.gas - zaM (zJ (wkM d) (G.gas+2) G (zM T v fr tt)).1)+2*(G.gas - zaM (zJ (wkM d) (G.gas+2) G (zM T v fr tt)).1):=by
    rw[<-Nat.add_mul];congr 1
   have hGT:=(hT.ext hE k5).kd;have hres:=zlS v fr tt x hx c1 (by rw[zkT];omega) (by omega) (by omega) (by omega) hlen.1 hlen.2 hGT;rw[zkT,zlK,resO_sj] at hres;refine hres.mono ?_;rintro e x' ⟨rfl,V',S2,j1,j2,j3,j4,j5,j6⟩;refine⟨rfl,V',S2,j1,j2,j3,j4, ?_,j6⟩;show V'.n<=V.n+((2*(d+1)+2)*(G.gas - zaM (zJ (wkM d) (G.gas+2) G (zM T v fr tt)).1)+10);omega
end
section
open Go.Maps
def Yh (code:ByteArray) (fr tt val:Nat) (data:ByteArray) (gas:Nat):Fz:={msgF 0 code undef fr tt val data gas with trail:=undef}
def ZO (T:TS) (fr tt val:Nat) (data:ByteArray) (gas:Nat):Res×TS:=wkM 16 (Yh (T.acc tt).code fr tt val data gas) T val fr tt
theorem zip {T:TS} (fr tt val:Nat) (data:ByteArray) (gas:Nat) (hT:GoodT T) (hd:data.size<=65536) (hg:gas<=100000) (hl:T.ch.length+T.logs.length<=800000):
  WkP (wkM 16) (Yh (T.acc tt).code fr tt val data gas) T val fr tt/\WakeOk (wkM 16) 3400010 (Yh (T.acc tt).code fr tt val data gas) T val fr tt:=by
 have h:=zdt 16 (Nat.le_refl _) (Yh (T.acc tt).code fr tt val data gas) T val fr tt ⟨hT.cs tt,hd,Nat.zero_le _,by show 1<=16;omega,Nat.zero_le _,Nat.zero_le _,Nat.zero_le _,Nat.zero_le _⟩ (by show 0<1;omega) hg hT (by show T.ch.length+T.logs.length+2+gas<=_;omega);refine⟨h.1,h.2.mono ?_⟩;show 34*(gas - _)+10<=_;omega
def DelR (base tb:Nat) (T T':TS) (V:TV) (st gs:Nat) (out:ByteArray) (w:World) (e:Ending) (w':World):Prop:=∃lv tv,e=.returned (YL st gs out lv)/\zcc base tb T T' V [] 3400010 w w'/\Lo w' base lv tv T'.logs
theorem lo_one {L:List LogE} {tv:List Value} (hv:∀t∈tv,∃a n c,t=.slice a n c):∀u∈loL L tv,u.oneCell'=true:=by
 induction L generalizing tv with
 |nil=>intro u hu;cases hu
 |cons a L ih=>
  cases tv with
  |nil=>intro u hu;cases hu
  |cons b tv=>
   intro u hu;have hu:u∈loC a b++loL L tv:=hu;rcases List.mem_append.1 hu with h|h
   ·obtain⟨x,y,z,rfl⟩:=hv b (by simp);unfold loC at h;simp at h;rcases h with rfl|rfl|rfl|rfl|rfl|rfl<;>rfl
   ·exact ih (fun t ht=>hv t (List.mem_cons_of_mem _ ht)) u h
theorem Lo.sl {w:World} {base:Nat} {lv:Value} {tv:List Value} {L:List LogE} (h:Lo w base lv tv L):∀t∈tv,∃a n c,t=.slice a n c:=fun t ht=>by
 obtain⟨i,hi⟩:=List.getElem?_of_mem ht;have hl:i<L.length:=by rw[<-h.1];exact(List.getElem?_eq_some_iff.1 hi).1
 obtain⟨ad,cp,e⟩:=Zk (h.2.2 i L[i] t (List.getElem?_eq_getElem hl) hi);exact⟨ad,_,cp,e⟩
theorem loL_len {L:List LogE} {tv:List Value} (h:tv.length=L.length):(loL L tv).length=L.length*6:=by
 induction L generalizing tv with
 |nil=>rfl
 |cons a L ih=>
  cases tv with
  |nil=>cases h
  |cons b tv=>
   show(loC a b++loL L tv).length=_;rw[List.length_append,ih (by simpa using h)];show 6+L.length*6=(L.length+1)*6;omega
theorem zmw {P:Program} {x x':World} {m:Sem Value} {v:Value} (h:m.run P x=.ok v x'):((do pure (Next.value (<-m)):Sem Next)).run P x=.ok (.value v) x':=by
 rw[Sem.run_bind,h];rfl
theorem zfS {P:Program} {s:Act} {x x':World} {pos:String} {af:Array Edge} {K:Act->World->Prop} {Q:Exit->Act->World->Prop} {t1 t2 d:Nat} {ty t:TypeId} {v1 v2 v':Value} (h1:s.tmps.getD t1 undef=v1) (h2:s.tmps.getD t2 undef=v2) (hrun:(Builtin.append_ #[t,t] ty #[v1,v2]).run P x=.ok v' x') (hK:K (s.put (some d) v') x'):
  Oper.wp P ⟨some d,.call ⟨.builtin .append,#[.tmp t1,.tmp t2],#[t,t]⟩,ty,pos,af,none⟩ s x K Q:=by
 exact Lib.wp_append_run x (.tmp t1) (.tmp t2) t t rfl v1 v2 h1 h2 v' x' hrun hK
theorem zeT {base:Nat} {lv:Value} {tv:List Value} {L:List LogE} (x:World) (h:Lo x base lv tv L) (hl:L.length<=1000000) (hb:base<=x.heap.size):
  ∃v' x',(Builtin.append_ #[36,36] 36 #[noL,lv]).run prog x=.ok v' x'/\x'.ownsRow base 112 6 v' L.length (loL L tv)/\x.grownBy x' none/\∀k,v'.ownBlock=some k->x.heap.size<=k:=by
 rcases h.2.1.2 with⟨rfl,h0⟩|⟨g,cap,cur,rfl,h2,h3,h4,h5,h6,h7⟩
 ·refine⟨noL,x,by kernel_rfl, ?_,World.grownBy.refl x _,fun k hk=>by cases hk⟩;have hn:=h.2.1;exact hn
 ·obtain⟨i0,hi0,hz0,hz1,hz2⟩:=info_parts zkS;obtain⟨v',x',r1,r2,r3,r4⟩:=yI (P:=prog) x base 36 36 112 i0 _ 6 72 (by kernel_rfl) hi0 hz0 hz1 hz2 rfl (by decide) noL 0 [] (World.ownsRow_nil x _ _ _) ⟨g,0,none⟩ L.length cap (loL L tv) (loL_len h.1) (h.2.1.cells rfl) (lo_one h.sl) (by unfold maxLen;omega) (by omega) hb;refine⟨v',x',r1, ?_,r3,fun k hk=> ?_⟩
  ·rw[Nat.zero_add,List.nil_append] at r2;exact r2
  ·rcases r4 with e|e
   ·rw[e] at hk;cases hk
   ·exact e k hk
def PhDl (base b:Nat) (L:List LogE) (tv:List Value) (w:World):Nat->World->Prop
 |0,x=>Below w.heap.size w x
 |1,x=>Kb [] w x
 |_,x=>∃v' y,Kb [] w y/\Below (y.setCell ⟨b,3,none⟩ v').heap.size (y.setCell ⟨b,3,none⟩ v') x/\y.ownsRow base 112 6 v' L.length (loL L tv)/\∀k,v'.ownBlock=some k->w.heap.size<=k
def RelD (b:Nat):Nat->World->World->Prop:=fun p x x'=>p=1->∃u,x'=x.setCell ⟨b,3,none⟩ u
def NewLd (base:Nat) (L:List LogE) (tv:List Value) (w:World):Kp:=fun p v x=>p≠0/\x.ownsRow base 112 6 v L.length (loL L tv)/\∀k,v.ownBlock=some k->w.heap.size<=k
theorem ziS {base b:Nat} {L:List LogE} {tv:List Value} {w x:World} {k:Nat} (h:PhDl base b L tv w k x) (hk:k<=0):Below w.heap.size w x:=by
 obtain rfl:k=0:=by omega
 exact h
theorem zns {base b:Nat} {L:List LogE} {tv:List Value} {w:World} (hb6:b<w.heap.size) (k:Nat) (x x':World) (h:PhDl base b L tv w k x) (hb:Below x.heap.size x x'):PhDl base b L tv w k x':=by
 match k,h with
 |0,h=>exact(show Below w.heap.size w x from h).trans (hb.mono (show Below w.heap.size w x from h).size)
 |1,h=>exact(show Kb [] w x from h).below hb
 |_+2,⟨v',y,h1,h2,h3,h4⟩=>exact⟨v',y,h1,h2.trans (hb.mono h2.size),h3,h4⟩
theorem zoj {base b p:Nat} {L:List LogE} {tv:List Value} {w x x':World} {v:Value} (hb6:b<w.heap.size) (hp:p<2) (hph:PhDl base b L tv w p x) (hrel:RelD b p x x') (hT:NewLd base L tv w p v x):NewLd base L tv w (p+1) v x':=by
 match p,hp,hph,hrel,hT with
 |0,_,_,_,hT=>exact absurd rfl hT.1
 |1,_,hph,hrel,hT=>
  obtain⟨u,rfl⟩:=hrel rfl;exact⟨by omega,yV hT.2.1 (fun k hk e=>by have:=hT.2.2 k hk;omega) _ _,hT.2.2⟩
theorem zh1 {base tb:Nat} {T:TS} {V:TV} (fr tt val gas:Nat) (data:ByteArray) (w:World) (h:Tr base tb T V w) (hg:gas<=100000) (hT:GoodT T) (hds:data.size<=65536) (hl:T.ch.length+T.logs.length<=800000) (hn:V.n+3400010<800000000000):
  Calls prog 35 #[.pointer (some ⟨tb,0,none⟩),msgV fr tt val data gas] w (DelR base tb T (ZO T fr tt val data gas).2 V (ZO T fr tt val data gas).1.st (ZO T fr tt val data gas).1.gas (ZO T fr tt val data gas).1.out w):=by
 obtain⟨hwp,hwk⟩:=zip fr tt val data gas hT hds hg hl;have hcs:=hT.cs tt;have HBW:=zb h.hb;obtain⟨R,hR⟩:∃R,R=ZO T fr tt val data gas:=⟨_,rfl⟩;have hR':wkM 16 (Yh (T.acc tt).code fr tt val data gas) T val fr tt=R:=hR.symm
 have hlog:R.2.logs.length<=1000000:=by
  have h1:=hwp.bud;rw[hR'] at h1;have:(Yh (T.acc tt).code fr tt val data gas).gas=gas:=rfl;omega
 unfold WakeOk at hwk;rw[hR'] at hwk;rw[<-hR];obtain⟨⟨st,gs,out⟩,T'⟩:=R;dsimp only at hwk hlog⊢;have HLG:=zb hlog;clear hR hR' hwp hlog;go_enter func35,ntmps35;go_wp2;have hB:Below w.heap.size w (d2 w fr tt val data gas):=bal (bal (Below.refl _ w) _) _;have h2:=h.below hB;have hm:MsgAt (d2 w fr tt val data gas) w.heap.size fr tt val data gas:=zg (zlB w fr tt val data gas) (bal (Below.refl _ _) _);obtain⟨f,hf,hf'⟩:=h2.acc.map;obtain⟨sv,e1,e3,e4,e5⟩:=h2.acc.read tt hf';obtain⟨om,rfl⟩:=e3.is;have c0:=h2.row.cell (i:=0) (by decide);rw[show trC V 0=.map (some V.ab) from rfl] at c0;refine zjP (tt:=tt) (mb:=w.heap.size) (ab:=V.ab) (bl:=(T.acc tt).bal) (code:=(T.acc tt).code) (o:=om) _ _ h2 hcs h2.row.lt c0 (fun x hx=> ?_) (fun x hx=> ?_) (Below.refl _ _).drew rfl rfl rfl ?_
 ·have hr:=zg hm hx;exact⟨hr.cell (i:=4) (by decide),hr.cell (i:=5) (by decide),hr.cell (i:=6) (by decide),hr.cell (i:=7) (by decide)⟩
 ·have:=(hf.kb (Kb.of_below (S:=[]) hx) (by simp)).look Yr Yk tt;rw[e1] at this;exact this
 rintro x z9 z10 hx - ⟨-,fb,jd,rfl,hfb,hbx,hft⟩;simp only[zF,List.foldl_cons,List.foldl_nil,Act.put];simp only[sx9];have cd:=hft.fr.row.cell (i:=18) (by decide);have fd:=hft.fr.row.frozen 18;rw[show(zch tb (T.acc tt).code jd).cell noL noL 18=.int .i64 0 from rfl] at cd
 have hd:FT base fb tb {zch tb (T.acc tt).code jd with depth:=1} T [fb] noL noL V (x.setCell ⟨fb,18,none⟩ (.int .i64 1)):=
  hft.own rfl rfl rfl rfl rfl hft.fr.gal (Yn hft.fr.row (ze9 _ noL noL 1)) ((Kb.refl [fb] x).setCell (Or.inl (by simp)) _)
 have hkd:Kb [fb] x (x.setCell ⟨fb,18,none⟩ (.int .i64 1)):=(Kb.refl [fb] x).setCell (Or.inl (by simp)) _;have hfb2:w.heap.size+1<fb:=by simp at hfb;omega
 have hmx:=zg hm hbx;go_wp2;generalize x.setCell ⟨fb,18,none⟩ (.int .i64 1)=x1 at*;have hm1:∀y,Kb [fb] x1 y->MsgAt y w.heap.size fr tt val data gas:=fun y hy=>(hkd.trans hy (fun i hi=>Or.inl hi)).row hmx (by simp;omega)
 refine zkj (mb:=w.heap.size) (fr:=fr) (tt:=tt) (val:=val) _ x1 hd (fun y hy=> ?_) (fun y hy=> ?_) (fun y hy=> ?_) ⟨hd.below (Below.refl _ _).drew,(Kb.refl _ _).drew⟩ rfl rfl rfl ?_
 ·have hr:=hm1 y hy;exact⟨hr.cell (i:=4) (by decide),hr.cell (i:=5) (by decide),hr.cell (i:=6) (by decide),hr.cell (i:=7) (by decide)⟩
 ·have hr:=hm1 y hy;exact⟨hr.cell (i:=0) (by decide),hr.cell (i:=1) (by decide),hr.cell (i:=2) (by decide),hr.cell (i:=3) (by decide)⟩
 ·have hr:=hm1 y hy;exact⟨hr.cell (i:=8) (by decide),hr.cell (i:=9) (by decide),hr.cell (i:=10) (by decide),hr.cell (i:=11) (by decide)⟩
 rintro x3 ⟨hf3,hk3⟩;simp only[zF,List.foldl_cons,List.foldl_nil,Act.put];simp only[sx9];go_wp2;refine zj5 (mb:=w.heap.size) (gs:=gas) (data:=data) _ x3 hf3 hg (fun y hy=> ?_) (fun y hy=> ?_) ⟨hf3.below (Below.refl _ _).drew,(Kb.refl _ _).drew⟩ rfl rfl rfl ?_
 ·exact(hm1 y (hk3.trans hy (fun i hi=>Or.inl hi))).cell (i:=12) (by decide)
 ·exact(hm1 y (hk3.trans hy (fun i hi=>Or.inl hi))).cell (i:=13) (by decide)
 rintro x4 ⟨hf4,hk4⟩;have hkx:Kb [fb] x x4:=(hkd.trans hk3 (fun i hi=>Or.inl hi)).trans hk4 (fun i hi=>Or.inl hi);have hm4:=hm1 x4 (hk3.trans hk4 (fun i hi=>Or.inl hi));have m0:=hm4.cell (i:=0) (by decide);have m1:=hm4.cell (i:=1) (by decide);have m2:=hm4.cell (i:=2) (by decide);have m3:=hm4.cell (i:=3) (by decide);have m4:=hm4.cell (i:=4) (by decide);have m5:=hm4.cell (i:=5) (by decide);have m6:=hm4.cell (i:=6) (by decide);have m7:=hm4.cell (i:=7) (by decide);have m8:=hm4.cell (i:=8) (by decide);have m9:=hm4.cell (i:=9) (by decide);have m10:=hm4.cell (i:=10) (by decide);have m11:=hm4.cell (i:=11) (by decide);simp only[msgC,Array.getD_eq_getD_getElem?,List.getElem?_toArray,List.getElem?_cons_zero,List.getElem?_cons_succ,Option.getD_some] at m0 m1 m2 m3 m4 m5 m6 m7 m8 m9 m10 m11;have HW:=zb (hwk.2.2 base fb tb jd V x4 hf4 (by omega));have HKX:Hid (Below w.heap.size w x/\Kb [fb] x x4/\w.heap.size+1<fb):=⟨hB.trans (hbx.mono hB.size),hkx,hfb2⟩
 have HRA:Hid (ResAt x4 (w.heap.size+1) 0 0 ⟨#[]⟩ noL):=by
  have h0:ResAt (d2 w fr tt val data gas) (w.heap.size+1) 0 0 ⟨#[]⟩ noL:=by unfold ResAt;simp[go_sem]
  exact(h0.below hbx).kb hkx (by simp;omega)
 have HS4:Hid (w.heap.size+1<x4.heap.size):=zaV HRA.out.1.1;have HTL:Hid (∀k,zG tb T V k->k<w.heap.size):=fun k hk=>h.lt hk
 clear hwk hT hm4 hkx hk4 hf4 hk3 hf3 hm1 hmx hkd hd cd fd hft hbx hfb hx c0 e1 e3 e4 e5 hf hf' hm h2 hB h;simp only[zF,List.foldl_cons,List.foldl_nil,Act.put];simp only[sx9];go_wp2_with fail
 refine HW.out.mono ?_;rintro e w5 ⟨rfl,ht⟩;obtain⟨V5,S5,t1,t2,t3,t4,t5,t6⟩:=ht;clear m0 m1 m2 m3 m4 m5 m6 m7 m8 m9 m10 m11 HW;obtain⟨ad,cp,hlv⟩:=Zk t1.lo.2.1;have hBR:Below w5.heap.size w5 (w5.alloc (.cells #[.int .u8 (st:Int),.int .i64 (gs:Int),.string out,.slice none 0 0] 38)).drew:=(bal (Below.refl _ w5) _).drew;have t7:=t1.below hBR;have c3:=t7.row.cell (i:=3) (by decide);rw[show trC V5 3=V5.lv from rfl,hlv] at c3
 have hrs5:ResAt w5 (w.heap.size+1) 0 0 ⟨#[]⟩ noL:=by
  refine HRA.out.kb t2 fun hm=> ?_
  rcases t3 _ hm with e|e
  ·have:=HKX.out.2.2;simp at e;omega
  ·have:=HTL.out _ e;omega
 have HRS:=zb hrs5;have hbw:base<=w.heap.size:=HBW.out;have HS5:Hid (w.heap.size+1<w5.heap.size):=Nat.lt_of_lt_of_le HS4.out t2.size
 -- what follows holds wherever the logs come to lie
 have HEND:Hid (∀(lv:Value) (y:World),(∀k,lv.ownBlock=some k->w5.heap.size<=k)->Kb [w5.heap.size] w5 y->Lo y base lv V5.tv T'.logs->Tr base tb T' V5 y->DelR base tb T T' V st gs out w (.returned (YL st gs out lv)) (yk y (w.heap.size+1) st gs out lv)):=by
  intro lv y hfr hky hlo hty;have hs4:w.heap.size+1<x4.heap.size:=HS4.out;obtain⟨hbx,hkx,hfb9⟩:=HKX.out;have hs5:=HS5.out
  have hnb:¬zG tb T' V5 (w.heap.size+1):=fun hf=>by
   rcases t4 _ hf with e|e
   ·have:=HTL.out _ e;omega
   ·omega
  have hkp:Kb [w.heap.size+1] y (yk y (w.heap.size+1) st gs out lv):=YC (Kb.refl _ y) (Or.inl (by simp));have hlnb:∀k,lv.ownBlock=some k->k≠w.heap.size+1:=fun k hk e=>by have:=hfr k hk;omega
  refine⟨lv,V5.tv,rfl,⟨V5,S5.filter (fun k=>decide (k<w.heap.size)),hty.kb hkp (fun k hk hf=>hnb (by simp at hk;rw[<-hk];exact hf)) (by simp), ?_,fun i hi=> ?_,fun i hi=> ?_,by omega,t6⟩,hlo.kb hkp (fun k hk hm=>hlnb k hk (by simpa using hm)) (fun t ht k hk hm=>hnb (Or.inr (Or.inr (Or.inr (Or.inr (Or.inr ⟨t,ht,by simp at hm;rw[<-hm];exact hk⟩))))))⟩
  ·refine YC ?_ (Or.inr (by omega))
   have hk1:Kb (S5.filter (fun k=>decide (k<w.heap.size))) w w5:=by
    refine((Kb.of_below hbx).trans hkx (fun i hi=>Or.inr (by simp at hi;omega))).trans t2 (fun i hi=> ?_);by_cases hl:i<w.heap.size
    ·exact Or.inl (List.mem_filter.2 ⟨hi,by simpa using hl⟩)
    ·exact Or.inr (by omega)
   exact hk1.trans hky (fun i hi=>Or.inr (by simp at hi;omega))
  ·obtain⟨e1,e2⟩:=List.mem_filter.1 hi;have e2:i<w.heap.size:=by simpa using e2
   rcases t3 i e1 with e|e
   ·simp at e;omega
   ·exact Or.inr e
  ·rcases t4 i hi with e|e
   ·exact Or.inl e
   ·exact Or.inr (by omega)
 clear hrs5;go_wp2;obtain⟨w6,HW6⟩:∃w6,Hid (w6=w5.alloc (.cells #[.int .u8 (st:Int),.int .i64 (gs:Int),.string out,.slice none 0 0] 38)):=⟨_,rfl⟩;have hB6:Below w5.heap.size w5 (w5.alloc (.cells #[.int .u8 (st:Int),.int .i64 (gs:Int),.string out,.slice none 0 0] 38)):=bal (Below.refl _ w5) _;have hr6:ResAt (w5.alloc (.cells #[.int .u8 (st:Int),.int .i64 (gs:Int),.string out,.slice none 0 0] 38)) w5.heap.size st gs out noL:=by unfold ResAt;simp[go_sem]
 have hb6:w5.heap.size<(w5.alloc (.cells #[.int .u8 (st:Int),.int .i64 (gs:Int),.string out,.slice none 0 0] 38)).heap.size:=by simp
 rw[<-HW6.out] at hB6 hr6 hb6⊢;have t6w:=t1.below hB6;have hlg:=HLG.out;obtain⟨L5,hL5⟩:∃L5,L5=T'.logs:=⟨_,rfl⟩;rw[<-hL5] at hlg;have t6l:Lo w6 base V5.lv V5.tv L5:=hL5▸t6w.lo;clear hBR t7 c3
 refine zq (PhDl base w5.heap.size L5 V5.tv w6) (RelD w5.heap.size) [(0,(.pointer (some ⟨tb,0,none⟩))),(6,(.pointer (some ⟨w5.heap.size,0,none⟩)))] [(some 54,.v (.pointer (some ⟨w5.heap.size,3,none⟩))),(some 55,.v noL),(some 56,.v (.pointer (some ⟨tb,0,none⟩))),(some 57,.v (.pointer (some ⟨tb,0,none⟩))),(some 58,.v (.pointer (some ⟨tb,3,none⟩))),(some 59,.v V5.lv),(some 60,.l (NewLd base L5 V5.tv w6)),(some 61,.v (.pointer (some ⟨w5.heap.size,3,none⟩))),(none,.v undef)] [6,8] [1,5] (by kernel_rfl) (by rfl) (by rfl) (by kernel_rfl) ((Below.refl _ _).drew) (zns hb6)
   (zf _ _ _ rfl rfl
   (fun s x hph hdf hv hl K hK=>by
    have hx:Below w6.heap.size w6 x:=hph;obtain⟨v',x',hrun,h1,h2,h3⟩:=zeT x (t6l.kb (Kb.of_below (S:=[]) hx) (by simp) (by simp)) hlg (t6w.below hx).hb;exact zfS (hv 55 _ rfl) (hv 59 _ rfl) hrun (hK v' x' ((Kb.of_below (S:=[]) hx).grown h2 (fun k hk=>by cases hk)) (fun h=>absurd h (by omega)) nn1 ⟨by omega,h1,fun k hk=>Nat.le_trans hx.size (h3 k hk)⟩))
   (zf _ _ _ rfl rfl
   (fun s x hph hdf hv hl K hK=>by
    have hx:Kb [] w6 x:=hph;obtain⟨-,h1,h2⟩:=hl 60 _ rfl;obtain⟨ad,cp,e⟩:=Zk h1;have hr:=hr6.kb hx (by simp);exact zaX (u:=noL) (fun _=>by kernel_rfl) ⟨_,_,_,e⟩ (hv 61 _ rfl) rfl hr.1.2.2.2 hr.2.2.2.2 (hK _ _ ⟨_,x,hx,Below.refl _ _,h1,h2⟩ (fun _=>⟨_,rfl⟩) (fun _=>rfl) rfl))
   True.intro))
   (zf _ _ _ rfl rfl
   (fun k s x hk hlo hhi hph hdf hv hl K hK=>by
    have hx:Below w6.heap.size w6 x:=ziS hph (hhi 0 6 rfl (by kernel_rfl));exact zv (v:=noL) (fun w=>by kernel_rfl) (hv 54 _ rfl) ((hr6.below hx).1.2.2.2) (hK _ x (Below.refl _ _) nn1 rfl))
   (zf _ _ _ rfl rfl
   (fun k s x hk hlo hhi hph hdf hv hl K hK=>by
    have hx:Below w6.heap.size w6 x:=ziS hph (hhi 0 6 rfl (by kernel_rfl));exact zv (v:=V5.lv) (fun w=>by kernel_rfl) (hv 58 _ rfl) ((t6w.below hx).row.cell (i:=3) (by decide)) (hK _ x (Below.refl _ _) nn1 rfl))
   True.intro))
   (fun i d T' he p v x x' hne hp hph hrel hT=>by
    have hm:=List.mem_of_getElem? he;simp only[List.mem_cons,Prod.mk.injEq,reduceCtorEq,and_false,false_or,or_false,List.not_mem_nil,En.l.injEq] at hm;obtain⟨-,rfl⟩:=hm;exact zoj hb6 hp hph hrel hT) (fun i d T' he p v x x' hph hb hT=>by
    have hm:=List.mem_of_getElem? he;simp only[List.mem_cons,Prod.mk.injEq,reduceCtorEq,and_false,false_or,or_false,List.not_mem_nil,En.l.injEq] at hm;obtain⟨-,rfl⟩:=hm;exact⟨hT.1,zm hT.2.1 hb,hT.2.2⟩) ?_
 intro gg z hz _;obtain⟨lv,y,q1,q2,q3,q4⟩:PhDl base w5.heap.size L5 V5.tv w6 2 z:=hz;rw[hL5] at q3;have hky:Kb [w5.heap.size] w5 z:=((((Kb.of_below hB6).trans (q1.mono (by simp)) (fun i hi=>Or.inl hi)).setCell (Or.inl (by simp)) _)).below q2;have hsy:=q1.size
 have hlz:Lo z base lv V5.tv T'.logs:=by
  have hl1:=t6w.lo.kb q1 (by simp) (by simp)
  have hl2:Lo (y.setCell ⟨w5.heap.size,3,none⟩ lv) base lv V5.tv T'.logs:=by
   refine⟨hl1.1,yV q3 (fun k hk e=>by have:=q4 k hk;omega) _ _,fun i l t h1 h2=>yV (hl1.2.2 i l t h1 h2) (fun k hk e=> ?_) _ _⟩;have:=t1.lt (Or.inr (Or.inr (Or.inr (Or.inr (Or.inr ⟨t,List.mem_of_getElem? h2,hk⟩)))));omega
  exact hl2.kb (Kb.of_below (S:=[]) q2) (by simp) (by simp)
 have htz:Tr base tb T' V5 z:=t1.kb hky (fun k hk hf=>by have:=t1.lt hf;simp at hk;omega) (by have:=t1.hb1;have:=t1.hb;simp;omega)
 have hrz:ResAt z w5.heap.size st gs out lv:=by
  have hr:=hr6.kb q1 (by simp);refine ResAt.below ?_ q2;unfold ResAt at hr⊢;obtain⟨⟨g0,g1,g2,g3⟩,f0,f1,f2,f3⟩:=hr;simp[go_sem,g0,g1,g2,g3,f0,f1,f2,f3]
 have hrz1:ResAt z (w.heap.size+1) 0 0 ⟨#[]⟩ noL:=HRS.out.kb hky (by simp;have:=HS5.out;omega);have HE:=zb (HEND.out lv z (fun k hk=>Nat.le_trans hB6.size (q4 k hk)) hky hlz htz);obtain⟨ad9,cp9,hsl⟩:=Zk q3;have HRP:Hid (ResAt (yk z (w.heap.size+1) st gs out lv) (w.heap.size+1) st gs out lv):=hrz1.put;subst hsl;clear q1 q2 q3 q4 hky hlz htz t6w t6l HEND HRS hr6 hB6 HW6 HRA;simp only[yy,yw,yx,Zg,zF,List.foldl_cons,List.foldl_nil,Act.put];simp only[sx9];obtain⟨⟨g0,g1,g2,g3⟩,_⟩:=hrz;obtain⟨⟨k0,k1,k2,k3⟩,f0,f1,f2,f3⟩:=hrz1;go_wp2;change bodyPost prog f35 _ _ _ (yk z (w.heap.size+1) st gs out (.slice ad9 T'.logs.length cp9));generalize yk z (w.heap.size+1) st gs out (.slice ad9 T'.logs.length cp9)=z2 at*;obtain⟨⟨y0,y1,y2,y3⟩,_⟩:=HRP.out;refine bodyPost_ret (v:=YL st gs out (.slice ad9 T'.logs.length cp9)) (by simp[results,results35,go_sem,y0,y1,y2,y3]) rfl HE.out
end
section
open Go.Maps
abbrev muLink:Go.Conc.Locks.MuLink:={lock:=31,unlock:=32,ilock:=57,iunlock:=58,lockSlow:=87,unlockSlow:=90,disable:=83,enable:=85,acquire:=86,relMerge:=88,cas32:=84,add32:=89,tMutex:=87,tIMutex:=85,tPMutex:=126,tPIMutex:=176,tPI32:=178,tUP:=180,tNoCopy:=82,tU32:=83}
theorem zjf:Go.Conc.Locks.MuLib prog muLink:=
 ⟨func31,func32,func57,func58,func83,func85,func86,func88,func84,func89,underlying85,runUnderlying85,sizeOf85,isAgg85,zeroValue85,underlying87,runUnderlying87,sizeOf87,isAgg87,zeroValue87,underlying126,runUnderlying126,sizeOf126,isAgg126,zeroValue126,underlying176,runUnderlying176,sizeOf176,isAgg176,zeroValue176,underlying178,runUnderlying178,sizeOf178,isAgg178,zeroValue178,underlying180,runUnderlying180,sizeOf180,isAgg180,zeroValue180,underlying82,runUnderlying82,sizeOf82,isAgg82,zeroValue82,underlying21,runUnderlying21,sizeOf21,isAgg21,zeroValue21,(by kernel_rfl)⟩
end
section
open Go.Maps
def T0 (A:Nat->Acc):TS:={acc:=A,pas:=fun _ _=>0,ch:=[],logs:=[]}
def V0 (ab pb n:Nat) (sb:Nat->Value):TV:={ab:=ab,pb:=pb,n:=n,sb:=sb,cv:=.slice none 0 0,lv:=.slice none 0 0,tv:=[]}
abbrev nt2 (w:World) (ab:Nat):World:=(w.alloc (.map #[] 0)).alloc (.cells #[.map (some ab),.map (some w.heap.size),.slice none 0 0,.slice none 0 0] 131)
theorem ziY {ab n:Nat} {A:Nat->Acc} {sb:Nat->Value} {w:World} (h:Accs ab n A sb w) (hz:Zr w):Tr w.heap.size (w.heap.size+1) (T0 A) (V0 ab w.heap.size n sb) (nt2 w ab):=by
 have hB:Below w.heap.size w (nt2 w ab):=bal (bal (Below.refl _ w) _) _;have hs:(w.alloc (.map #[] 0)).heap.size=w.heap.size+1:=by simp
 refine⟨?_,h.kb (Kb.of_below (S:=[]) hB) (by simp), ?_,World.ownsRow_nil _ _ _ _,⟨rfl,World.ownsRow_nil _ _ _ _,fun i l t hl=>by simp[T0] at hl⟩,hz.below hB,hB.size,hz.2,fun hf=> ?_⟩
 ·have hr:=World.rowIs_alloc (w.alloc (.map #[] 0)) #[.map (some ab),.map (some w.heap.size),.slice none 0 0,.slice none 0 0] 131 (trC (V0 ab w.heap.size n sb)) (fun i hi=>by
   have hi:i<4:=hi;rcases k4 hi with rfl|rfl|rfl|rfl<;>rfl)
  rw[hs] at hr;exact hr
 ·refine PM.mono (n:=0) ⟨fun _=>none, ?_,fun a k=>rfl⟩ (Nat.zero_le _);refine(MapV.made prog 217 w).block ?_;have:=(bal (Below.refl _ (w.alloc (.map #[] 0))) (.cells #[.map (some ab),.map (some w.heap.size),.slice none 0 0,.slice none 0 0] 131)).block w.heap.size (by simp);exact this
 ·have:=h.lt hf;exact absurd this (by show¬w.heap.size<_;omega)
theorem zhp {ab n:Nat} {A:Nat->Acc} {sb:Nat->Value} (w:World) (h:Accs ab n A sb w) (hz:Zr w):
  Calls prog 34 #[.map (some ab)] w fun e w'=>e=.returned (.pointer (some ⟨w.heap.size+1,0,none⟩))/\Below w.heap.size w w'/\Tr w.heap.size (w.heap.size+1) (T0 A) (V0 ab w.heap.size n sb) w':=by
 have HT:=zb (ziY h hz);have hmm:=@run_makeMap prog;clear h hz;go_enter func34,ntmps34;go_wp2;refine bodyPost_ret (v:=.pointer (some ⟨w.heap.size+1,0,none⟩)) (by simp[results,results34,go_sem]) rfl ⟨rfl,bal (bal (Below.refl _ w) _) _,HT.out⟩
theorem zht (fr tt val gas:Nat) (data:ByteArray) (hd:data.size<=500) (hg:gas<=100000) (w:World):
  Calls prog 30 #[msgV fr tt val data gas] w fun e w'=>e=.returned (.bool true)/\Below w.heap.size w w':=by
 have d1:decide ((data.size:Int)<=500)=true:=decide_eq_true (by omega);have d2:decide ((0:Int)<=(gas:Int))=true:=decide_eq_true (by omega);have d3:decide ((gas:Int)<=100000)=true:=decide_eq_true (by omega);go_enter func30,ntmps30;go_wp2;refine bodyPost_ret (v:=.bool true) (by simp[results,results30,go_sem]) rfl ⟨rfl,bal (Below.refl _ w) _⟩
end
section
open Go.Maps
theorem zi7:Own 33:=fun _ _=>by kernel_rfl
theorem MsgAt.cells {x:World} {b fr tt val gs:Nat} {data:ByteArray} (h:MsgAt x b fr tt val data gs):x.cell? ⟨b,0,none⟩=some (.int .u64 (za fr 0))/\x.cell? ⟨b,1,none⟩=some (.int .u64 (za fr 1))/\x.cell? ⟨b,2,none⟩=some (.int .u64 (za fr 2))/\x.cell? ⟨b,3,none⟩=some (.int .u64 (za fr 3))/\x.cell? ⟨b,4,none⟩=some (.int .u64 (za tt 0))/\x.cell? ⟨b,5,none⟩=some (.int .u64 (za tt 1))/\x.cell? ⟨b,6,none⟩=some (.int .u64 (za tt 2))/\x.cell? ⟨b,7,none⟩=some (.int .u64 (za tt 3))/\x.cell? ⟨b,8,none⟩=some (.int .u64 (za val 0))/\x.cell? ⟨b,9,none⟩=some (.int .u64 (za val 1))/\x.cell? ⟨b,10,none⟩=some (.int .u64 (za val 2))/\x.cell? ⟨b,11,none⟩=some (.int .u64 (za val 3))/\x.cell? ⟨b,12,none⟩=some (.string data)/\x.cell? ⟨b,13,none⟩=some (.int .i64 (gs:Int)):=by
 refine⟨h.cell (i:=0) (by decide),h.cell (i:=1) (by decide),h.cell (i:=2) (by decide),h.cell (i:=3) (by decide),h.cell (i:=4) (by decide),h.cell (i:=5) (by decide),h.cell (i:=6) (by decide),h.cell (i:=7) (by decide),h.cell (i:=8) (by decide),h.cell (i:=9) (by decide),h.cell (i:=10) (by decide),h.cell (i:=11) (by decide),h.cell (i:=12) (by decide),h.cell (i:=13) (by decide)⟩
def TrK (A:Nat->Acc) (ab n:Nat) (sb:Nat->Value) (w:World):Kp:=fun p v x=>∃tb pb base,v=.pointer (some ⟨tb,0,none⟩)/\(p=1->Tr base tb (T0 A) (V0 ab pb n sb) x/\tb=base+1/\pb=base/\w.heap.size<=base)
def PhZ (R:World->Prop) (b st rg:Nat) (out:ByteArray) (w:World):Nat->World->Prop
 |0,x=>Below w.heap.size w x
 |1,x=>Below w.heap.size w x
 |2,x=>R x
 |_,x=>∃y,R y/\x=yk y b st rg out noL
theorem send_r5 {gb mb ab bl fr tt val gs:Nat} {o:Option Nat} {code data:ByteArray} {Q:Exit->Act->World->Prop} (a:Act) (w:World) (hlt:gb<w.heap.size) (hab:w.cell? ⟨gb,2,none⟩=some (.map (some ab))) (hm:MsgAt w mb fr tt val data gs) (hlook:∀x,Below w.heap.size w x->(Instr.lookup 89 (.map (some ab)) (wv fr) false).run prog x=.ok (Z1 bl code (.map o)) x) (h0:Below w.heap.size w w.drew) (hsz:([17,18,19,20,21,22,23,24,25,26,27,28]:List Nat).all (fun d=>decide (d<a.tmps.size))=true) (c0:a.tmps.getD 0 undef=.pointer (some ⟨gb,0,none⟩)) (c3:a.tmps.getD 3 undef=.pointer (some ⟨mb,0,none⟩))
  (hok:∀(x:World),(PhO (fun x=>Below w.heap.size w x) w) 1 x->Q .normal (zF a [(17,.pointer (some ⟨gb,0,none⟩)),(18,.pointer (some ⟨gb,0,none⟩)),(19,.pointer (some ⟨gb,2,none⟩)),(20,.map (some ab)),(21,.pointer (some ⟨mb,0,none⟩)),(22,wv fr),(23,Z1 bl code (.map o)),(24,wv bl),(25,.pointer (some ⟨mb,8,none⟩)),(26,wv val),(27,.int .i64 (ZZ bl val)),(28,.bool (decide (ZZ bl val<0)))]) x):
  (Code.region 5 #[⟨some 17,.move (.tmp 0),29,"host.go:31",#[],none⟩,⟨some 18,.nilCheck (.tmp 17),0,"host.go:31",#[⟨0,.data⟩],none⟩,⟨some 19,.fieldAddr 91 (.tmp 18) 1,0,"host.go:31",#[⟨1,.data⟩],none⟩,⟨some 20,.load 89 (.tmp 19),89,"host.go:31",#[⟨2,.data⟩],none⟩,⟨some 21,.fieldAddr 43 (.tmp 3) 0,0,"host.go:31",#[],none⟩,⟨some 22,.load 24 (.tmp 21),24,"host.go:31",#[⟨4,.data⟩],none⟩,⟨some 23,.lookup 89 (.tmp 20) (.tmp 22) false,95,"host.go:31",#[⟨3,.data⟩,⟨5,.data⟩],none⟩,⟨some 24,.field 95 (.tmp 23) 0,24,"host.go:31",#[⟨6,.data⟩],none⟩,⟨some 25,.fieldAddr 43 (.tmp 3) 2,0,"host.go:31",#[],none⟩,⟨some 26,.load 24 (.tmp 25),24,"host.go:31",#[⟨8,.data⟩],none⟩,⟨some 27,.call ⟨.value (.func 33),#[.tmp 24,.tmp 26],#[24,24]⟩,3,"host.go:31",#[⟨7,.data⟩,⟨9,.data⟩],none⟩,⟨some 28,.binOp .lss 3 (.tmp 27) (.const (.int .i64 0)) 3,4,"host.go:31",#[⟨10,.data⟩],none⟩] true).wp prog Q a w:=by
 refine ZQ (PhO (fun x=>Below w.heap.size w x) w) (fun _ _ _=>True) [(0,.pointer (some ⟨gb,0,none⟩)),(3,.pointer (some ⟨mb,0,none⟩))] [(some 17,.v (.pointer (some ⟨gb,0,none⟩))),(some 18,.v (.pointer (some ⟨gb,0,none⟩))),(some 19,.v (.pointer (some ⟨gb,2,none⟩))),(some 20,.v (.map (some ab))),(some 21,.v (.pointer (some ⟨mb,0,none⟩))),(some 22,.v (wv fr)),(some 23,.v (Z1 bl code (.map o))),(some 24,.v (wv bl)),(some 25,.v (.pointer (some ⟨mb,8,none⟩))),(some 26,.v (wv val)),(some 27,.v (.int .i64 (ZZ bl val))),(some 28,.v (.bool (decide (ZZ bl val<0))))] [10] [3,5,6,7,9] (by kernel_rfl) hsz (Zi c0 (Zi c3 rfl)) (by kernel_rfl) h0
  (zf _ _ _ rfl rfl (fun s x hph hdf hv hl K hK=>by
   have hph:Below w.heap.size w x:=hph;refine ZL zi7 (ev2 (hv 24 _ rfl) (hv 26 _ rfl)) (Yg bl val x) ?_;rintro e y ⟨rfl,hB⟩;exact⟨_,rfl,hK _ y (hph.trans (hB.mono hph.size)) trivial nn1 rfl⟩
  )
  True.intro)
  (zf _ _ _ rfl rfl (fun k s x hk hlo hhi hph hdf hv hl K hK=>by
   have k0:x.cell? ⟨gb,2,none⟩=some (.map (some ab)):=((Yj hph (by have:=hhi 0 10 rfl (by kernel_rfl);omega)).cell hlt).trans hab;exact zv (fun w=>by kernel_rfl) (hv 19 _ rfl) k0 (hK _ x rfl nn1 rfl)
  )
  (zf _ _ _ rfl rfl (fun k s x hk hlo hhi hph hdf hv hl K hK=>by
   obtain⟨q0,q1,q2,q3,q4,q5,q6,q7,q8,q9,q10,q11,q12,q13⟩:=(show MsgAt x mb fr tt val data gs from zg hm (Yj hph (by have:=hhi 0 10 rfl (by kernel_rfl);omega))).cells;exact zB (n:=fr) (hv 21 _ rfl) q0 q1 q2 q3 (hK _ x rfl nn1 rfl)
  )
  (zf _ _ _ rfl rfl (fun k s x hk hlo hhi hph hdf hv hl K hK=>by
   have hk:=hlook x (Yj hph (by have:=hhi 0 10 rfl (by kernel_rfl);omega));have e20:=hv 20 _ rfl;have f20:s.eval (.tmp 20)=_:=e20;have e22:=hv 22 _ rfl;have f22:s.eval (.tmp 22)=_:=e22;clear hv hl hlo hhi hdf;go_simp;exact(hK _ x rfl nn1 rfl)
  )
  (zf _ _ _ rfl rfl (fun k s x hk hlo hhi hph hdf hv hl K hK=>by
   have hk:=zoo bl code o x;have e23:=hv 23 _ rfl;have f23:s.eval (.tmp 23)=_:=e23;clear hv hl hlo hhi hdf;go_simp;exact(hK _ x rfl nn1 rfl)
  )
  (zf _ _ _ rfl rfl (fun k s x hk hlo hhi hph hdf hv hl K hK=>by
   obtain⟨q0,q1,q2,q3,q4,q5,q6,q7,q8,q9,q10,q11,q12,q13⟩:=(show MsgAt x mb fr tt val data gs from zg hm (Yj hph (by have:=hhi 0 10 rfl (by kernel_rfl);omega))).cells;exact zB (n:=val) (hv 25 _ rfl) q8 q9 q10 q11 (hK _ x rfl nn1 rfl)
  )
  True.intro)))))
  (fun _ _ _ h=>(zo rfl h).elim) ?_
 intro g x hph hT;exact hok x hph
end
section
open Go.RowKit Go.Maps Go.MuLone
def zeW (ab i:Nat):Value:=if i=0 then .int .i32 0 else if i=1 then .int .u32 0 else .map (some ab)
structure HostAt (gb ab n:Nat) (A:Nat->Acc) (sb:Nat->Value) (w:World):Prop where
 row:w.rowIs gb 91 3 (zeW ab)
 acc:Accs ab n A sb w
 zr:Zr w
abbrev s2 (w:World) (fr tt val:Nat) (data:ByteArray) (gas:Nat):World:=(w.alloc (.cells (msgC fr tt val data gas) 43)).alloc rc0
def SentR (ab n m gb b:Nat) (A:Nat->Acc) (sb:Nat->Value) (T':TS) (w y:World):Prop:=∃(V':TV) (S2:List Nat),Accs ab V'.n T'.acc V'.sb y/\V'.n<=n+m/\Kb S2 w y/\(∀k∈S2,Zm ab A sb k)/\Zr y/\(∀k,Zm ab T'.acc V'.sb k->Zm ab A sb k\/w.heap.size<=k)
theorem zoT {base tb pb ab n m gb b:Nat} {A:Nat->Acc} {sb:Nat->Value} {T':TS} {w x y:World} (hx:Below w.heap.size w x) (ha:Accs ab n A sb w) (htb:tb=base+1) (hpb:pb=base) (hwb:w.heap.size<=base) (h:zcc base tb (T0 A) T' (V0 ab pb n sb) [] m x y):SentR ab n m gb b A sb T' w y:=by
 obtain⟨V',S2,h1,h2,h3,h4,h5,h6⟩:=h;have hab:V'.ab=ab:=h6;have hacc:=h1.acc;rw[hab] at hacc
 have hT0:∀k,zG tb (T0 A) (V0 ab pb n sb) k->Zm ab A sb k\/w.heap.size<=k:=fun k hk=>by
  rcases hk with e|e|e|e|e|⟨t,ht,e⟩
  ·exact Or.inr (by omega)
  ·exact Or.inl e
  ·exact Or.inr (by have:(V0 ab pb n sb).pb=pb:=rfl;omega)
  ·cases e
  ·cases e
  ·cases ht
 refine⟨V',S2.filter (fun k=>decide (k<w.heap.size)),hacc,h5,(Kb.of_below hx).trans h2 (fun i hi=> ?_),fun i hi=> ?_,h1.zr,fun k hk=> ?_⟩
 ·by_cases hl:i<w.heap.size
  ·exact Or.inl (List.mem_filter.2 ⟨hi,by simpa using hl⟩)
  ·exact Or.inr (by omega)
 ·obtain⟨e1,e2⟩:=List.mem_filter.1 hi;have e2:i<w.heap.size:=by simpa using e2
  rcases h3 i e1 with e|e
  ·cases e
  ·rcases hT0 i e with e|e
   ·exact e
   ·omega
 ·rcases h4 k (Or.inr (Or.inl (by rw[hab];exact hk))) with e|e
  ·exact hT0 k e
  ·exact Or.inr (Nat.le_trans hx.size e)
end
end cin
end Go.Proofs.YtohoajjdoihekaaGreatDoor
