import Derived.Test.YtohoajjdoihekaaGreatDoorCd
import Derived.Test.YtohoajjdoihekaaGreatDoorCards
import Derived.Test.YtohoajjdoihekaaGreatDoorTie
import Derived.ChangeMaps5
import Derived.SevenTiedAt
import Derived.Deep.DeepHandedRow
set_option linter.unusedVariables false
set_option linter.unusedSimpArgs false
set_option linter.defProp false
namespace Go.Proofs.YtohoajjdoihekaaGreatDoor
namespace cin
open Go.RowKit Go.Proofs.Tryz Tryz
set_option maxRecDepth 100000
set_option maxHeartbeats 8000000
variable {args:Ys}{O:Nat}
section
open Go.ChangeShapes Go.WideShapes Go.ChangeAt Go.RowKit Go.ChangeMaps
def zeroG:prog.globalNamed "cinder/host.zero"=some 0:=N0
def zeroT:(prog.globals[0]?).map (·.type)=some 24:=N0
theorem AQQ{q:WD}{C:Nat}{cs:Ys}{p:List MemPlace}(u:DataW.trod (λ_=>()) prog q 0 (λ_=>true) false C 24 cs.toList=some (Rows.laid_cinder_host_zero,p)):cs=#[iU 0,iU 0,iU 0,iU 0]:=by
 let⟨l⟩:=cs;cases C with
 |zero=>simp[DataW.trod]at u
 |succ C=>
  simp only[DataW.trod,underlying24,yY,xB]at u;split at u
  .rename_i hl;obtain⟨q,c1,c2,c3,rfl⟩:∃q c1 c2 c3,l=[q,c1,c2,c3]:=by
    match l,hl with
    |[a,b,c,d],_=>exact⟨a,b,c,d,W⟩
   have e:List.range 4=[0,1,2,3]:=rfl;rw[e]at u;simp only[Y1,List.mapM_cons,List.mapM_nil,Option.bind_eq_bind,Option.bind_eq_some_iff,Option.pure_def,Option.some.injEq]at u;obtain⟨Z,⟨h,L,_,⟨X,P,_,⟨o,J,_,⟨Y,Q,_,rfl,rfl⟩,rfl⟩,rfl⟩,rfl⟩,G⟩:=u;obtain⟨x0,D,rfl,f⟩:=DataW.trod_int underlying22 L;obtain⟨j,H,rfl,R⟩:=DataW.trod_int underlying22 P;obtain⟨g,E,rfl,m⟩:=DataW.trod_int underlying22 J;obtain⟨V,I,rfl,U⟩:=DataW.trod_int underlying22 Q;simp at D H E I;subst D H E I;simp[Rows.laid_cinder_host_zero]at G;obtain⟨⟨rfl,rfl,rfl,rfl⟩,_⟩:=G;rfl
  grind
theorem rm{W:WD}{cs:Ys}(C:W.var? prog "cinder/host.zero"=some cs)(D:cs=#[iU 0,iU 0,iU 0,iU 0]):Zr W:=by
 subst D;unfold World.var? at C;rw[zeroG]at C;simp at C;split at C
 .rename_i cs t z hb;cases hV C;refine⟨⟨?_,?_,?_,?_⟩,(WY.1 hb).1⟩<;>simp[World.cell?,hb]
 grind
def pF{W:WD}(h:laidMet prog Rows.sendsUptoRow.laid W):Zr W:=by
 obtain⟨I,C, -, -⟩:=h;obtain⟨g,t,I,D,p,q,H,G,E,I,_,_⟩:=(C)
 cases hV (zeroG.symm.trans H);cases hV (zeroT.symm.trans G);grind[rm,AQQ]
def ownD:ownKnob prog.godebug=none:=N0
def PC(os:Os):laidMet prog Rows.sendsUptoRow.laid ((World.doorLaid prog 400 os).forCall (λ_ _=>0) ⟨#[],args,[]⟩).memory:=laidMet_of_run' 8 N0 N0
def sends(os:Os){D:Type}(E:Vr×VL->D):∃C,DataW.whole E prog ((World.doorLaid prog 400 os).forCall (λ_ _=>0) ⟨#[],#[.slice none 0 0],[]⟩).memory f5.params.toList Rows.sendsSpec.vars false #[.slice none 0 0].toList 8=some ([.nil],[],C):=⟨[],N0⟩
def sg(E:Type){G:Vr×VL->E}(b:WD)(c gs:List<|DataW E){C:List MemPlace}(D:∀(j:Nat) t v,f5.params[j]?=some t->args[j]?=some v->Value.okWide prog b .any O t v)(P:DataW.Whole G prog f5.params.toList Rows.sendsSpec.vars false b args.toList c gs C)(hz:Zr b)(u:Rows.uptoSmall E (c++gs)=true):cP 5 args b λe W'=>∃v,e=.returned v/\Rows.sendsSpec.post G prog f5 false true false false b args v W':=by
 have L:=P;obtain⟨p,q,I,g,rfl,f,U⟩:=P;have Q:=I;rw[params5]at Q D;obtain⟨c,Z,y,R,Y,o,J,rfl,rfl,H,A⟩:=trodAll_cons Q;obtain⟨rfl,rfl,rfl⟩:=trodAll_nil A;cases(K9:args=#[c])
 obtain⟨rfl,rfl⟩:=trodVars_none g;let⟨l,A,V⟩:=IR (D 0 61 c W W) H (by have z:=Xd u;grind[Rows.uptoBulkAll]);refine(CL l b A V hz).mono λe W'⟨d,c⟩=>?_;subst d;exact⟨_,W,_,_,_,[],_,[],L,trodAll_mk1<|shut_bool underlying4 _,(trodAll_cons_mk (Below.trod TU N0 (Xd N0) H c (show∀x∈Y,x.block<b.heap.size by let⟨m,X⟩:=H;exact DataW.trod_lt m _ _ _ X)) trodAll_mk0),W,c.frame _,λh=>by cases h⟩
def xS(os:Os)(C:os.Started)(G:Type)(E:Vr×VL->G)(F:Stop.Interp):ReturnsInHanded {} checked os 5 .any ((Rows.OpenSpec.upto Rows.sendsSpec).preRow E prog f5 Rows.sendsUptoRow.domain false Rows.sendsUptoRow.laid) (((Rows.OpenSpec.upto Rows.sendsSpec).at F).post E prog f5 false true false false):=by
 let⟨J,R⟩:=sends os E;refine returnsInHanded_of_row ownD C N0 func5
  (witness_row_at _ _ _ W N0 N0 N0
   (OpenSpec.preRow_of_cond 8 R N0 (λk U=>by cases U;kernel_rfl) N0<|PC os)) ?_
 intro U O args V P I H L _ D _ Q _ _;exact sg G U V P H L (pF Q)<|D _ W
def plainU(f:FuncId)(fn:Func)(E:pinned.checked.prog.funcNamed "cinder/cinderlaw.Sends"=some f)(C:pinned.checked.prog.funcs[f]?=some fn):false=pinned.checked.prog.looks []/\∀(j:Nat) t,fn.params[j]?=some t->pinned.checked.prog.wantsStandIn t=false:=by
 cases(hV ((N0:prog.funcNamed "cinder/cinderlaw.Sends"=some 5).symm.trans E) |>.symm:f=5);cases((hV<|func5.symm.trans C).symm:fn=f5);refine⟨N0,λj t D=>?_⟩;rw[params5]at D;cases(K9:t=61)
 exact(N0:prog.wantsStandIn 61=false)
end
end cin
end Go.Proofs.YtohoajjdoihekaaGreatDoor
