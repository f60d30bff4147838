import Derived.Test.YtohoajjdoihekaaGreatDoorOp
set_option linter.unusedVariables false
set_option linter.unusedSimpArgs false
namespace Go.Proofs.YtohoajjdoihekaaGreatDoor
namespace cin
open Go.RowKit Go.Proofs.Tryz Tryz
set_option maxRecDepth 100000
set_option maxHeartbeats 8000000
section
open Go.ChangeShapes Go.WideShapes Go.ChangeAt Go.RowKit
theorem zeroG:prog.globalNamed "cinder/host.zero"=some 0:=by kernel_rfl
theorem zeroT:(prog.globals[0]?).map (·.type)=some 24:=by kernel_rfl
theorem ziu {W:World} {fuel:Nat} {cs:Array Value} {p:List MemPlace} (hd:DataW.trod (fun _=>()) prog W 0 (fun _=>true) false fuel 24 cs.toList=some (Rows.laid_cinder_host_zero,p)):cs=#[.int .u64 0,.int .u64 0,.int .u64 0,.int .u64 0]:=by
 obtain⟨l⟩:=cs;cases fuel with
 |zero=>simp[DataW.trod] at hd
 |succ fuel=>
  simp only[DataW.trod,underlying24,zcN,zcm] at hd;split at hd
  ·rename_i hl
   obtain⟨c0,c1,c2,c3,rfl⟩:∃c0 c1 c2 c3,l=[c0,c1,c2,c3]:=by
    match l,hl with
    |[a,b,c,d],_=>exact⟨a,b,c,d,rfl⟩
   have e:List.range 4=[0,1,2,3]:=rfl;rw[e] at hd;simp only[Option.map_eq_some_iff,List.mapM_cons,List.mapM_nil,Option.bind_eq_bind,Option.bind_eq_some_iff,Option.pure_def,Option.some.injEq] at hd;obtain⟨xs,⟨y0,h0,_,⟨y1,h1,_,⟨y2,h2,_,⟨y3,h3,_,rfl,rfl⟩,rfl⟩,rfl⟩,rfl⟩,hx⟩:=hd;obtain⟨x0,e0,rfl,w0⟩:=DataW.trod_int underlying22 h0;obtain⟨x1,e1,rfl,w1⟩:=DataW.trod_int underlying22 h1;obtain⟨x2,e2,rfl,w2⟩:=DataW.trod_int underlying22 h2;obtain⟨x3,e3,rfl,w3⟩:=DataW.trod_int underlying22 h3;simp at e0 e1 e2 e3;subst e0 e1 e2 e3;simp[Rows.laid_cinder_host_zero] at hx;obtain⟨⟨rfl,rfl,rfl,rfl⟩,_⟩:=hx;rfl
  ·cases hd
theorem zjX {W:World} {cs:Array Value} (hvar:W.var? prog "cinder/host.zero"=some cs) (hc:cs=#[.int .u64 0,.int .u64 0,.int .u64 0,.int .u64 0]):Zr W:=by
 subst hc;unfold World.var? at hvar;rw[zeroG] at hvar;simp only[Option.bind_some] at hvar;split at hvar
 ·rename_i cs t z hb;obtain rfl:=Option.some.inj hvar;refine⟨⟨?_, ?_, ?_, ?_⟩,(Array.getElem?_eq_some_iff.1 hb).1⟩<;>simp[World.cell?,hb]
 ·cases hvar
theorem zhy {W:World} (h:laidMet prog Rows.toldRow.laid W):Zr W:=by
 obtain⟨ps,hlv, -, -⟩:=h;have hlv:DataW.LaidVars prog W [("math/bits.deBruijn32tab",Rows.laid_math_bits_deBruijn32tab),("math/bits.deBruijn64tab",Rows.laid_math_bits_deBruijn64tab),("internal/strconv.uint64pow10",Rows.laid_internal_strconv_uint64pow10),("cinder/host.zero",Rows.laid_cinder_host_zero)] ps:=hlv;obtain⟨_,_,_,_,_,_,_,_,_,_,hlv2,_⟩:=hlv;obtain⟨_,_,_,_,_,_,_,_,_,_,hlv3,_⟩:=hlv2;obtain⟨_,_,_,_,_,_,_,_,_,_,hlv4,_⟩:=hlv3;obtain⟨g,t,cs,fuel,p,q,hg,ht,hvar,hd,_,_⟩:=hlv4;obtain rfl:=Option.some.inj (zeroG.symm.trans hg);obtain rfl:=Option.some.inj (zeroT.symm.trans ht);exact zjX hvar (ziu hd)
end
end cin
end Go.Proofs.YtohoajjdoihekaaGreatDoor
