import Derived.Test.YtohoajjdoihekaaGreatDoorTw
import Derived.Deep.RegionLaw
import Derived.ArgAppend
import Derived.Shelf.SlIterI.Collect
set_option linter.unusedVariables false
set_option linter.unusedSimpArgs false
namespace Go.Proofs.YtohoajjdoihekaaGreatDoor
namespace cin
open Go.RowKit Go.Proofs.Tryz Tryz
set_option maxRecDepth 100000
set_option maxHeartbeats 8000000
section
open Go.RowKit Go.Lib
theorem znQ (r:Nat) (w:World):Calls prog 139 #[.int .i32 (r:Int)] w fun e w'=>e=.returned (.bool (zdr r))/\w'=w:=by
 by_cases h1:r=32
 ·subst h1;go_enter func139,ntmps139;go_wp2;go_ret;exact⟨rfl,rfl⟩
 ·have d1:((r:Int)==32)=false:=by simp;omega
  by_cases h2:r=9
  ·subst h2;go_enter func139,ntmps139;go_wp2;go_ret;exact⟨rfl,rfl⟩
  ·have d2:((r:Int)==9)=false:=by simp;omega
   by_cases h3:r=10
   ·subst h3;go_enter func139,ntmps139;go_wp2;go_ret;exact⟨rfl,rfl⟩
   ·have d3:((r:Int)==10)=false:=by simp;omega
    by_cases h4:r=59
    ·subst h4;go_enter func139,ntmps139;go_wp2;go_ret;exact⟨rfl,rfl⟩
    ·have d4:((r:Int)==59)=false:=by simp;omega
     have HS:Hid (zdr r=false):=decide_eq_false (by omega);go_enter func139,ntmps139;go_wp2;go_ret;exact⟨by rw[HS.out];rfl,rfl⟩
structure SP (w:World) (s:ByteArray) (p:Nat) (v:Value) (acc:List (ByteArray×Nat)) (x:World):Prop where
 it:x.heap[w.heap.size]? =some (.stringIter s p)
 ow:x.ownsRow (w.heap.size+1) 171 2 v acc.length (zaK acc)
 be:Below w.heap.size w x
theorem znt {w w':World} {base e size n:Nat} {v:Value} {xs:List Value} (h:w.ownsRow base e size v n xs) (hb:∀g,base<=g->w'.heap[g]? =w.heap[g]?):w'.ownsRow base e size v n xs:=
 ⟨h.1,h.2.imp id fun⟨g,cap,cur,h1,h2,h3,h4⟩=>⟨g,cap,cur,h1,h2,by rw[hb g h2];exact h3,h4⟩⟩
theorem SP.next {w:World} {s:ByteArray} {p:Nat} {v:Value} {acc:List (ByteArray×Nat)} {x:World} (h:SP w s p v acc x) (q:Nat):SP w s q v acc (x.iterAt w.heap.size s q):=
 ⟨iterAt_heap x _ s p q h.it,znt h.ow fun g hg=>iterAt_other x _ g s q (by omega),below_iterAt h.be (by omega) s q⟩
theorem zkh:(prog.info? 171).map (fun i=>(i.zero,i.size,i.bytes))=some (some (.agg #[.string ⟨#[]⟩,.int .i64 0]),2,24):=by kernel_rfl
theorem zgh {w:World} {b c e size n:Nat} {v:Value} {xs:List Value} (h:w.ownsRow b e size v n xs) (hc:c<=b):w.ownsRow c e size v n xs:=
 ⟨h.1,h.2.imp id fun⟨g,cap,cur,a1,a2,a3⟩=>⟨g,cap,cur,a1,Nat.le_trans hc a2,a3⟩⟩
theorem zm7 {w:World} {b e size n:Nat} {v:Value} {xs:List Value} (h:w.ownsRow b e size v n xs):∃(ad:Option Addr) (ln cp:Nat),v=.slice ad ln cp:=by
 rcases h.2 with⟨hv,_⟩|⟨g,cap,cur,hv,_⟩
 ·exact⟨_,_,_,hv⟩
 ·exact⟨_,_,_,hv⟩
theorem Z5 {w:World} {b e size n k:Nat} {v:Value} {xs:List Value} (h:w.ownsRow (b+1) e size v n xs) (hk:some k=v.ownBlock):b+1<=k:=(h.lt k hk.symm).1
theorem zaB {w:World} {b e size n:Nat} {v:Value} {xs:List Value} (h:w.ownsRow (b+1) e size v n xs):∀k,v.ownBlock=some k->b<=k:=fun k hk=>by have:=(h.lt k hk).1;omega
theorem zR (w:World) (o:Obj) (k:Nat) (h:k<w.heap.size):(w.alloc o).heap[k]? =w.heap[k]? :=Below.heap_alloc w o k h
def bgn (cur:Option (Nat×Nat)) (a:Nat) (bi:Int) (p:Nat):Prop:=(bi= -1/\cur=none)\/∃b:Nat,bi=(b:Int)/\b<p/\cur=some (b,a)
theorem zmS (s:ByteArray) (hs:s.size<=2000) (hv:Hid (Whole s)) (w:World):Calls prog 78 #[.string s] w fun e w'=>∃v,e=.returned v/\w'.ownsRow w.heap.size 171 2 v (spl s).length (zaK (spl s))/\Below w.heap.size w w':=by
 obtain⟨i0,hi0,hz0,hz1,hz2⟩:=info_parts zkh;have HI:=zb (And.intro hi0 (And.intro hz0 (And.intro hz1 hz2)));clear hi0 hz0 hz1 hz2;go_enter func78,ntmps78;go_wp2
 go_loopw [3,4,5,6,7] (fun t3 t4 t5 t6 t7 wr=>∃(p f k a:Nat) (rm:Bool) (bi:Int) (cur:Option (Nat×Nat)) (acc:List (ByteArray×Nat)),t6=.int .i64 (k:Int)/\t7=.bool rm/\t4=.int .i64 bi/\t5=.int .i64 (a:Int)/\SP w s p t3 acc wr/\k<=p/\p<=s.size/\s.size<=p+f/\acc.length<=p/\Hid (bgn cur a bi p)/\Hid (acc++zcc s f p k rm cur=spl s)/\Hid ((YW s f p k).2=true)) (fun _ _ _ _ _ wr=>s.size - wr.iterPos w.heap.size)
 case atStart=>exact⟨0,s.size,0,0,false, -1,none,[],rfl,rfl,rfl,rfl,⟨World.iter_heap w s 0,World.ownsRow_nil _ _ _ _,bal (Below.refl _ _) _⟩,by omega,by omega,by omega,by simp,Or.inl ⟨rfl,rfl⟩,rfl,hv.out.cnt⟩
 case round=>
  obtain⟨p,f,k,a,rm,bi,cur,acc,rfl,rfl,rfl,rfl,hsp,hk,hps,hf,hac,HBG,HS,HV⟩:=hrel;have HPOS:Hid (wr.iterPos w.heap.size=p):=by show _=_;simp[World.iterPos,hsp.it]
  by_cases hp:p<s.size
  ·have hnx:∀ty,(Instr.next (.pointer (some ⟨w.heap.size,0,none⟩)) true ty).run prog wr=_:=fun ty=>run_next_any_at wr w.heap.size s p ty hsp.it hp
   obtain⟨h0,hv2⟩:=zeC hp (by omega) HV.out;have HV2:=zb hv2;have hle:=zfo s p hp h0;have hpos:0<nx s p:=Nat.pos_of_ne_zero h0;rw[zbL s p h0] at hnx;have hsp2:=hsp.next (p+nx s p);have e59:=zeG s p 59 (by omega) h0;have e10:=zeG s p 10 (by omega) h0;have e32:=zeG s p 32 (by omega) h0;have e9:=zeG s p 9 (by omega) h0;have HOUT:=zb (fun(ho:(rm||zdr (byt s p))=true)=>spl_out hp (by omega) ho HS.out);have HIN:=zb (fun(ho:(rm||zdr (byt s p))=false)=>spl_in hp (by omega) ho HS.out);have HPA:=zb (znQ (Utf8.decode s p).1);clear hv2 h0 HV;generalize nx s p=n at*;generalize(Utf8.decode s p).1=r at*;generalize byt s p=c at*
   have hcls:(c=59/\((r:Int)==59)=true/\zdr r=true)\/(c=10/\((r:Int)==59)=false/\((r:Int) !=10)=false/\zdr r=true)\/(zdr c=true/\c≠59/\c≠10/\((r:Int)==59)=false/\((r:Int) !=10)=true/\zdr r=true)\/(zdr c=false/\c≠59/\c≠10/\((r:Int)==59)=false/\((r:Int) !=10)=true/\zdr r=false):=by
    unfold zdr;simp only[decide_eq_true_eq,decide_eq_false_iff_not,beq_iff_eq,bne_iff_ne,beq_eq_false_iff_ne,bne_eq_false_iff_eq,ne_eq];omega
   clear e59 e10 e32 e9;have hlt:=lt_of_block hsp2.it;have hsz:=hsp.be.size;have HLT:=zb hlt;have HSP:=zb hsp2;have HPO2:Hid ((wr.iterAt w.heap.size s (p+n)).iterPos w.heap.size=p+n):=by show _=_;simp only[World.iterPos,hsp2.it]
   clear hlt hsp2 hsp;rcases hcls with⟨hc,hr,hg⟩|⟨hc,hr,hr2,hg⟩|⟨hc,hc2,hc3,hr,hr2,hg⟩|⟨hc,hc2,hc3,hr,hr2,hg⟩
   ·subst hc;cases rm
    ·have HRM:Hid (rmk false 59=true):=rfl;have HT:=zb (HOUT.out (by rfl));rw[HRM.out] at HT;clear HOUT HIN HRM;rcases HBG.out with⟨rfl,rfl⟩|⟨b,rfl,hb,rfl⟩
     ·go_wp2_with fail
      refine(HPA.out _).mono ?_;rintro e w' ⟨rfl,rfl⟩;rw[hg];go_wp2
      go_roundw
      case rel=>exact⟨p+n,f - 1,k+1,a,true, -1,none,acc,by go_num,rfl,rfl,rfl,HSP.out,by omega,by omega,by omega,by omega,Or.inl ⟨rfl,rfl⟩,(by have h:=HT.out;simp only[fin,List.append_nil] at h;exact h),HV2⟩
      case measure=>rw[HPOS.out,HPO2.out];omega
     ·go_wp2_with fail
      refine(HPA.out _).mono ?_;rintro e w' ⟨rfl,rfl⟩;rw[hg];go_wp2_with (first|(at_builtin;obtain⟨hi0,hz0,hz1,hz2⟩:=HI.out;refine wpList_append_own _ rfl _ _ 168 rfl (w.heap.size+1) 171 i0 (.agg #[.string ⟨#[]⟩,.int .i64 0]) 2 24 (by kernel_rfl) hi0 hz0 hz1 hz2 rfl (by decide) _ _ _ rfl (HSP.out.ow.alloc _) _ 1 1 [.string (s.extract b p),.int .i64 (a:Int)] rfl rfl (zV _ #[.string (s.extract b p),.int .i64 (a:Int)] 171) (by intro u hu;simp at hu;rcases hu with rfl|rfl<;>rfl) (by unfold maxLen;omega) (by omega) (by have:=HLT.out;simp;omega) ?_;intro v' w1 ho3 hgr _;obtain⟨g',cap',rfl,hg1',hg2',hg3'⟩:=zI ho3 (by omega);have HGR:=zb hgr;have HO3:=zb ho3;clear hgr ho3 hi0 hz0 hz1 hz2 hg1' hg2' hg3'))
      go_roundw
      case rel=>exact⟨p+n,f - 1,k+1,a,true, -1,none,acc++[(s.extract b p,a)],by go_num,rfl,rfl,rfl,⟨(HGR.out.block w.heap.size (by have:=HLT.out;simp;omega) (fun e=>by have:=Z5 HSP.out.ow e;omega)).trans (by rw[zR _ _ _ HLT.out];exact HSP.out.it),by rw[List.length_append,yb];exact HO3.out,(bal HSP.out.be _).grown HGR.out (by have:=HLT.out;simp;omega) (zaB HSP.out.ow)⟩,by omega,by omega,by omega,by rw[List.length_append];show _+1<=_;omega,Or.inl ⟨rfl,rfl⟩,HT,HV2⟩
      case measure=>rw[HPOS.out];have hit:=(HGR.out.block w.heap.size (by have:=HLT.out;simp;omega) (fun e=>by have:=Z5 HSP.out.ow e;omega)).trans ((zR _ _ _ HLT.out).trans HSP.out.it);simp only[World.iterPos,hit];omega
    ·have HRM:Hid (rmk true 59=true):=rfl;have HT:=zb (HOUT.out (by rfl));rw[HRM.out] at HT;clear HOUT HIN HRM;rcases HBG.out with⟨rfl,rfl⟩|⟨b,rfl,hb,rfl⟩
     ·go_wp2
      go_roundw
      case rel=>exact⟨p+n,f - 1,k+1,a,true, -1,none,acc,by go_num,rfl,rfl,rfl,HSP.out,by omega,by omega,by omega,by omega,Or.inl ⟨rfl,rfl⟩,(by have h:=HT.out;simp only[fin,List.append_nil] at h;exact h),HV2⟩
      case measure=>rw[HPOS.out,HPO2.out];omega
     ·go_wp2_with (first|(at_builtin;obtain⟨hi0,hz0,hz1,hz2⟩:=HI.out;refine wpList_append_own _ rfl _ _ 168 rfl (w.heap.size+1) 171 i0 (.agg #[.string ⟨#[]⟩,.int .i64 0]) 2 24 (by kernel_rfl) hi0 hz0 hz1 hz2 rfl (by decide) _ _ _ rfl (HSP.out.ow.alloc _) _ 1 1 [.string (s.extract b p),.int .i64 (a:Int)] rfl rfl (zV _ #[.string (s.extract b p),.int .i64 (a:Int)] 171) (by intro u hu;simp at hu;rcases hu with rfl|rfl<;>rfl) (by unfold maxLen;omega) (by omega) (by have:=HLT.out;simp;omega) ?_;intro v' w1 ho3 hgr _;obtain⟨g',cap',rfl,hg1',hg2',hg3'⟩:=zI ho3 (by omega);have HGR:=zb hgr;have HO3:=zb ho3;clear hgr ho3 hi0 hz0 hz1 hz2 hg1' hg2' hg3'))
      go_roundw
      case rel=>exact⟨p+n,f - 1,k+1,a,true, -1,none,acc++[(s.extract b p,a)],by go_num,rfl,rfl,rfl,⟨(HGR.out.block w.heap.size (by have:=HLT.out;simp;omega) (fun e=>by have:=Z5 HSP.out.ow e;omega)).trans (by rw[zR _ _ _ HLT.out];exact HSP.out.it),by rw[List.length_append,yb];exact HO3.out,(bal HSP.out.be _).grown HGR.out (by have:=HLT.out;simp;omega) (zaB HSP.out.ow)⟩,by omega,by omega,by omega,by rw[List.length_append];show _+1<=_;omega,Or.inl ⟨rfl,rfl⟩,HT,HV2⟩
      case measure=>rw[HPOS.out];have hit:=(HGR.out.block w.heap.size (by have:=HLT.out;simp;omega) (fun e=>by have:=Z5 HSP.out.ow e;omega)).trans ((zR _ _ _ HLT.out).trans HSP.out.it);simp only[World.iterPos,hit];omega
   ·subst hc;cases rm
    ·have HRM:Hid (rmk false 10=false):=rfl;have HT:=zb (HOUT.out (by rfl));rw[HRM.out] at HT;clear HOUT HIN HRM;rcases HBG.out with⟨rfl,rfl⟩|⟨b,rfl,hb,rfl⟩
     ·go_wp2_with fail
      refine(HPA.out _).mono ?_;rintro e w' ⟨rfl,rfl⟩;rw[hg];go_wp2
      go_roundw
      case rel=>exact⟨p+n,f - 1,k+1,a,false, -1,none,acc,by go_num,rfl,rfl,rfl,HSP.out,by omega,by omega,by omega,by omega,Or.inl ⟨rfl,rfl⟩,(by have h:=HT.out;simp only[fin,List.append_nil] at h;exact h),HV2⟩
      case measure=>rw[HPOS.out,HPO2.out];omega
     ·go_wp2_with fail
      refine(HPA.out _).mono ?_;rintro e w' ⟨rfl,rfl⟩;rw[hg];go_wp2_with (first|(at_builtin;obtain⟨hi0,hz0,hz1,hz2⟩:=HI.out;refine wpList_append_own _ rfl _ _ 168 rfl (w.heap.size+1) 171 i0 (.agg #[.string ⟨#[]⟩,.int .i64 0]) 2 24 (by kernel_rfl) hi0 hz0 hz1 hz2 rfl (by decide) _ _ _ rfl (HSP.out.ow.alloc _) _ 1 1 [.string (s.extract b p),.int .i64 (a:Int)] rfl rfl (zV _ #[.string (s.extract b p),.int .i64 (a:Int)] 171) (by intro u hu;simp at hu;rcases hu with rfl|rfl<;>rfl) (by unfold maxLen;omega) (by omega) (by have:=HLT.out;simp;omega) ?_;intro v' w1 ho3 hgr _;obtain⟨g',cap',rfl,hg1',hg2',hg3'⟩:=zI ho3 (by omega);have HGR:=zb hgr;have HO3:=zb ho3;clear hgr ho3 hi0 hz0 hz1 hz2 hg1' hg2' hg3'))
      go_roundw
      case rel=>exact⟨p+n,f - 1,k+1,a,false, -1,none,acc++[(s.extract b p,a)],by go_num,rfl,rfl,rfl,⟨(HGR.out.block w.heap.size (by have:=HLT.out;simp;omega) (fun e=>by have:=Z5 HSP.out.ow e;omega)).trans (by rw[zR _ _ _ HLT.out];exact HSP.out.it),by rw[List.length_append,yb];exact HO3.out,(bal HSP.out.be _).grown HGR.out (by have:=HLT.out;simp;omega) (zaB HSP.out.ow)⟩,by omega,by omega,by omega,by rw[List.length_append];show _+1<=_;omega,Or.inl ⟨rfl,rfl⟩,HT,HV2⟩
      case measure=>rw[HPOS.out];have hit:=(HGR.out.block w.heap.size (by have:=HLT.out;simp;omega) (fun e=>by have:=Z5 HSP.out.ow e;omega)).trans ((zR _ _ _ HLT.out).trans HSP.out.it);simp only[World.iterPos,hit];omega
    ·have HRM:Hid (rmk true 10=false):=rfl;have HT:=zb (HOUT.out (by rfl));rw[HRM.out] at HT;clear HOUT HIN HRM;rcases HBG.out with⟨rfl,rfl⟩|⟨b,rfl,hb,rfl⟩
     ·go_wp2
      go_roundw
      case rel=>exact⟨p+n,f - 1,k+1,a,false, -1,none,acc,by go_num,rfl,rfl,rfl,HSP.out,by omega,by omega,by omega,by omega,Or.inl ⟨rfl,rfl⟩,(by have h:=HT.out;simp only[fin,List.append_nil] at h;exact h),HV2⟩
      case measure=>rw[HPOS.out,HPO2.out];omega
     ·go_wp2_with (first|(at_builtin;obtain⟨hi0,hz0,hz1,hz2⟩:=HI.out;refine wpList_append_own _ rfl _ _ 168 rfl (w.heap.size+1) 171 i0 (.agg #[.string ⟨#[]⟩,.int .i64 0]) 2 24 (by kernel_rfl) hi0 hz0 hz1 hz2 rfl (by decide) _ _ _ rfl (HSP.out.ow.alloc _) _ 1 1 [.string (s.extract b p),.int .i64 (a:Int)] rfl rfl (zV _ #[.string (s.extract b p),.int .i64 (a:Int)] 171) (by intro u hu;simp at hu;rcases hu with rfl|rfl<;>rfl) (by unfold maxLen;omega) (by omega) (by have:=HLT.out;simp;omega) ?_;intro v' w1 ho3 hgr _;obtain⟨g',cap',rfl,hg1',hg2',hg3'⟩:=zI ho3 (by omega);have HGR:=zb hgr;have HO3:=zb ho3;clear hgr ho3 hi0 hz0 hz1 hz2 hg1' hg2' hg3'))
      go_roundw
      case rel=>exact⟨p+n,f - 1,k+1,a,false, -1,none,acc++[(s.extract b p,a)],by go_num,rfl,rfl,rfl,⟨(HGR.out.block w.heap.size (by have:=HLT.out;simp;omega) (fun e=>by have:=Z5 HSP.out.ow e;omega)).trans (by rw[zR _ _ _ HLT.out];exact HSP.out.it),by rw[List.length_append,yb];exact HO3.out,(bal HSP.out.be _).grown HGR.out (by have:=HLT.out;simp;omega) (zaB HSP.out.ow)⟩,by omega,by omega,by omega,by rw[List.length_append];show _+1<=_;omega,Or.inl ⟨rfl,rfl⟩,HT,HV2⟩
      case measure=>rw[HPOS.out];have hit:=(HGR.out.block w.heap.size (by have:=HLT.out;simp;omega) (fun e=>by have:=Z5 HSP.out.ow e;omega)).trans ((zR _ _ _ HLT.out).trans HSP.out.it);simp only[World.iterPos,hit];omega
   ·skip;cases rm
    ·have HRM:Hid (rmk false c=false):=by show _=_;unfold rmk;rw[decide_eq_false hc2,decide_eq_true hc3];rfl
     have HT:=zb (HOUT.out (by rw[hc];rfl));rw[HRM.out] at HT;clear HOUT HIN HRM;rcases HBG.out with⟨rfl,rfl⟩|⟨b,rfl,hb,rfl⟩
     ·go_wp2_with fail
      refine(HPA.out _).mono ?_;rintro e w' ⟨rfl,rfl⟩;rw[hg];go_wp2
      go_roundw
      case rel=>exact⟨p+n,f - 1,k+1,a,false, -1,none,acc,by go_num,rfl,rfl,rfl,HSP.out,by omega,by omega,by omega,by omega,Or.inl ⟨rfl,rfl⟩,(by have h:=HT.out;simp only[fin,List.append_nil] at h;exact h),HV2⟩
      case measure=>rw[HPOS.out,HPO2.out];omega
     ·go_wp2_with fail
      refine(HPA.out _).mono ?_;rintro e w' ⟨rfl,rfl⟩;rw[hg];go_wp2_with (first|(at_builtin;obtain⟨hi0,hz0,hz1,hz2⟩:=HI.out;refine wpList_append_own _ rfl _ _ 168 rfl (w.heap.size+1) 171 i0 (.agg #[.string ⟨#[]⟩,.int .i64 0]) 2 24 (by kernel_rfl) hi0 hz0 hz1 hz2 rfl (by decide) _ _ _ rfl (HSP.out.ow.alloc _) _ 1 1 [.string (s.extract b p),.int .i64 (a:Int)] rfl rfl (zV _ #[.string (s.extract b p),.int .i64 (a:Int)] 171) (by intro u hu;simp at hu;rcases hu with rfl|rfl<;>rfl) (by unfold maxLen;omega) (by omega) (by have:=HLT.out;simp;omega) ?_;intro v' w1 ho3 hgr _;obtain⟨g',cap',rfl,hg1',hg2',hg3'⟩:=zI ho3 (by omega);have HGR:=zb hgr;have HO3:=zb ho3;clear hgr ho3 hi0 hz0 hz1 hz2 hg1' hg2' hg3'))
      go_roundw
      case rel=>exact⟨p+n,f - 1,k+1,a,false, -1,none,acc++[(s.extract b p,a)],by go_num,rfl,rfl,rfl,⟨(HGR.out.block w.heap.size (by have:=HLT.out;simp;omega) (fun e=>by have:=Z5 HSP.out.ow e;omega)).trans (by rw[zR _ _ _ HLT.out];exact HSP.out.it),by rw[List.length_append,yb];exact HO3.out,(bal HSP.out.be _).grown HGR.out (by have:=HLT.out;simp;omega) (zaB HSP.out.ow)⟩,by omega,by omega,by omega,by rw[List.length_append];show _+1<=_;omega,Or.inl ⟨rfl,rfl⟩,HT,HV2⟩
      case measure=>rw[HPOS.out];have hit:=(HGR.out.block w.heap.size (by have:=HLT.out;simp;omega) (fun e=>by have:=Z5 HSP.out.ow e;omega)).trans ((zR _ _ _ HLT.out).trans HSP.out.it);simp only[World.iterPos,hit];omega
    ·have HRM:Hid (rmk true c=true):=by show _=_;unfold rmk;rw[decide_eq_false hc2,decide_eq_true hc3];rfl
     have HT:=zb (HOUT.out (by rw[hc];rfl));rw[HRM.out] at HT;clear HOUT HIN HRM;rcases HBG.out with⟨rfl,rfl⟩|⟨b,rfl,hb,rfl⟩
     ·go_wp2
      go_roundw
      case rel=>exact⟨p+n,f - 1,k+1,a,true, -1,none,acc,by go_num,rfl,rfl,rfl,HSP.out,by omega,by omega,by omega,by omega,Or.inl ⟨rfl,rfl⟩,(by have h:=HT.out;simp only[fin,List.append_nil] at h;exact h),HV2⟩
      case measure=>rw[HPOS.out,HPO2.out];omega
     ·go_wp2_with (first|(at_builtin;obtain⟨hi0,hz0,hz1,hz2⟩:=HI.out;refine wpList_append_own _ rfl _ _ 168 rfl (w.heap.size+1) 171 i0 (.agg #[.string ⟨#[]⟩,.int .i64 0]) 2 24 (by kernel_rfl) hi0 hz0 hz1 hz2 rfl (by decide) _ _ _ rfl (HSP.out.ow.alloc _) _ 1 1 [.string (s.extract b p),.int .i64 (a:Int)] rfl rfl (zV _ #[.string (s.extract b p),.int .i64 (a:Int)] 171) (by intro u hu;simp at hu;rcases hu with rfl|rfl<;>rfl) (by unfold maxLen;omega) (by omega) (by have:=HLT.out;simp;omega) ?_;intro v' w1 ho3 hgr _;obtain⟨g',cap',rfl,hg1',hg2',hg3'⟩:=zI ho3 (by omega);have HGR:=zb hgr;have HO3:=zb ho3;clear hgr ho3 hi0 hz0 hz1 hz2 hg1' hg2' hg3'))
      go_roundw
      case rel=>exact⟨p+n,f - 1,k+1,a,true, -1,none,acc++[(s.extract b p,a)],by go_num,rfl,rfl,rfl,⟨(HGR.out.block w.heap.size (by have:=HLT.out;simp;omega) (fun e=>by have:=Z5 HSP.out.ow e;omega)).trans (by rw[zR _ _ _ HLT.out];exact HSP.out.it),by rw[List.length_append,yb];exact HO3.out,(bal HSP.out.be _).grown HGR.out (by have:=HLT.out;simp;omega) (zaB HSP.out.ow)⟩,by omega,by omega,by omega,by rw[List.length_append];show _+1<=_;omega,Or.inl ⟨rfl,rfl⟩,HT,HV2⟩
      case measure=>rw[HPOS.out];have hit:=(HGR.out.block w.heap.size (by have:=HLT.out;simp;omega) (fun e=>by have:=Z5 HSP.out.ow e;omega)).trans ((zR _ _ _ HLT.out).trans HSP.out.it);simp only[World.iterPos,hit];omega
   ·skip;cases rm
    ·have HRM:Hid (rmk false c=false):=by show _=_;unfold rmk;rw[decide_eq_false hc2,decide_eq_true hc3];rfl
     have HT:=zb (HIN.out (by rw[hc];rfl));rw[HRM.out] at HT;clear HOUT HIN HRM;rcases HBG.out with⟨rfl,rfl⟩|⟨b,rfl,hb,rfl⟩
     ·go_wp2_with fail
      refine(HPA.out _).mono ?_;rintro e w' ⟨rfl,rfl⟩;rw[hg];go_wp2
      go_roundw
      case rel=>exact⟨p+n,f - 1,k+1,k,false,(p:Int),some (p,k),acc,by go_num,rfl,rfl,rfl,HSP.out,by omega,by omega,by omega,by omega,Or.inr ⟨p,rfl,by omega,rfl⟩,HT,HV2⟩
      case measure=>rw[HPOS.out,HPO2.out];omega
     ·go_wp2_with fail
      refine(HPA.out _).mono ?_;rintro e w' ⟨rfl,rfl⟩;rw[hg];go_wp2
      go_roundw
      case rel=>exact⟨p+n,f - 1,k+1,a,false,(b:Int),some (b,a),acc,by go_num,rfl,rfl,rfl,HSP.out,by omega,by omega,by omega,by omega,Or.inr ⟨b,rfl,by omega,rfl⟩,HT,HV2⟩
      case measure=>rw[HPOS.out,HPO2.out];omega
    ·have HRM:Hid (rmk true c=true):=by show _=_;unfold rmk;rw[decide_eq_false hc2,decide_eq_true hc3];rfl
     have HT:=zb (HOUT.out (by rw[hc];rfl));rw[HRM.out] at HT;clear HOUT HIN HRM;rcases HBG.out with⟨rfl,rfl⟩|⟨b,rfl,hb,rfl⟩
     ·go_wp2
      go_roundw
      case rel=>exact⟨p+n,f - 1,k+1,a,true, -1,none,acc,by go_num,rfl,rfl,rfl,HSP.out,by omega,by omega,by omega,by omega,Or.inl ⟨rfl,rfl⟩,(by have h:=HT.out;simp only[fin,List.append_nil] at h;exact h),HV2⟩
      case measure=>rw[HPOS.out,HPO2.out];omega
     ·go_wp2_with (first|(at_builtin;obtain⟨hi0,hz0,hz1,hz2⟩:=HI.out;refine wpList_append_own _ rfl _ _ 168 rfl (w.heap.size+1) 171 i0 (.agg #[.string ⟨#[]⟩,.int .i64 0]) 2 24 (by kernel_rfl) hi0 hz0 hz1 hz2 rfl (by decide) _ _ _ rfl (HSP.out.ow.alloc _) _ 1 1 [.string (s.extract b p),.int .i64 (a:Int)] rfl rfl (zV _ #[.string (s.extract b p),.int .i64 (a:Int)] 171) (by intro u hu;simp at hu;rcases hu with rfl|rfl<;>rfl) (by unfold maxLen;omega) (by omega) (by have:=HLT.out;simp;omega) ?_;intro v' w1 ho3 hgr _;obtain⟨g',cap',rfl,hg1',hg2',hg3'⟩:=zI ho3 (by omega);have HGR:=zb hgr;have HO3:=zb ho3;clear hgr ho3 hi0 hz0 hz1 hz2 hg1' hg2' hg3'))
      go_roundw
      case rel=>exact⟨p+n,f - 1,k+1,a,true, -1,none,acc++[(s.extract b p,a)],by go_num,rfl,rfl,rfl,⟨(HGR.out.block w.heap.size (by have:=HLT.out;simp;omega) (fun e=>by have:=Z5 HSP.out.ow e;omega)).trans (by rw[zR _ _ _ HLT.out];exact HSP.out.it),by rw[List.length_append,yb];exact HO3.out,(bal HSP.out.be _).grown HGR.out (by have:=HLT.out;simp;omega) (zaB HSP.out.ow)⟩,by omega,by omega,by omega,by rw[List.length_append];show _+1<=_;omega,Or.inl ⟨rfl,rfl⟩,HT,HV2⟩
      case measure=>rw[HPOS.out];have hit:=(HGR.out.block w.heap.size (by have:=HLT.out;simp;omega) (fun e=>by have:=Z5 HSP.out.ow e;omega)).trans ((zR _ _ _ HLT.out).trans HSP.out.it);simp only[World.iterPos,hit];omega
  ·have hnx:∀ty,(Instr.next (.pointer (some ⟨w.heap.size,0,none⟩)) true ty).run prog wr=_:=fun ty=>run_next_end_at wr w.heap.size s p ty hsp.it hp
   have HE:Hid (acc++fin s p cur=spl s):=by show _=_;rw[<-HS.out,spl_end s f p k rm cur hp]
   have hpe:p=s.size:=by omega
   rcases HBG.out with⟨rfl,rfl⟩|⟨b,rfl,hb,rfl⟩
   ·have HE2:Hid (acc=spl s):=by show _=_;rw[<-HE.out];simp[fin]
    obtain⟨v,hvv⟩:∃v,v=u3:=⟨_,rfl⟩;go_wp2;obtain⟨ad,ln,cp,hsh⟩:=zm7 hsp.ow;subst hsh;go_ret;refine⟨_,rfl, ?_,hsp.be⟩;rw[<-HE2.out];exact zgh hsp.ow (by omega)
   ·have HE2:Hid (acc++[(s.extract b p,a)]=spl s):=HE.out;have hsz:=hsp.be.size;have hlt:=lt_of_block hsp.it;have HLT:=zb hlt;have HSP:=zb hsp;clear hlt hsp;subst hpe;go_wp2_with (at_builtin;obtain⟨hi0,hz0,hz1,hz2⟩:=HI.out;refine wpList_append_own _ rfl _ _ 168 rfl (w.heap.size+1) 171 i0 (.agg #[.string ⟨#[]⟩,.int .i64 0]) 2 24 (by kernel_rfl) hi0 hz0 hz1 hz2 rfl (by decide) _ _ _ rfl (HSP.out.ow.alloc _) _ 1 1 [.string (s.extract b s.size),.int .i64 (a:Int)] rfl rfl (zV _ #[.string (s.extract b s.size),.int .i64 (a:Int)] 171) (by intro u hu;simp at hu;rcases hu with rfl|rfl<;>rfl) (by unfold maxLen;omega) (by omega) (by have:=HLT.out;simp;omega) ?_;intro v' w1 ho3 hgr _;obtain⟨g',cap',rfl,hg1',hg2',hg3'⟩:=zI ho3 (by omega);have HGR:=zb hgr;have HO3:=zb ho3;clear hgr ho3 hi0 hz0 hz1 hz2 hg1' hg2' hg3')
    go_ret;refine⟨_,rfl, ?_,(bal HSP.out.be _).grown HGR.out (by have:=HLT.out;simp;omega) (zaB HSP.out.ow)⟩;rw[<-HE2.out,List.length_append,yb];exact zgh HO3.out (by omega)
end
section
open Go.RowKit Go.Lib
theorem zjz {w:World} {b e size n:Nat} {v:Value} {xs:List Value} (h:w.ownsRow b e size v n xs):∀k,v.ownBlock=some k->b<=k:=fun k hk=>(h.lt k hk).1
def nwd (s:ByteArray) (cur:Option (Nat×Nat)) (a:Nat) (x:ByteArray) (p:Nat):Prop:=(x=⟨#[]⟩/\cur=none)\/∃b:Nat,x=s.extract b p/\b<p/\cur=some (b,a)
end
structure Ri where
 i:It
 a:Nat
 p:Nat
def rit:List (ByteArray×Nat)->Nat->List Ri
 |[],_=>[]
 |x::r,p=>⟨itm x.1,x.2,p⟩::rit r (p+(itm x.1).cd.length)
def lkp (n:ByteArray):List Ri->Option Nat
 |[]=>none
 |y::r=>if y.i.k=1/\y.i.nm=n then some y.p else lkp n r
def flt (lb:ByteArray->Option Nat) (y:Ri):Nat:=
 if y.i.fl≠0 then y.i.fl else if y.i.k=1/\lb y.i.nm≠some y.p then 3 else if y.i.k=2/\lb y.i.nm=none then 3 else 0
def cwt (lb:ByteArray->Option Nat) (y:Ri):List UInt8:=
 if y.i.k=2 then[97,UInt8.ofNat ((lb y.i.nm).getD 0/256),UInt8.ofNat ((lb y.i.nm).getD 0%256)] else y.i.cd
def rn2 (lb:ByteArray->Option Nat):List Ri->List UInt8->List UInt8 ⊕ (Nat×Nat)
 |[],c=>.inl c
 |y::r,c=>if flt lb y=0 then rn2 lb r (c++cwt lb y) else .inr (flt lb y,y.a)
def YN (s:ByteArray):List Ri:=rit (spl s) 0
def zav (s:ByteArray) (n:ByteArray):Option Nat:=lkp n (YN s)
def asm (s:ByteArray):ByteArray×Nat×Nat:=
 if 2000<s.size then(⟨#[]⟩,2,0)
 else if (cnt s).2=false then(⟨#[]⟩,2,(cnt s).1)
 else match rn2 (zav s) (YN s) [] with
  |.inr (e,a)=>(⟨#[]⟩,e,a)
  |.inl c=>if 1000<c.length then(⟨#[]⟩,4,(cnt s).1) else(⟨c.toArray⟩,0,0)
def zca (s:ByteArray):Value:=.tuple #[.string (asm s).1,.int .i64 ((asm s).2.1:Int),.int .i64 ((asm s).2.2:Int)]
theorem rit_len (l:List (ByteArray×Nat)):∀p,(rit l p).length=l.length:=by
 induction l with
 |nil=>intro p;rfl
 |cons x r ih=>intro p;simp[rit,ih]
theorem zis (s:ByteArray):(itm s).cd.length<=33:=by
 unfold itm;split
 ·simp
 ·split
  ·simp
  ·unfold itN;split
   ·simp
   ·split
    ·simp
    ·split
     ·simp
     ·exact znv _
section
open Go.RowKit Go.Lib
def Ym (l:List (Ri×Value)):List Value:=l.flatMap fun y=>[.int .i64 (y.1.i.k:Int),.string y.1.i.nm,y.2,.int .i64 (y.1.i.fl:Int),.int .i64 (y.1.a:Int),.int .i64 (y.1.p:Int)]
theorem zjy (l:List (Ri×Value)) (y:Ri) (v:Value):Ym (l++[(y,v)])=Ym l++[.int .i64 (y.i.k:Int),.string y.i.nm,v,.int .i64 (y.i.fl:Int),.int .i64 (y.a:Int),.int .i64 (y.p:Int)]:=by
 unfold Ym;rw[List.flatMap_append];rfl
theorem znK (l:List (Ri×Value)) (i:Nat) (h:i<l.length):(Ym l)[i*6]? =some (.int .i64 ((l[i]).1.i.k:Int))/\(Ym l)[i*6+1]? =some (.string (l[i]).1.i.nm)/\(Ym l)[i*6+2]? =some (l[i]).2/\(Ym l)[i*6+3]? =some (.int .i64 ((l[i]).1.i.fl:Int))/\(Ym l)[i*6+4]? =some (.int .i64 ((l[i]).1.a:Int))/\(Ym l)[i*6+5]? =some (.int .i64 ((l[i]).1.p:Int)):=by
 induction l generalizing i with
 |nil=>exact absurd h (Nat.not_lt_zero _)
 |cons x r ih=>
  have e:Ym (x::r)=.int .i64 (x.1.i.k:Int)::.string x.1.i.nm::x.2::.int .i64 (x.1.i.fl:Int)::.int .i64 (x.1.a:Int)::.int .i64 (x.1.p:Int)::Ym r:=by unfold Ym;rw[List.flatMap_cons];rfl
  rw[e];cases i with
  |zero=>exact⟨rfl,rfl,rfl,rfl,rfl,rfl⟩
  |succ i=>
   have h2:=ih i (by simpa using h);rw[show(i+1)*6=i*6+6 by omega];exact h2
def two (a b:Value):Nat->Value:=fun i=>if i=0 then a else b
theorem zqi {w:World} {n:Nat} {t:TypeId} (a b:Value) (hn:n=w.heap.size):(w.alloc (.cells #[a,b] t)).rowIs n t 2 (two a b):=by
 subst hn;refine World.rowIs_alloc w _ t _ fun i hi=> ?_
 rcases(by simp at hi;omega:i=0\/i=1) with rfl|rfl<;>rfl
structure IR (base:Nat) (acc:List (Ri×Value)) (t:Value) (x:World):Prop where
 ow:x.ownsRow base 122 6 t acc.length (Ym acc)
 cd:∀y∈acc,Bys x base y.2 y.1.i.cd
theorem IR.call {base:Nat} {acc:List (Ri×Value)} {t:Value} {x y:World} (h:IR base acc t x) (hb:Below x.heap.size x y):IR base acc t y:=
 ⟨zj h.ow hb,fun z hz=>zj (h.cd z hz) hb⟩
theorem zS {w:World} {b e size n:Nat} {v:Value} {xs:List Value} (h:w.ownsRow b e size v n xs):∃(ad:Option Addr) (cp:Nat),v=.slice ad n cp:=by
 rcases h.2 with⟨hv,h0⟩|⟨g,cap,cur,hv,_⟩
 ·subst h0;exact⟨_,_,hv⟩
 ·exact⟨_,_,hv⟩
theorem zcE {w:World} {b e size n b' e' size' n':Nat} {v v':Value} {xs xs':List Value} (h:w.ownsRow b e size v n xs) (h':w.ownsRow b' e' size' v' n' xs') (hne:e≠e'):v.ownBlock=none\/v.ownBlock≠v'.ownBlock:=by
 rcases h.2 with⟨rfl,_⟩|⟨g,cap,cur,rfl,_,h1,_⟩
 ·exact Or.inl rfl
 ·rcases h'.2 with⟨rfl,_⟩|⟨g',cap',cur',rfl,_,h1',_⟩
  ·exact Or.inr (by simp[Value.ownBlock])
  ·refine Or.inr fun e1=>hne ?_
   have e2:g=g':=by simpa[Value.ownBlock] using e1
   subst e2;rw[h1] at h1';injection h1' with h2
   injection h2
theorem IR.grow {base:Nat} {acc:List (Ri×Value)} {t t':Value} {x z:World} {y:Ri} {v:Value} (h:IR base acc t x) (hg:x.grownBy z t.ownBlock) (hv:Bys x base v y.i.cd)
  (ho:z.ownsRow base 122 6 t' (acc.length+1) (Ym acc++[.int .i64 (y.i.k:Int),.string y.i.nm,v,.int .i64 (y.i.fl:Int),.int .i64 (y.a:Int),.int .i64 (y.p:Int)])):IR base (acc++[(y,v)]) t' z:=by
 refine⟨by rw[zjy,List.length_append];exact ho,fun q hq=> ?_⟩;rcases List.mem_append.1 hq with hq|hq
 ·exact World.ownsRow.kept (h.cd q hq) hg (zcE (h.cd q hq) h.ow (by decide))
 ·have e:q=(y,v):=List.mem_singleton.1 hq;subst e;exact World.ownsRow.kept hv hg (zcE hv h.ow (by decide))
theorem zoR {acc:List (Ri×Value)} {L:List (ByteArray×Nat)} {j pl:Nat} {R:List Ri} {x:ByteArray×Nat} {it:It} (v:Value) (hj:j<L.length) (hx:x=L[j]) (hi:it=itm x.1) (h:acc.map Prod.fst++rit (L.drop j) pl=R):
  (acc++[((⟨it,x.2,pl⟩:Ri),v)]).map Prod.fst++rit (L.drop (j+1)) (pl+it.cd.length)=R:=by
 rw[List.drop_eq_getElem_cons hj,<-hx,rit,<-hi] at h;rw[List.map_append,List.append_assoc];exact h
theorem info_it:(prog.info? 122).map (fun i=>(i.zero,i.size,i.bytes))=some (some (.agg #[.int .i64 0,.string ⟨#[]⟩,.slice none 0 0,.int .i64 0,.int .i64 0,.int .i64 0]),6,72):=by kernel_rfl
def zn4 (s:ByteArray) (w:World) (e:Ending) (w':World):Prop:=∃(v:Value) (l:List (Ri×Value)),e=.returned v/\IR w.heap.size l v w'/\l.map Prod.fst=YN s/\Below w.heap.size w w'
theorem zgm (s:ByteArray) (hs:s.size<=2000) (hv:Hid (Whole s)) (w:World):Calls prog 51 #[.string s] w fun e w'=>zn4 s w e w':=by
 obtain⟨i0,hi0,hz0,hz1,hz2⟩:=info_parts info_it;have HI:=zb (And.intro hi0 (And.intro hz0 (And.intro hz1 hz2)));clear hi0 hz0 hz1 hz2;have HSP:=zb (zmS s hs hv);have HL:Hid ((spl s).length<=2001):=Nat.le_trans (zil s) (by omega);have HFT:=zb (zlK hv.out);have HRL:Hid (YN s=rit (spl s) 0):=rfl;go_enter func51,ntmps51;go_wp2_with fail
 refine(HSP.out _).mono ?_;rintro e w1 ⟨v,rfl,hps,hbe1⟩;obtain⟨L,HLL⟩:∃L,Hid (L=spl s):=⟨_,rfl⟩;rw[<-HLL.out] at hps HL HFT HRL;clear HSP HLL;have HB1:=zb hbe1;have HPS:=zb hps;have hL:=HL.out;rcases hps.2 with⟨rfl,hn⟩|⟨g,cap,cur,rfl,_⟩
 ·have HE:Hid (([]:List (Ri×Value)).map Prod.fst=YN s):=by show _=_;rw[HRL.out,List.length_eq_zero_iff.1 hn];rfl
  clear hps hbe1;go_wp2
  go_loopw [3,4,11] (fun t3 t4 t11 wr=>t3=.slice none 0 0/\t11=.int .i64 0/\Hid (wr=w1)) (fun _ _ _ _=>0)
  case atStart=>exact⟨rfl,rfl,rfl⟩
  case round=>
   obtain⟨rfl,rfl,HW⟩:=hrel;go_wp2;go_ret;exact⟨_,[],rfl,⟨World.ownsRow_nil _ _ _ _,fun y hy=>by cases hy⟩,HE.out,by rw[HW.out];exact HB1.out⟩
 ·clear hps hbe1;go_wp2
  go_loopw [3,4,11] (fun t3 t4 t11 wr=>∃(j pl:Nat) (acc:List (Ri×Value)),t11=.int .i64 (j:Int)/\t4=.int .i64 (pl:Int)/\IR w1.heap.size acc t3 wr/\Below w1.heap.size w1 wr/\acc.length=j/\j<=L.length/\pl<=33*j/\Hid (acc.map Prod.fst++rit (L.drop j) pl=YN s)) (fun _ _ t11 _=>L.length - (RowKit.intOf t11).toNat)
  case atStart=>exact⟨0,0,[],rfl,rfl,⟨World.ownsRow_nil _ _ _ _,fun y hy=>by cases hy⟩,Below.refl _ _,rfl,by omega,by omega,HRL.out.symm⟩
  case round=>
   obtain⟨j,pl,acc,rfl,rfl,hir,hbe,hac,hj,hpl,HR⟩:=hrel;by_cases hlt:j<L.length
   ·have hps2:=zj HPS.out hbe;have hc1:=(hps2.cellAt (j*2) (by omega)).trans (zg5 L j hlt).1;have hc2:=(hps2.cellAt (j*2+1) (by omega)).trans (zg5 L j hlt).2;obtain⟨f1,f2,f3,f4⟩:=HFT.out (L[j]) (List.getElem_mem hlt);have HRI:=zb (zhD (L[j]).1 (Nat.le_trans f3 hs) f1 f2);obtain⟨x,HX⟩:∃x:ByteArray×Nat,Hid (x=L[j]):=⟨L[j],zb rfl⟩;rw[<-HX.out] at hc1 hc2 HRI;clear hps2 f1 f2 f3 f4;have HIR:=zb hir;have HBE:=zb hbe;clear hir hbe;go_wp2_with fail
    refine(HRI.out _).mono ?_;rintro e w2 ⟨vc,rfl,hby,hb2⟩;obtain⟨it,HIT⟩:∃it,Hid (it=itm x.1):=⟨_,rfl⟩;rw[<-HIT.out] at hby⊢;have hcdl:it.cd.length<=33:=by rw[HIT.out];exact zis _
    have hat:(w2.alloc (.cells #[.int .i64 (it.k:Int),.string it.nm,vc,.int .i64 (it.fl:Int),.int .i64 0,.int .i64 0] 122)).cell? ⟨wr.heap.size,1,none⟩=some (.int .i64 (x.2:Int)):=by
     have hr:(wr.alloc (.cells #[.string x.1,.int .i64 (x.2:Int)] 171)).rowIs wr.heap.size 171 2 (two (.string x.1) (.int .i64 (x.2:Int))):=zqi _ _ rfl;exact((zg hr hb2).alloc _).cell (i:=1) (by omega)
    have HB2:=zb hb2;have HBY:=zb hby;obtain⟨ad,cp,hsh⟩:=zS hby;subst hsh;clear hb2 hby;unfold itV
    go_upto_region 9 with fail
    obtain⟨w3,HW3⟩:∃w3,Hid (w3=w2.alloc (.cells #[.int .i64 (it.k:Int),.string it.nm,.slice ad it.cd.length cp,.int .i64 (it.fl:Int),.int .i64 (x.2:Int),.int .i64 (pl:Int)] 122)):=⟨_,rfl⟩;have hbx:Below wr.heap.size wr w3:=by rw[HW3.out];exact bal (zX (bal (Below.refl _ _) _) HB2.out) _
    have HIR3:=zb (HIR.out.call hbx);have HBE3:=zb (zX HBE.out hbx);have hrow:w3.rowIs w2.heap.size 122 6 (six (.int .i64 (it.k:Int)) (.string it.nm) (.slice ad it.cd.length cp) (.int .i64 (it.fl:Int)) (.int .i64 (x.2:Int)) (.int .i64 (pl:Int))):=by rw[HW3.out];exact zf5 _ _ _ _ _ _ rfl
    have HBY3:Hid (Bys w3 w1.heap.size (.slice ad it.cd.length cp) it.cd):=by show Bys _ _ _ _;rw[HW3.out];exact(HBY.out.alloc _).mono (by have:=HBE.out.size;simp;omega)
    have HLT:Hid (w2.heap.size<w3.heap.size/\wr.heap.size<=w2.heap.size):=⟨hrow.lt,by have:=HB2.out.size;simp at this;omega⟩;have HOB:Hid (∀k,u3.ownBlock=some k->k<wr.heap.size):=fun k hk=>(HIR.out.ow.lt k hk).2
    rw[<-HW3.out];obtain⟨c0,c1,c2,c3,c4,c5⟩:=ZG hrow;have HROW:=zb hrow;clear hrow HW3 hat HBE HB2 HBY HIR hbx;go_wp2_with (at_builtin;obtain⟨hi0,hz0,hz1,hz2⟩:=HI.out;refine wpList_append_own _ rfl _ _ 116 rfl w1.heap.size 122 i0 (.agg #[.int .i64 0,.string ⟨#[]⟩,.slice none 0 0,.int .i64 0,.int .i64 0,.int .i64 0]) 6 72 (by kernel_rfl) hi0 hz0 hz1 hz2 rfl (by decide) _ _ _ rfl (HIR3.out.ow.alloc _) _ 1 1 [.int .i64 (it.k:Int),.string it.nm,.slice ad it.cd.length cp,.int .i64 (it.fl:Int),.int .i64 (x.2:Int),.int .i64 (pl:Int)] rfl rfl (zV _ #[.int .i64 (it.k:Int),.string it.nm,.slice ad it.cd.length cp,.int .i64 (it.fl:Int),.int .i64 (x.2:Int),.int .i64 (pl:Int)] 122) (by intro u hu;simp at hu;rcases hu with rfl|rfl|rfl|rfl|rfl|rfl<;>rfl) (by unfold maxLen;omega) (by omega) (by have:=HBE3.out.size;simp;omega) ?_;intro v' w4 ho3 hgr _;obtain⟨g',cap',rfl,hg1',hg2',hg3'⟩:=zI ho3 (by omega);have hro2:=(HROW.out.alloc (.cells #[.int .i64 (it.k:Int),.string it.nm,.slice ad it.cd.length cp,.int .i64 (it.fl:Int),.int .i64 (x.2:Int),.int .i64 (pl:Int)] 122)).of_block (hgr.block w2.heap.size (by have:=HLT.out.1;simp;omega) (fun e=>by have:=HOB.out _ e.symm;have:=HLT.out.2;omega));obtain⟨q0,q1,q2,q3,q4,q5⟩:=ZG hro2;have HGR:=zb hgr;have HO3:=zb ho3;clear hgr ho3 hi0 hz0 hz1 hz2 hg1' hg2' hg3' hro2 c0 c1 c2 c3 c4 c5)
    go_roundw
    case rel=>exact⟨j+1,pl+it.cd.length,acc++[((⟨it,x.2,pl⟩:Ri),.slice ad it.cd.length cp)],by go_num,by go_num,(by have h:=IR.grow (y:=⟨it,x.2,pl⟩) (HIR3.out.call (bal (Below.refl _ _) _)) HGR.out (HBY3.out.alloc _) HO3.out;rw[hac] at h;exact h),(bal HBE3.out _).grown HGR.out (by have:=HBE3.out.size;simp;omega) (zjz HIR3.out.ow),by rw[List.length_append];show _+1=_;omega,by omega,by omega,zoR _ hlt HX.out HIT.out HR.out⟩
    case measure=>simp[RowKit.intOf];omega
   ·have HE:Hid (acc.map Prod.fst=YN s):=by show _=_;rw[<-HR.out,List.drop_of_length_le (by omega),rit,List.append_nil]
    obtain⟨ad,cp,hsh⟩:=zS hir.ow;subst hsh;go_wp2;go_ret;exact⟨_,acc,rfl,⟨zgh hir.ow HB1.out.size,fun y hy=>(hir.cd y hy).mono HB1.out.size⟩,HE.out,zX HB1.out hbe⟩
end
structure Kb (S:List Nat) (w w':World):Prop where
 os:w'.os=w.os
 tape:w'.tape=w.tape
 output:w'.output=w.output
 size:w.heap.size<=w'.heap.size
 block:∀k,k<w.heap.size->k∉S->w'.heap[k]? =w.heap[k]?
theorem Kb.refl (S:List Nat) (w:World):Kb S w w:=⟨rfl,rfl,rfl,Nat.le_refl _,fun _ _ _=>rfl⟩
theorem Kb.trans {S T:List Nat} {a b c:World} (h:Kb S a b) (k:Kb T b c) (hT:∀i∈T,i∈S\/a.heap.size<=i):Kb S a c:=
 ⟨k.os.trans h.os,k.tape.trans h.tape,k.output.trans h.output,Nat.le_trans h.size k.size,fun i hi hS=>(k.block i (Nat.lt_of_lt_of_le hi h.size) (fun hT'=>by rcases hT i hT' with h1|h1;exact hS h1;omega)).trans (h.block i hi hS)⟩
theorem Kb.mono {S T:List Nat} {a b:World} (h:Kb S a b) (hT:∀i∈S,i∈T):Kb T a b:=⟨h.os,h.tape,h.output,h.size,fun i hi hn=>h.block i hi (fun k=>hn (hT i k))⟩
theorem Kb.of_below {S:List Nat} {a b:World} (h:Below a.heap.size a b):Kb S a b:=⟨h.os,h.tape,h.output,h.size,fun i hi _=>h.block i hi⟩
theorem Kb.to_below {a b:World} (h:Kb [] a b):Below a.heap.size a b:=⟨h.os,h.tape,h.output,h.size,fun i hi=>h.block i hi (by simp)⟩
theorem Kb.below {S:List Nat} {a b c:World} (h:Kb S a b) (k:Below b.heap.size b c):Kb S a c:=h.trans (Kb.of_below (S:=[]) k) (by simp)
theorem Kb.alloc {S:List Nat} {a b:World} (h:Kb S a b) (o:Obj):Kb S a (b.alloc o):=h.below (bal (Below.refl _ _) o)
theorem Kb.drew {S:List Nat} {a b:World} (h:Kb S a b):Kb S a b.drew:=⟨h.os,h.tape,h.output,h.size,h.block⟩
theorem Kb.setCell {S:List Nat} {a b:World} (h:Kb S a b) {p:Addr} (hp:p.block∈S\/a.heap.size<=p.block) (u:Value):Kb S a (b.setCell p u):=
 h.trans (T:=[p.block]) ⟨rfl,rfl,rfl,by simp[World.setCell],fun k _ hk=>Below.heap_setCell _ _ _ _ (by simpa using hk)⟩ (by simpa using hp)
theorem Kb.setRow {S:List Nat} {a b:World} (h:Kb S a b) {g:Nat} (hg:g∈S\/a.heap.size<=g) (cs:Array Value):Kb S a (b.setRow g cs):=
 h.trans (T:=[g]) ⟨rfl,rfl,rfl,by simp[World.setRow],fun k _ hk=>setRow_other b g k cs (by simpa using hk)⟩ (by simpa using hg)
theorem Kb.grown {S:List Nat} {a b c:World} {row:Option Nat} (h:Kb S a b) (hg:b.grownBy c row) (hr:∀k,row=some k->k∈S\/a.heap.size<=k):Kb S a c:=
 h.trans (T:=row.toList) ⟨hg.os,hg.tape,hg.output,hg.size,fun k hk hn=>hg.block k hk (fun e=>hn (by rw[<-e];simp))⟩ (fun i hi=>hr i (by simpa using hi))
theorem Kb.row {S:List Nat} {a b:World} (h:Kb S a b) {g n:Nat} {t:TypeId} {f:Nat->Value} (hr:a.rowIs g t n f) (hg:g∉S):b.rowIs g t n f:=hr.of_block (h.block g hr.lt hg)
theorem Kb.own {S:List Nat} {a b:World} (h:Kb S a b) {base e size n:Nat} {v:Value} {xs:List Value} (ho:a.ownsRow base e size v n xs) (hv:∀k,v.ownBlock=some k->k∉S):b.ownsRow base e size v n xs:=by
 refine⟨ho.1, ?_⟩;rcases ho.2 with h1|⟨g,cap,cur,h1,h2,h3,h4⟩
 ·exact Or.inl h1
 ·exact Or.inr ⟨g,cap,cur,h1,h2,(h.block g (lt_of_block h3) (hv g (by rw[h1];rfl))).trans h3,h4⟩
def Zu (l:List Nat):List Value:=l.flatMap fun n=>[.int .u64 (za n 0),.int .u64 (za n 1),.int .u64 (za n 2),.int .u64 (za n 3)]
theorem zbB (l:List Nat) (n:Nat):Zu (l++[n])=Zu l++[.int .u64 (za n 0),.int .u64 (za n 1),.int .u64 (za n 2),.int .u64 (za n 3)]:=by simp[Zu]
theorem Yx (l:List Nat):(Zu l).length=l.length*4:=by
 induction l with
 |nil=>rfl
 |cons n l ih=>simp[Zu] at ih⊢;omega
def Wds (w:World) (base:Nat) (v:Value) (l:List Nat):Prop:=w.ownsRow base 24 4 v l.length (Zu l)
theorem zJ {w:World} {fb T N base e size n:Nat} {f:Nat->Value} {v:Value} {xs:List Value} (hr:w.rowIs fb T N f) (ho:w.ownsRow base e size v n xs) (hT:T≠e):∀k,v.ownBlock=some k->k≠fb:=by
 intro k hk e1;subst e1;obtain⟨c,hb,_⟩:=hr;rcases ho.2 with⟨h1,_⟩|⟨g,cap,cur,h1,h2,h3,_⟩
 ·rw[h1] at hk;cases hk
 ·rw[h1] at hk;obtain rfl:g=k:=by simpa[Value.ownBlock] using hk
  rw[hb] at h3;injection h3 with h3
  injection h3 with _ h4
  exact hT h4
structure Up (S:List Nat) (fb o:Nat) (v':Value) (w w':World):Prop where
 kb:Kb (fb::S) w w'
 row:∀{T N f},w.rowIs fb T N f->w'.rowIs fb T N (fun i=>if i=o then v' else f i)
theorem Up.mk' {S:List Nat} {fb o:Nat} {w x:World} (v':Value) (h:Kb S w x) (hS:fb∉S) (hlt:fb<w.heap.size):Up S fb o v' w (x.setCell ⟨fb,o,none⟩ v'):=
 ⟨(h.mono (fun i hi=>List.mem_cons_of_mem _ hi)).setCell (Or.inl (by simp)) _,fun hr=>(h.row hr hS).set o v'⟩
theorem Kb.up {S:List Nat} {fb o:Nat} {v':Value} {w x y:World} (h:Up S fb o v' w x) (k:Below x.heap.size x y) (hlt:fb<w.heap.size):Up S fb o v' w y:=
 ⟨h.kb.below k,fun hr=>zg (h.row hr) k⟩
theorem yR {w:World} {base e size n fb:Nat} {v:Value} {xs:List Value} (h:w.ownsRow base e size v n xs) (hne:∀k,v.ownBlock=some k->k≠fb) (o:Nat) (u:Value):(w.setCell ⟨fb,o,none⟩ u).ownsRow base e size v n xs:=
 ((Kb.refl [fb] w).setCell (p:=⟨fb,o,none⟩) (Or.inl (by simp)) u).own h (fun k hk=>by simpa using hne k hk)
def Pan (e:Ending):Prop:=∃(u:TypeId) (pv:Value),e=.panicked [{v:=.iface u pv,recovered:=false}]
theorem zh3:(prog.info? 24).map (fun i=>(i.zero,i.size,i.bytes))=some (some (.agg #[.int .u64 0,.int .u64 0,.int .u64 0,.int .u64 0]),4,32):=by kernel_rfl
def Fresh (w:World) (v v':Value):Prop:=v'.ownBlock=v.ownBlock\/∀k,v'.ownBlock=some k->w.heap.size<=k
theorem yE {P:Program} (w:World) (base:Nat) (t ty e:TypeId) (i:TypeInfo) (z:Value) (size bytes:Nat) (ht:P.underlying t=some (.slice e)) (hi:P.info? e=some i) (hz:i.zero=some z)
  (hsize:i.size=size) (hby:i.bytes=bytes) (hzs:z.cells.size=size) (hsz:0<size)
  (v:Value) (n:Nat) (xs:List Value) (hown:w.ownsRow base e size v n xs)
  (a:Addr) (m c:Nat) (news:List Value) (hl:news.length=m*size) (hnews:∀j u,news[j]? =some u->w.cell? (a.add j)=some u) (h1:∀u∈news,u.oneCell'=true)
  (h63:n+m<=maxLen) (hbytes:(n+m)*bytes<=140737488355328) (hbase:base<=w.heap.size):
  ∃v' w',(Builtin.append_ #[t,t] ty #[v,.slice (some a) m c]).run P w=.ok v' w'/\w'.ownsRow base e size v' (n+m) (xs++news)/\w.grownBy w' v.ownBlock/\Fresh w v v':=by
 obtain⟨v',w',hrun,ho,hg,hnil⟩:=run_append_own w base t ty e i z size bytes ht hi hz hsize hby hzs hsz v n xs hown a m c news hl hnews h1 h63 hbytes hbase;refine⟨v',w',hrun,ho,hg, ?_⟩;rcases hown.2 with⟨rfl,rfl⟩|⟨g,cap,cur,rfl,hb,hgb,hnc,hcm,hcs,htk⟩
 ·right;obtain rfl:xs=[]:=List.eq_nil_of_length_eq_zero (by simpa using hown.1);obtain⟨v2,w2,hrun2,ho2,hg2,_⟩:=run_append_own w w.heap.size t ty e i z size bytes ht hi hz hsize hby hzs hsz (.slice none 0 0) 0 [] (World.ownsRow_nil w _ e size) a m c news hl hnews h1 h63 hbytes (Nat.le_refl _);rw[hrun] at hrun2;injection hrun2 with e1 e2
  subst e1;exact fun k hk=>(ho2.lt k hk).1
 ·by_cases hr:n+m<=cap
  ·left;subst hsize
   have hlt:∀j,j<news.length->n*i.size+j<cur.size:=fun j hj=>by
    rw[hcs];have:(n+m)*i.size<=cap*i.size:=Nat.mul_le_mul_right _ hr;rw[Nat.add_mul] at this;omega
   have h2:=run_append_room_cells (P:=P) w t ty e i ht hi g 0 n cap a m c news hl hnews h1 hr
    (fun j hj=>by rw[Nat.zero_add,cell_of_row _ g _ cur e (0,0) hgb];simp[hlt j hj])
    (fun j hj=>by simp[World.frozen?,hgb])
   rw[hrun] at h2;injection h2 with e1 e2
   subst e1;rfl
  ·right;obtain⟨v2,w2,hrun2,ho2,hg2⟩:=run_append_arg_grows (P:=P) w t ty e i z size bytes ht hi hz hsize hby hzs hsz ⟨g,0,none⟩ n cap xs hown.1 (hown.cells rfl) a m c news hl hnews (by omega) h63 hbytes;rw[hrun] at hrun2;injection hrun2 with e1 e2
   subst e1;exact fun k hk=>(ho2.lt k hk).1
theorem zbn {P:Program} {w:World} {ops:Array Oper} {o:Oper} {a:Act} {K:Act->World->Prop} {Q:Exit->Act->World->Prop} {E:Prop} (hgd:o.guard=none) (s x:Operand) (t:TypeId)
  (ho:o.op=.call {callee:=.builtin .append,args:=#[s,x],argTypes:=#[t,t]})
  (base:Nat) (e:TypeId) (i:TypeInfo) (z:Value) (size bytes:Nat) (ht:P.underlying t=some (.slice e)) (hi:P.info? e=some i) (hz:i.zero=some z)
  (hsize:i.size=size) (hby:i.bytes=bytes) (hzs:z.cells.size=size) (hsz:0<size)
  (v:Value) (n:Nat) (xs:List Value) (hs:a.eval s=v) (hown:w.ownsRow base e size v n xs)
  (ad:Addr) (m c:Nat) (news:List Value) (hx:a.eval x=.slice (some ad) m c) (hl:news.length=m*size) (hnews:∀j u,news[j]? =some u->w.cell? (ad.add j)=some u) (h1:∀u∈news,u.oneCell'=true)
  (h63:n+m<=maxLen) (hbytes:(n+m)*bytes<=140737488355328) (hbase:base<=w.heap.size)
  (h:∀v' w',w'.ownsRow base e size v' (n+m) (xs++news)->w.grownBy w' v.ownBlock->Fresh w v v'->K (a.put o.dst v') w'):if Region.wanted o (yielded ops a.tmps)=true then Oper.wp P o a w K Q else E:=by
 rw[if_pos (zs hgd)];obtain⟨v',w',hrun,r1,r2,r3⟩:=yE w base t o.type e i z size bytes ht hi hz hsize hby hzs hsz v n xs hown ad m c news hl hnews h1 h63 hbytes hbase;unfold Oper.wp;simp[execOp,ho,resolve,invoke,builtin,hs,hx,hrun,Result.andThen];exact h v' w' r1 r2 r3
theorem zng {T N:Nat} {f:Nat->Value} (fb o n base:Nat) (l:List Nat) (v:Value) (w:World) (hr:w.rowIs fb T N f) (ho:o<N) (hv:f o=v) (hs:Wds w base v l) (hl:l.length=1024):
  Calls prog 259 #[.pointer (some ⟨fb,o,none⟩),wv n] w fun e w'=>Pan e/\Below w.heap.size w w':=by
 obtain⟨ad,cap,rfl⟩:=zS hs;rw[hl] at hv;have hc1:(w.alloc (wc n)).cell? ⟨fb,o,none⟩=some (.slice ad 1024 cap):=((bal (Below.refl _ w) (wc n)).cell (by exact hr.lt)).trans ((hr.cell ho).trans (congrArg some hv));clear hr hv hs;go_enter func259,ntmps259;go_wp2;exact⟨rfl,⟨_,_,rfl⟩,bal (Below.refl _ _) _⟩
theorem push_ok {T N:Nat} {f:Nat->Value} (fb o n base:Nat) (l:List Nat) (v:Value) (w:World) (hr:w.rowIs fb T N f) (ho:o<N) (hv:f o=v) (hT:T≠24) (hs:Wds w base v l) (hl:l.length<1024) (hb:base<=w.heap.size):
  Calls prog 259 #[.pointer (some ⟨fb,o,none⟩),wv n] w fun e w'=>e=.returned (.tuple #[])/\∃v',Wds w' base v' (l++[n])/\Fresh w v v'/\Up v.ownBlock.toList fb o v' w w':=by
 have hlt:=hr.lt;have hc:w.cell? ⟨fb,o,none⟩=some v:=(hr.cell ho).trans (congrArg some hv);have hz:w.frozen? ⟨fb,o,none⟩=false:=hr.frozen o;have hfb:=zJ hr hs hT;have HR:=zb hr;have HT:=zb hT;clear hr hv hT ho;obtain⟨i0,hi0,hz0,hz1,hz2⟩:=info_parts zh3;have HI:=zb (And.intro hi0 (And.intro hz0 (And.intro hz1 hz2)));clear hi0 hz0 hz1 hz2;obtain⟨ad,cp,rfl⟩:=zS hs;have hc1:(w.alloc (wc n)).cell? ⟨fb,o,none⟩=some (.slice ad l.length cp):=((bal (Below.refl _ w) (wc n)).cell (by exact hlt)).trans hc;have hne:((l.length:Int)==1024)=false:=by simp;omega
 have HB1:Hid (Below w.heap.size w ((w.alloc (wc n)).drew.alloc (wc n))):=bal (bal (Below.refl _ w) _).drew _;have hc2:((w.alloc (wc n)).drew.alloc (wc n)).cell? ⟨fb,o,none⟩=some (.slice ad l.length cp):=(HB1.out.cell (by exact hlt)).trans hc;have HS:Hid (Wds ((w.alloc (wc n)).drew.alloc (wc n)) base (.slice ad l.length cp) l):=zj hs HB1.out;have HC:=zb hc;have HZ:=zb hz;have HF:=zb hfb;have HLT:=zb hlt
 have HLC:Hid (∀j u,[Value.int .u64 (za n 0),.int .u64 (za n 1),.int .u64 (za n 2),.int .u64 (za n 3)][j]? =some u->((w.alloc (wc n)).drew.alloc (wc n)).cell? ((⟨w.heap.size+1,0,none⟩:Addr).add j)=some u):=by
  have h:=zV (w.alloc (wc n)).drew #[.int .u64 (za n 0),.int .u64 (za n 1),.int .u64 (za n 2),.int .u64 (za n 3)] 24;rw[show(w.alloc (wc n)).drew.heap.size=w.heap.size+1 by simp] at h;exact h
 clear hs hc hz hfb;go_enter func259,ntmps259;go_wp2
 go_region_law (obtain⟨hi0,hz0,hz1,hz2⟩:=HI.out;refine zbn rfl (.tmp 13) (.tmp 15) 135 rfl base 24 i0 (.agg #[.int .u64 0,.int .u64 0,.int .u64 0,.int .u64 0]) 4 32 (by kernel_rfl) hi0 hz0 hz1 hz2 rfl (by decide) (.slice ad l.length cp) l.length (Zu l) rfl HS.out ⟨w.heap.size+1,0,none⟩ 1 1 [.int .u64 (za n 0),.int .u64 (za n 1),.int .u64 (za n 2),.int .u64 (za n 3)] rfl rfl HLC.out (by intro u hu;simp at hu;rcases hu with rfl|rfl|rfl|rfl<;>rfl) (by unfold maxLen;omega) (by omega) (by simp;omega) ?_;intro v' x ho hgr hfr;obtain⟨g',cap',rfl,hg1,hg2,hg3⟩:=zI ho (by omega);have hxb:=hgr.block fb (Nat.lt_of_lt_of_le HLT.out HB1.out.size) (fun e=>HF.out fb e.symm rfl);have hcx:x.cell? ⟨fb,o,none⟩=some (.slice ad l.length cp):=(World.cell?_of_block hxb).trans hc2;have hzx:x.frozen? ⟨fb,o,none⟩=false:=(World.frozen?_of_block hxb).trans ((HB1.out.frozen (by exact HLT.out)).trans HZ.out);have HO:=zb ho;have HG:=zb hgr;have HFR:=zb hfr;clear hfr ho hgr hxb hg1 hg2 hg3 hi0 hz0 hz1 hz2)
 all_goals go_wp2
 all_goals go_end0
 all_goals (
  have hkb:=(Kb.of_below (S:=(Value.slice ad l.length cp).ownBlock.toList) (bal (bal (Below.refl _ w) _) _)).drew.grown HG.out (fun k hk=>Or.inl (by rw[hk];simp));have hni:fb∉(Value.slice ad l.length cp).ownBlock.toList:=fun hm=>HF.out fb (by simpa using hm) rfl
  have ho:Wds x base (.slice (some ⟨g',0,none⟩) (l.length+1) cap') (l++[n]):=by unfold Wds;rw[List.length_append,zbB];exact HO.out
  exact⟨rfl,_,yR ho (zJ (hkb.row HR.out hni) ho HT.out) o _,HFR.out.imp id (fun h k hk=>Nat.le_trans HB1.out.size (h k hk)),Up.mk' _ hkb hni HLT.out⟩)
section
open Go.Maps
theorem YA:prog.underlying 89=some (.map 24 95):=by kernel_rfl
theorem zaG:prog.underlying 93=some (.map 24 24):=by kernel_rfl
abbrev accC (bal:Nat) (code:ByteArray) (sv:Value):Array Value:=#[.int .u64 (za bal 0),.int .u64 (za bal 1),.int .u64 (za bal 2),.int .u64 (za bal 3),.string code,sv]
abbrev Z2 (bal:Nat) (code:ByteArray) (sv:Value):Value:=.agg (accC bal code sv)
abbrev zmd:Value:=.agg #[.int .u64 0,.int .u64 0,.int .u64 0,.int .u64 0,.string ⟨#[]⟩,.map none]
theorem Yj (w:World):(zeroValue 95).run prog w=.ok zmd w:=by kernel_rfl
theorem zfj (w:World):(zeroValue 24).run prog w=.ok (.agg #[.int .u64 0,.int .u64 0,.int .u64 0,.int .u64 0]) w:=by kernel_rfl
section
variable {ops:Array Oper} {rest:List Oper} {o:Oper} {a:Act} {Q:Exit->Act->World->Prop}
theorem ZX (w:World) (hg:o.guard=none) (m x v:Operand) (t:TypeId) (hop:o.op=Op.mapUpdate t m x v) (et:TypeId) (ht:prog.underlying t=some (.map 24 et)) (b n:Nat) (f:Nat->Option Value)
  (hm:a.eval m=.map (some b)) (hown:AM w b n f) (hn:n<maxLen) (k:Nat) (val:Value) (hx:a.eval x=wv k) (hv:a.eval v=val)
  (hK:∀w',AM w' b (n+1) (fun m=>if m%M=k%M then some val else f m)->w.mapTurned w' b->wpList prog ops Q rest (a.put o.dst undef) w'):
  wpList prog ops Q (o::rest) a w:=by
 refine wpList_plain hg fun K' hK'=> ?_
 obtain⟨w',hrun,r1,r2⟩:=hown.store ht hn k val;unfold Oper.wp;simp[execOp,hop,hm,hx,hv,hrun,Result.andThen];exact hK' _ _ (hK w' r1 r2)
theorem Yu (w:World) (hg:o.guard=none) (m x:Operand) (t:TypeId) (hop:o.op=Op.call {callee:=Callee.builtin Builtin.delete,args:=#[m,x],argTypes:=#[t,24]}) (et:TypeId) (ht:prog.underlying t=some (.map 24 et)) (b n:Nat) (f:Nat->Option Value)
  (hm:a.eval m=.map (some b)) (hown:AM w b n f) (k:Nat) (hx:a.eval x=wv k)
  (hK:∀w',AM w' b n (fun m=>if m%M=k%M then none else f m)->w.mapTurned w' b->wpList prog ops Q rest (a.put o.dst (.tuple #[])) w'):
  wpList prog ops Q (o::rest) a w:=by
 refine wpList_plain hg fun K' hK'=> ?_
 obtain⟨w',hrun,r1,r2⟩:=hown.drop ht k o.type;unfold Oper.wp;simp[execOp,hop,resolve,invoke,builtin,hm,hx,hrun,Result.andThen];exact hK' _ _ (hK w' r1 r2)
end
theorem yF {x y:World} {b:Nat} (h:x.mapTurned y b):Kb [b] x y:=by
 obtain⟨h1,h2,h3,h4,h5⟩:=zgX h;exact⟨h1,h2,h3,h4,fun k hk hn=>h5 k hk (by simpa using hn)⟩
theorem AM.kb {S:List Nat} {x y:World} {b n:Nat} {f:Nat->Option Value} (h:AM x b n f) (hk:Kb S x y) (hb:b∉S):AM y b n f:=h.block (hk.block b h.lt hb)
def NoSlots (w:World) (sv:Value):Prop:=sv=.map none\/∃b n f,sv=.map (some b)/\AM w b n f/\∀m,f m=none
def SomeSlots (w:World) (sv:Value):Prop:=∃b n f,sv=.map (some b)/\n<9223372036854775807/\AM w b n f/\¬∀m,f m=none
theorem zg9 (s:ByteArray):s.toList.isEmpty=decide (s=⟨#[]⟩):=by
 rw[Go.ByteArray.toList_eq,Bool.eq_iff_iff,decide_eq_true_eq,List.isEmpty_iff];constructor
 ·intro h;cases s with
  |mk d=>exact congrArg ByteArray.mk (by simpa using h)
 ·intro h;rw[h]
theorem zn2 {w:World} {sv:Value} (h:NoSlots w sv) (ty:TypeId):(Builtin.len_ #[93] ty #[sv]).run prog w=.ok (.int .i64 0) w:=by
 rcases h with rfl|⟨b,n,f,rfl,h,hf⟩
 ·exact Maps.len_nil zaG ty
 ·obtain⟨s,hr,_,hs⟩:=h.len zaG ty;rw[hr,hs.2 hf];rfl
theorem zkA {w:World} {sv:Value} (h:SomeSlots w sv) (ty:TypeId):∃s:Nat,(Builtin.len_ #[93] ty #[sv]).run prog w=.ok (.int .i64 (s:Int)) w/\((s:Int)==0)=false:=by
 obtain⟨b,n,f,rfl,hn,h,hf⟩:=h;obtain⟨s,hr,_,hs⟩:=h.len zaG ty;refine⟨s,hr, ?_⟩;have:s≠0:=fun e=>hf (hs.1 e)
 simp[this]
theorem ze5 {n:Nat} (h:n%M=0):eqw n 0=true:=by unfold eqw;rw[h];rfl
theorem ziy {n:Nat} (h:n%M≠0):eqw n 0=false:=by unfold eqw;exact decide_eq_false (by simpa using h)
abbrev putW (w:World) (at' amt:Nat) (code:ByteArray) (sv:Value):World:=(w.alloc (wc at')).alloc (.cells (accC amt code sv) 95)
theorem zbT (w:World) (at' amt:Nat) (code:ByteArray) (sv:Value):Below w.heap.size w (putW w at' amt code sv):=bal (bal (Below.refl _ w) _) _
def Zr (w:World):Prop:=(w.cell? ⟨0,0,none⟩=some (.int .u64 0)/\w.cell? ⟨0,1,none⟩=some (.int .u64 0)/\w.cell? ⟨0,2,none⟩=some (.int .u64 0)/\w.cell? ⟨0,3,none⟩=some (.int .u64 0))/\0<w.heap.size
theorem Zr.kb {S:List Nat} {w w':World} (h:Zr w) (hk:Kb S w w') (h0:0∉S):Zr w':=by
 have e:=hk.block 0 h.2 h0;obtain⟨⟨z0,z1,z2,z3⟩,z4⟩:=h;exact⟨⟨(World.cell?_of_block (w:=w) e).trans z0,(World.cell?_of_block (w:=w) e).trans z1,(World.cell?_of_block (w:=w) e).trans z2,(World.cell?_of_block (w:=w) e).trans z3⟩,Nat.lt_of_lt_of_le z4 hk.size⟩
theorem Zr.below {w w':World} (h:Zr w) (hk:Below w.heap.size w w'):Zr w':=h.kb (Kb.of_below (S:=[]) hk) (by simp)
theorem NoSlots.kb {S:List Nat} {w w':World} {sv:Value} (h:NoSlots w sv) (hk:Kb S w w') (hS:∀k,sv=.map (some k)->k∉S):NoSlots w' sv:=by
 rcases h with rfl|⟨b,n,f,rfl,h,hf⟩
 ·exact Or.inl rfl
 ·exact Or.inr ⟨b,n,f,rfl,h.kb hk (hS b rfl),hf⟩
theorem SomeSlots.kb {S:List Nat} {w w':World} {sv:Value} (h:SomeSlots w sv) (hk:Kb S w w') (hS:∀k,sv=.map (some k)->k∉S):SomeSlots w' sv:=by
 obtain⟨b,n,f,rfl,hn,h,hf⟩:=h;exact⟨b,n,f,rfl,hn,h.kb hk (hS b rfl),hf⟩
theorem emp_t:(⟨#[]⟩:ByteArray).toList.isEmpty=true:=by rw[zg9];simp
theorem emp_f {s:ByteArray} (h:s≠⟨#[]⟩):s.toList.isEmpty=false:=by rw[zg9];simpa using h
theorem zon {b n:Nat} {f:Nat->Option Value} (at' amt:Nat) (sv:Value) (w:World) (h:AM w b n f) (hb:amt%M=0) (hs:NoSlots w sv) (hz:Zr w):
  Calls prog 81 #[.map (some b),wv at',Z2 amt ⟨#[]⟩ sv] w fun e w'=>e=.returned (.tuple #[])/\AM w' b n (fun m=>if m%M=at'%M then none else f m)/\Kb [b] w w':=by
 have hB:=zbT w at' amt ⟨#[]⟩ sv;have HA:Hid (AM (putW w at' amt ⟨#[]⟩ sv) b n f):=h.kb (Kb.of_below (S:=[]) hB) (by simp);obtain⟨⟨z0,z1,z2,z3⟩,_⟩:=hz.below hB;have hl:=zn2 (hs.kb (Kb.of_below (S:=[]) hB) (by simp));have hez:=Z8 amt;rw[ze5 hb] at hez;have HB:=zb hB;have he:=emp_t;clear h hb hs hz hB;go_enter func81,ntmps81;go_wp2_with (first|(at_delete;refine Yu _ rfl _ _ 89 rfl _ YA b n f rfl HA.out at' rfl ?_;intro w1 hA hT)|go_in)
 go_wp2;refine bodyPost_ret (results_none rfl _ _ _) rfl ?_;exact⟨rfl,hA,(Kb.of_below HB.out).trans (yF hT) (by simp)⟩
theorem put_bal {b n:Nat} {f:Nat->Option Value} (at' amt:Nat) (code:ByteArray) (sv:Value) (w:World) (h:AM w b n f) (hn:n<maxLen) (hb:amt%M≠0) (hz:Zr w):
  Calls prog 81 #[.map (some b),wv at',Z2 amt code sv] w fun e w'=>e=.returned (.tuple #[])/\AM w' b (n+1) (fun m=>if m%M=at'%M then some (Z2 amt code sv) else f m)/\Kb [b] w w':=by
 have hB:=zbT w at' amt code sv;have HA:Hid (AM (putW w at' amt code sv) b n f):=h.kb (Kb.of_below (S:=[]) hB) (by simp);obtain⟨⟨z0,z1,z2,z3⟩,_⟩:=hz.below hB;have hez:=Z8 amt;rw[ziy hb] at hez;have HB:=zb hB;have HN:=zb hn;clear h hb hz hB hn;go_enter func81,ntmps81;go_wp2_with (first|(at_mapUpdate;refine ZX _ rfl _ _ _ 89 rfl _ YA b n f rfl HA.out HN.out at' (Z2 amt code sv) rfl rfl ?_;intro w1 hA hT)|go_in)
 go_wp2;go_end0;exact⟨rfl,hA,(Kb.of_below HB.out).trans (yF hT) (by simp)⟩
theorem zqj {b n:Nat} {f:Nat->Option Value} (at' amt:Nat) (code:ByteArray) (sv:Value) (w:World) (h:AM w b n f) (hn:n<maxLen) (hb:amt%M=0) (hc:code≠⟨#[]⟩) (hz:Zr w):
  Calls prog 81 #[.map (some b),wv at',Z2 amt code sv] w fun e w'=>e=.returned (.tuple #[])/\AM w' b (n+1) (fun m=>if m%M=at'%M then some (Z2 amt code sv) else f m)/\Kb [b] w w':=by
 have hB:=zbT w at' amt code sv;have HA:Hid (AM (putW w at' amt code sv) b n f):=h.kb (Kb.of_below (S:=[]) hB) (by simp);obtain⟨⟨z0,z1,z2,z3⟩,_⟩:=hz.below hB;have hez:=Z8 amt;rw[ze5 hb] at hez;have he:=emp_f hc;have HB:=zb hB;have HN:=zb hn;clear h hb hz hB hn hc;go_enter func81,ntmps81;go_wp2_with (first|(at_mapUpdate;refine ZX _ rfl _ _ _ 89 rfl _ YA b n f rfl HA.out HN.out at' (Z2 amt code sv) rfl rfl ?_;intro w1 hA hT)|go_in)
 go_wp2;go_end0;exact⟨rfl,hA,(Kb.of_below HB.out).trans (yF hT) (by simp)⟩
theorem znX {b n:Nat} {f:Nat->Option Value} (at' amt:Nat) (sv:Value) (w:World) (h:AM w b n f) (hn:n<maxLen) (hb:amt%M=0) (hs:SomeSlots w sv) (hz:Zr w):
  Calls prog 81 #[.map (some b),wv at',Z2 amt ⟨#[]⟩ sv] w fun e w'=>e=.returned (.tuple #[])/\AM w' b (n+1) (fun m=>if m%M=at'%M then some (Z2 amt ⟨#[]⟩ sv) else f m)/\Kb [b] w w':=by
 have hB:=zbT w at' amt ⟨#[]⟩ sv;have HA:Hid (AM (putW w at' amt ⟨#[]⟩ sv) b n f):=h.kb (Kb.of_below (S:=[]) hB) (by simp);obtain⟨⟨z0,z1,z2,z3⟩,_⟩:=hz.below hB;obtain⟨s,hl,hs0⟩:=zkA (hs.kb (Kb.of_below (S:=[]) hB) (by simp)) 3;have hez:=Z8 amt;rw[ze5 hb] at hez;have he:=emp_t;have HB:=zb hB;have HN:=zb hn;clear h hb hz hB hn hs;go_enter func81,ntmps81;go_wp2_with (first|(at_mapUpdate;refine ZX _ rfl _ _ _ 89 rfl _ YA b n f rfl HA.out HN.out at' (Z2 amt ⟨#[]⟩ sv) rfl rfl ?_;intro w1 hA hT)|go_in)
 go_wp2;go_end0;exact⟨rfl,hA,(Kb.of_below HB.out).trans (yF hT) (by simp)⟩
end
section
open Go.Maps
structure Acc where
 bal:Nat
 code:ByteArray
 slots:Nat->Nat
def Acc.no (a:Acc):Prop:=a.bal%M=0/\a.code=⟨#[]⟩/\∀k,a.slots k%M=0
def Zs (s:Nat->Nat) (k:Nat):Option Value:=if s k%M=0 then none else some (wv (s k))
def SlotsOk (w:World) (n ab:Nat) (s:Nat->Nat) (v:Value):Prop:=(v=.map none/\∀k,s k%M=0)\/∃b,v=.map (some b)/\b≠ab/\AM w b n (Zs s)
theorem SlotsOk.kb {S:List Nat} {w w':World} {n m ab:Nat} {s:Nat->Nat} {v:Value} (h:SlotsOk w n ab s v) (hk:Kb S w w') (hS:∀k,v=.map (some k)->k∉S) (hm:n<=m):SlotsOk w' m ab s v:=by
 rcases h with h|⟨b,h1,h2,h3⟩
 ·exact Or.inl h
 ·exact Or.inr ⟨b,h1,h2,(h3.kb hk (hS b h1)).mono hm⟩
theorem SlotsOk.is {w:World} {n ab:Nat} {s:Nat->Nat} {v:Value} (h:SlotsOk w n ab s v):∃o,v=.map o:=by
 rcases h with⟨e,_⟩|⟨b,e,_⟩
 ·exact⟨_,e⟩
 ·exact⟨_,e⟩
structure AccsX (ab n:Nat) (A:Nat->Acc) (sb:Nat->Value) (at':Nat) (w:World):Prop where
 map:∃f,AM w ab n f/\∀m,m%M≠at'%M->((A m).no->f m=none)/\(¬(A m).no->f m=some (Z2 (A m).bal (A m).code (sb m)))
 slot:∀m,m%M≠at'%M->¬(A m).no->SlotsOk w n ab (A m).slots (sb m)
 inj:∀m m' b,m%M≠at'%M->m'%M≠at'%M->¬(A m).no->¬(A m').no->sb m=.map (some b)->sb m'=.map (some b)->m%M=m'%M
 cong:∀m m',m%M=m'%M->A m=A m'/\sb m=sb m'
structure Accs (ab n:Nat) (A:Nat->Acc) (sb:Nat->Value) (w:World):Prop where
 map:∃f,AM w ab n f/\∀m,((A m).no->f m=none)/\(¬(A m).no->f m=some (Z2 (A m).bal (A m).code (sb m)))
 slot:∀m,¬(A m).no->SlotsOk w n ab (A m).slots (sb m)
 inj:∀m m' b,¬(A m).no->¬(A m').no->sb m=.map (some b)->sb m'=.map (some b)->m%M=m'%M
 cong:∀m m',m%M=m'%M->A m=A m'/\sb m=sb m'
theorem Accs.x {ab n:Nat} {A:Nat->Acc} {sb:Nat->Value} {w:World} (h:Accs ab n A sb w) (at':Nat):AccsX ab n A sb at' w:=
 ⟨by obtain⟨f,h1,h2⟩:=h.map;exact⟨f,h1,fun m _=>h2 m⟩,fun m _=>h.slot m,fun m m' b _ _=>h.inj m m' b,h.cong⟩
def ZZ (ab:Nat) (A:Nat->Acc) (sb:Nat->Value) (k:Nat):Prop:=k=ab\/∃m,¬(A m).no/\sb m=.map (some k)
theorem Accs.kb {S:List Nat} {ab n:Nat} {A:Nat->Acc} {sb:Nat->Value} {w w':World} (h:Accs ab n A sb w) (hk:Kb S w w') (hS:∀k∈S,¬ZZ ab A sb k):Accs ab n A sb w':=by
 refine⟨?_,fun m hm=>(h.slot m hm).kb hk (fun k e hk=>hS k hk (Or.inr ⟨m,hm,e⟩)) (Nat.le_refl _),h.inj,h.cong⟩;obtain⟨f,h1,h2⟩:=h.map;exact⟨f,h1.kb hk (fun hk=>hS _ hk (Or.inl rfl)),h2⟩
theorem AccsX.kb {S:List Nat} {ab n at':Nat} {A:Nat->Acc} {sb:Nat->Value} {w w':World} (h:AccsX ab n A sb at' w) (hk:Kb S w w') (h1:ab∉S) (hS:∀m k,m%M≠at'%M->¬(A m).no->sb m=.map (some k)->k∉S):AccsX ab n A sb at' w':=by
 refine⟨?_,fun m ha hm=>(h.slot m ha hm).kb hk (fun k e=>hS m k ha hm e) (Nat.le_refl _),h.inj,h.cong⟩;obtain⟨f,h3,h2⟩:=h.map;exact⟨f,h3.kb hk h1,h2⟩
theorem Accs.lt {ab n:Nat} {A:Nat->Acc} {sb:Nat->Value} {w:World} (h:Accs ab n A sb w) {k:Nat} (hk:ZZ ab A sb k):k<w.heap.size:=by
 rcases hk with rfl|⟨m,h1,h2⟩
 ·obtain⟨f,h1,_⟩:=h.map;exact h1.lt
 ·rcases h.slot m h1 with⟨e,_⟩|⟨b,e,_,h3⟩
  ·rw[e] at h2;cases h2
  ·rw[e] at h2;injection h2 with h2;injection h2 with h2;subst h2;exact h3.lt
def Zv {α:Type} (A:Nat->α) (at':Nat) (a:α):Nat->α:=fun m=>if m%M=at'%M then a else A m
theorem YE {α:Type} {A:Nat->α} {at':Nat} {a:α} {m:Nat} (h:m%M=at'%M):Zv A at' a m=a:=if_pos h
theorem yC {α:Type} {A:Nat->α} {at':Nat} {a:α} {m:Nat} (h:m%M≠at'%M):Zv A at' a m=A m:=if_neg h
theorem zaO {α:Type} {A:Nat->α} (at':Nat) (a:α) {m m':Nat} (e:m%M=m'%M) (h:A m=A m'):Zv A at' a m=Zv A at' a m':=by
 unfold Zv;rw[e,h]
theorem AccsX.put {ab n at':Nat} {A:Nat->Acc} {sb:Nat->Value} {a:Acc} {sv:Value} {w w':World} {f':Nat->Option Value} (h:AccsX ab n A sb at' w) (hs:SlotsOk w n ab a.slots sv)
  (hd:∀m b,m%M≠at'%M->¬(A m).no->sb m=.map (some b)->sv≠.map (some b)) (hk:Kb [ab] w w') {f:Nat->Option Value} (hf:AM w ab n f) (hf':∀m,m%M≠at'%M->((A m).no->f m=none)/\(¬(A m).no->f m=some (Z2 (A m).bal (A m).code (sb m))))
  (hm:AM w' ab (n+1) f') (hne:∀m,m%M≠at'%M->f' m=f m) (hat:∀m,m%M=at'%M->(a.no->f' m=none)/\(¬a.no->f' m=some (Z2 a.bal a.code sv))):Accs ab (n+1) (Zv A at' a) (Zv sb at' sv) w':=by
 have nab:∀{s v b},SlotsOk w n ab s v->v=.map (some b)->b∉[ab]:=fun hs e=>by
  rcases hs with⟨e1,_⟩|⟨b,e1,hb,_⟩
  ·rw[e1] at e;cases e
  ·rw[e1] at e;injection e with e;injection e with e;subst e;simpa using hb
 refine⟨⟨f',hm,fun m=> ?_⟩,fun m hno=> ?_,fun m m' b h1 h2 e1 e2=> ?_,fun m m' e=>⟨zaO _ _ e (h.cong m m' e).1,zaO _ _ e (h.cong m m' e).2⟩⟩
 ·by_cases e:m%M=at'%M
  ·rw[YE e,YE e];exact hat m e
  ·rw[yC e,yC e,hne m e];exact hf' m e
 ·by_cases e:m%M=at'%M
  ·rw[YE e,YE e];exact hs.kb hk (fun k e2=>nab hs e2) (Nat.le_succ _)
  ·rw[yC e] at hno;rw[yC e,yC e];exact(h.slot m e hno).kb hk (fun k e2=>nab (h.slot m e hno) e2) (Nat.le_succ _)
 ·by_cases a1:m%M=at'%M
  ·by_cases a2:m'%M=at'%M
   ·rw[a1,a2]
   ·rw[YE a1] at e1;rw[yC a2] at e2 h2;exact absurd e1 (hd m' b a2 h2 e2)
  ·by_cases a2:m'%M=at'%M
   ·rw[YE a2] at e2;rw[yC a1] at e1 h1;exact absurd e2 (hd m b a1 h1 e1)
   ·rw[yC a1] at e1 h1;rw[yC a2] at e2 h2;exact h.inj m m' b a1 a2 h1 h2 e1 e2
theorem zh6 {ab n at':Nat} {A:Nat->Acc} {sb:Nat->Value} (a:Acc) (sv:Value) (w:World) (h:AccsX ab n A sb at' w) (hs:SlotsOk w n ab a.slots sv)
  (hd:∀m b,m%M≠at'%M->¬(A m).no->sb m=.map (some b)->sv≠.map (some b)) (hn:n<1000000000000) (hz:Zr w):
  Calls prog 81 #[.map (some ab),wv at',Z2 a.bal a.code sv] w fun e w'=>e=.returned (.tuple #[])/\Accs ab (n+1) (Zv A at' a) (Zv sb at' sv) w'/\Kb [ab] w w':=by
 have hml:n<maxLen:=by unfold maxLen;omega
 obtain⟨f,hf,hf'⟩:=h.map
 have some':∀{e w'},¬a.no->(e=.returned (.tuple #[])/\AM w' ab (n+1) (fun m=>if m%M=at'%M then some (Z2 a.bal a.code sv) else f m)/\Kb [ab] w w')->(e=Ending.returned (.tuple #[])/\Accs ab (n+1) (Zv A at' a) (Zv sb at' sv) w'/\Kb [ab] w w'):=by
  rintro e w' hno ⟨h1,h2,h3⟩;refine⟨h1,h.put hs hd h3 hf hf' h2 (fun m hm=>if_neg hm) (fun m hm=>⟨fun hc=>absurd hc hno,fun _=>if_pos hm⟩),h3⟩
 by_cases hb:a.bal%M=0
 ·by_cases hc:a.code=⟨#[]⟩
  ·by_cases hk:∀k,a.slots k%M=0
   ·have hns:NoSlots w sv:=by
     rcases hs with⟨e,_⟩|⟨b,e,_,h3⟩
     ·exact Or.inl e
     ·exact Or.inr ⟨b,n,_,e,h3,fun m=>if_pos (hk m)⟩
    rw[hc];refine(zon at' a.bal sv w hf hb hns hz).mono ?_;rintro e w' ⟨h1,h2,h3⟩;exact⟨h1,h.put hs hd h3 hf hf' (h2.mono (Nat.le_succ _)) (fun m hm=>if_neg hm) (fun m hm=>⟨fun _=>if_pos hm,fun hc'=>absurd ⟨hb,hc,hk⟩ hc'⟩),h3⟩
   ·have hss:SomeSlots w sv:=by
     rcases hs with⟨e,h0⟩|⟨b,e,_,h3⟩
     ·exact absurd h0 hk
     ·refine⟨b,n,_,e,by omega,h3,fun h4=>hk fun k=> ?_⟩;have h5:=h4 k;unfold Zs at h5;split at h5
      ·assumption
      ·cases h5
    have hno:¬a.no:=fun h=>hk h.2.2
    have some'':=@some';rw[hc] at some''⊢;exact(znX at' a.bal sv w hf hml hb hss hz).mono fun e w' h=>some'' hno h
  ·exact(zqj at' a.bal a.code sv w hf hml hb hc hz).mono fun e w' h=>some' (fun h=>hc h.2.1) h
 ·exact(put_bal at' a.bal a.code sv w hf hml hb hz).mono fun e w' h=>some' (fun h=>hb h.1) h
theorem zk7 {a b:Nat} (h:a%M=b%M) {c:ByteArray} {s:Value}:Z2 a c s=Z2 b c s:=by
 have e:=yo h;injection e with e
 injection e with e
 injection e with h0 e
 injection e with h1 e
 injection e with h2 e
 injection e with h3 e
 unfold Z2 accC;rw[h0,h1,h2,h3]
theorem AccsX.mono {ab n m at':Nat} {A:Nat->Acc} {sb:Nat->Value} {w:World} (h:AccsX ab n A sb at' w) (hn:n<=m):AccsX ab m A sb at' w:=
 ⟨by obtain⟨f,h1,h2⟩:=h.map;exact⟨f,h1.mono hn,h2⟩,fun k h1 h2=>(h.slot k h1 h2).kb (Kb.refl [] w) (by simp) hn,h.inj,h.cong⟩
theorem Accs.mono {ab n m:Nat} {A:Nat->Acc} {sb:Nat->Value} {w:World} (h:Accs ab n A sb w) (hn:n<=m):Accs ab m A sb w:=
 ⟨by obtain⟨f,h1,h2⟩:=h.map;exact⟨f,h1.mono hn,h2⟩,fun k h2=>(h.slot k h2).kb (Kb.refl [] w) (by simp) hn,h.inj,h.cong⟩
theorem Accs.read {ab n:Nat} {A:Nat->Acc} {sb:Nat->Value} {w:World} (h:Accs ab n A sb w) (at':Nat) {f:Nat->Option Value} (hf:∀m,((A m).no->f m=none)/\(¬(A m).no->f m=some (Z2 (A m).bal (A m).code (sb m)))):
  ∃sv,(f at').getD zmd=Z2 (A at').bal (A at').code sv/\SlotsOk w n ab (A at').slots sv/\(∀m b,m%M≠at'%M->¬(A m).no->sb m=.map (some b)->sv≠.map (some b))/\(∀b,sv=.map (some b)->ZZ ab A sb b):=by
 by_cases hno:(A at').no
 ·refine⟨.map none, ?_,Or.inl ⟨rfl,hno.2.2⟩,fun m b _ _ _ e=>(by cases e),fun b e=>(by cases e)⟩;rw[(hf at').1 hno,hno.2.1,zk7 (show(A at').bal%M=0%M from hno.1)];simp[Z2,accC,zn]
 ·refine⟨sb at', ?_,h.slot at' hno,fun m b hm hm2 e e2=>hm (h.inj m at' b hm2 hno e e2),fun b e=>Or.inr ⟨at',hno,e⟩⟩;rw[(hf at').2 hno];rfl
abbrev b2 (w:World) (a c:Nat):World:=(w.alloc (wc a)).alloc (wc c)
theorem ze0 {ab n:Nat} {A:Nat->Acc} {sb:Nat->Value} (at' v:Nat) (w:World) (h:Accs ab n A sb w) (hn:n<1000000000000) (hz:Zr w):
  Calls prog 206 #[.map (some ab),wv at',wv v] w fun e w'=>e=.returned (.tuple #[])/\(∃sv,(∀b,sv=.map (some b)->ZZ ab A sb b)/\Accs ab (n+1) (Zv A at' {A at' with bal:=v}) (Zv sb at' sv) w')/\Kb [ab] w w':=by
 have hB:Below w.heap.size w (b2 w at' v):=bal (bal (Below.refl _ w) _) _;obtain⟨f,hf,hf'⟩:=h.map;obtain⟨sv,e1,e3,e4,e5⟩:=h.read at' hf';have hlk:=(hf.kb (Kb.of_below (S:=[]) hB) (by simp)).look YA Yj at';rw[e1] at hlk
 have HP:Hid (∀x,Kb [] w x->Calls prog 81 #[.map (some ab),wv at',Z2 v (A at').code sv] x fun e w'=>e=.returned (.tuple #[])/\Accs ab (n+1) (Zv A at' {A at' with bal:=v}) (Zv sb at' sv) w'/\Kb [ab] x w'):=fun x hx=>
  zh6 {A at' with bal:=v} sv x ((h.x at').kb hx (by simp) (by simp)) (e3.kb hx (by simp) (Nat.le_refl _)) e4 hn (hz.kb hx (by simp))
 have HE:=zb e5;obtain⟨o,rfl⟩:=e3.is;clear h hn hz hB hf hf' e1 e3 e4 e5;generalize(A at').bal=bl at*;generalize(A at').code=cd at*;go_enter func206,ntmps206;go_wp2_with fail
 have hk0:Kb [] w ((b2 w at' v).alloc (Obj.cells #[.int .u64 (za v 0),.int .u64 (za v 1),.int .u64 (za v 2),.int .u64 (za v 3),.string cd,.map o] 95)):=(((Kb.refl [] w).alloc _).alloc _).alloc _;refine(HP.out _ hk0).mono ?_;rintro e w1 ⟨rfl,hA,hK⟩;have HO:Hid ((∃sv,(∀b,sv=.map (some b)->ZZ ab A sb b)/\Accs ab (n+1) (Zv A at' {A at' with bal:=v}) (Zv sb at' sv) w1)/\Kb [ab] w w1):=⟨⟨_,HE.out,hA⟩,(hk0.mono (by simp)).trans hK (by simp)⟩;clear hA hK hk0 HP HE hlk;go_wp2;go_end0;exact⟨rfl,HO.out⟩
end
section
open Go.RowKit Go.Maps Go.Sort Go.Shelf
def zci (f:Nat->Option Value) (ss:List Nat):Prop:=ss.Nodup/\∀m,m∈ss↔m<M/\(f m).isSome=true
def CollW (D:DataW Value) (left:Lit->Bool) (ss:List Nat):Prop:=ss.Nodup/\∀m,m∈ss↔m<M/\∀kl,keyOf prog 24 (wv m)=some kl->has D kl=true/\left kl=false
theorem CollW.start (D:DataW Value):CollW D (has D) []:=by
 refine⟨List.nodup_nil,fun m=>Iff.intro (fun h=>absurd h (by simp)) (fun h=> ?_)⟩;obtain⟨l,hl⟩:=zcs m;have:=h.2 l hl;rw[this.1] at this;cases this.2
theorem CollW.step {D:DataW Value} {left:Lit->Bool} {ss:List Nat} (h:CollW D left ss) {x:Nat} (hx:x<M) {kl:Lit} {y:DataW Value} (hk:keyOf prog 24 (wv x)=some kl) (hlk:left kl=true) (hat:∀zd,D.atKey kl zd=y):CollW D (fun z=>left z&& !z.sameKey kl) (ss++[x]):=by
 have hhas:has D kl=true:=has_true_of_atKey hat
 have hnew:x∉ss:=fun hm=>by
  have:=(((h.2 x).1 hm).2 kl hk).2;rw[hlk] at this;cases this
 refine⟨List.nodup_append.2 ⟨h.1,by simp,fun a ha b hb=>by simp at hb;subst hb;exact fun e=>hnew (e▸ha)⟩,fun m=> ?_⟩;by_cases hy:m=x
 ·subst hy;refine⟨fun _=>⟨hx,fun l hl=> ?_⟩,fun _=>by simp⟩;obtain rfl:l=kl:=Option.some.inj (hl.symm.trans hk);exact⟨hhas,by simp[WideAt.sameKey_self (wd_keyed.key hk)]⟩
 ·rw[List.mem_append];refine⟨fun hm=> ?_,fun hm=>Or.inl ((h.2 m).2 ⟨hm.1,fun l hl=> ?_⟩)⟩
  ·rcases hm with hm|hm
   ·obtain⟨h1,h2⟩:=(h.2 m).1 hm;exact⟨h1,fun l hl=>⟨(h2 l hl).1,by show(left l&&_)=false;rw[(h2 l hl).2];rfl⟩⟩
   ·exact absurd (by simpa using hm) hy
  ·obtain⟨h1,h2⟩:=hm.2 l hl;refine⟨h1, ?_⟩
   have hne:l≠kl:=fun e=>hy (by
    have:=zfC (wd_keyed.inj (e▸hl) hk);rw[Nat.mod_eq_of_lt hm.1,Nat.mod_eq_of_lt hx] at this;exact this)
   have h2:(left l&& !l.sameKey kl)=false:=h2;rw[sameKey_ne hne] at h2;simpa using h2
theorem CollW.done {D:DataW Value} {left:Lit->Bool} {ss:List Nat} {g:Value->Option Value} {f:Nat->Option Value} (h:CollW D left ss) (hl:∀kl,left kl=false) (hg:∀v l,keyOf prog 24 v=some l->has D l=(g v).isSome) (hf:∀m,g (wv m)=f m):zci f ss:=by
 refine⟨h.1,fun m=> ?_⟩;rw[h.2 m];refine and_congr Iff.rfl ⟨fun h2=> ?_,fun h2 kl hk=>⟨by rw[hg _ _ hk,hf];exact h2,hl kl⟩⟩;obtain⟨kl,hk⟩:=zcs m;have:=(h2 kl hk).1;rw[hg _ _ hk,hf] at this;exact this
abbrev FA:Fence:={fn:=fun _=>True}
theorem grownBy_alloc (w:World) (o:Obj):w.grownBy (w.alloc o) none:=⟨rfl,rfl,rfl,by simp,fun k hk _=>Below.heap_alloc _ _ k hk⟩
theorem mod_M (x:Nat):x%M<M:=Nat.mod_lt _ (by unfold M;omega)
theorem keys1_a (n:Nat) (hn:1<=n) (l Bm b nn:Nat) (f:Nat->Option Value) (J:List Nat->World->Prop)
  (hY:∀pre x W,J pre W->pre.length<nn->YieldAt FA (n - 1) prog l #[wv x] W fun e W'=>e=.returned (.bool true)/\J (pre++[x]) W'/\KeepsWalks W W')
  (W:World) (hJ:AbidesFrom W.heap.size J) (hm:W.cell? ⟨Bm,0,none⟩=some (.map (some b))) (ha:AM W b nn f) (h0:J [] W):
  CallsIn FA n prog 136 #[.func (.yield l) #[] #[],.pointer (some ⟨Bm,0,none⟩)] W fun e W'=>(∃v,e=.returned v)/\∃ss:List Nat,zci f ss/\J ss W':=by
 obtain⟨g,⟨D0,hown,hD⟩,hf⟩:=ha;have hsl:=hown.size_le;refine callsIn_of_wp func136 rfl trivial ?_ rfl;simp only[ntmps136,List.size_toArray,List.length_cons,List.length_nil,Nat.reduceAdd,Nat.reduceSub,Array.replicate_succ,Array.replicate_zero,List.push_toArray,List.append_toArray,List.nil_append,List.cons_append]
 gi_wp2_with (first
  |(gi_at_range;refine wpListIn_range_own _ rfl _ 89 rfl 24 95 wd_keyed (by kernel_rfl) _ b nn _ rfl hown ?_;intro w0 hrg0 hg0 hs0)
  |gi_in)
 go_frame
 gi_loopw [3] (fun _ wr=>∃(left:Lit->Bool) (cnt:Nat) (ss:List Nat),wr.ranges prog 24 zfG b W.heap.size nn D0 left cnt/\ss.length+cnt<=Maps.size D0/\CollW D0 left ss/\J ss wr)
  (fun _ wr=>wr.rangeLeft b W.heap.size)
 case atStart=>
  exact⟨_,_,[],hrg0,by simp,CollW.start D0,hJ [] W w0 none h0 hg0 (fun r e=>by cases e)⟩
 case round=>
  obtain⟨left,cnt,ss,hrg,hcs,hC,hJs⟩:=hrel
  gi_wp2_with (first
   |(gi_at_next;refine wpListIn_next_ranges _ rfl _ rfl 24 wd_keyed zfG wv id (fun key kl hk=>zcG hk) (fun v _ _=>⟨v,rfl⟩) b W.heap.size nn _ _ _ rfl hrg ?_ ?_)
   |gi_in)
  ·intro hc0 hl0
   gi_wp2
   go_end0;exact⟨⟨_,rfl⟩,ss,hC.done hl0 (fun v l hl=>(hD v l hl).1) hf,hJs⟩
  ·intro x c kl yd yp w2 cnt2 hkey hlk hv hat hrg2 hlt hg2 hs2 hen;obtain⟨x',hx',ex⟩:∃x',x'<M/\wv x=wv x':=⟨x%M,mod_M x,yo (Nat.mod_mod x M).symm⟩;rw[ex] at hkey hen;have hC2:=hC.step hx' hkey hlk hat;have hJ2:J ss w2:=hJ ss wr w2 (some W.heap.size) hJs hg2 (fun r e=>by cases e;exact⟨Nat.le_refl _,hrg.iter_walk⟩);clear hs2;rw[ex];have hJ3:J ss (w2.alloc (.cells #[.int .u64 (za x' 0),.int .u64 (za x' 1),.int .u64 (za x' 2),.int .u64 (za x' 3)] 24)):=hJ ss w2 _ none hJ2 (grownBy_alloc _ _) (fun r e=>by cases e);have hrg3:=hrg2.of_walks (KeepsWalks.alloc w2 (.cells #[.int .u64 (za x' 0),.int .u64 (za x' 1),.int .u64 (za x' 2),.int .u64 (za x' 3)] 24));obtain⟨fn,tmps,assign,body,hy,hR⟩:=hY ss x' _ hJ3 (by omega);have hy:(Instr.yield l #[.agg #[.int .u64 (za x' 0),.int .u64 (za x' 1),.int .u64 (za x' 2),.int .u64 (za x' 3)]]).run prog (w2.alloc (.cells #[.int .u64 (za x' 0),.int .u64 (za x' 1),.int .u64 (za x' 2),.int .u64 (za x' 3)] 24))=.ok (.round l fn tmps assign body) (w2.alloc (.cells #[.int .u64 (za x' 0),.int .u64 (za x' 1),.int .u64 (za x' 2),.int .u64 (za x' 3)] 24)):=hy
   gi_wp2
   refine hR.mono ?_;rintro e W3 ⟨rfl,hJ4,hk4⟩
   gi_wp2
   have hrg4:=hrg3.of_walks hk4
   go_roundw
   case rel=>exact⟨_,cnt2,ss++[x'],hrg4,by simp;omega,hC2,hJ4⟩
   case measure=>rw[hrg4.left_eq,hrg.left_eq];exact hlt
theorem keys_a (mb:Option Nat) (w:World):
  Calls prog 75 #[.map mb] w fun e w'=>e=.returned (.func (.func 136) #[] #[.pointer (some ⟨w.heap.size,0,none⟩)])/\w'=w.alloc (.cells #[.map mb] 89):=by
 have hmf:∀(fn:Fn) (first cap:Array Value) (w:World),(Instr.makeFunc fn first cap).run prog w=.ok (.func fn first cap) w:=fun _ _ _ _=>rfl
 go_enter func75,ntmps75;go_wp2;go_ret;exact⟨rfl,rfl⟩
theorem gives_a (n:Nat) (hn:1<=n) (Bm b nn:Nat) (f:Nat->Option Value) (w:World) (hBm:Bm<w.heap.size) (hm:w.cell? ⟨Bm,0,none⟩=some (.map (some b))) (ha:AM w b nn f):
  SeqGives FA n prog 136 #[.pointer (some ⟨Bm,0,none⟩)] wv (zci f) nn w:=fun l J W hW hJ hY h0=>
 keys1_a n hn l Bm b nn f J hY W hJ ((hW.cell (p:=⟨Bm,0,none⟩) hBm).trans hm) (ha.block (hW.block b ha.lt)) h0
theorem keys1_s (n:Nat) (hn:1<=n) (l Bm b nn:Nat) (f:Nat->Option Value) (J:List Nat->World->Prop)
  (hY:∀pre x W,J pre W->pre.length<nn->YieldAt FA (n - 1) prog l #[wv x] W fun e W'=>e=.returned (.bool true)/\J (pre++[x]) W'/\KeepsWalks W W')
  (W:World) (hJ:AbidesFrom W.heap.size J) (hm:W.cell? ⟨Bm,0,none⟩=some (.map (some b))) (ha:AM W b nn f) (h0:J [] W):
  CallsIn FA n prog 193 #[.func (.yield l) #[] #[],.pointer (some ⟨Bm,0,none⟩)] W fun e W'=>(∃v,e=.returned v)/\∃ss:List Nat,zci f ss/\J ss W':=by
 obtain⟨g,⟨D0,hown,hD⟩,hf⟩:=ha;have hsl:=hown.size_le;refine callsIn_of_wp func193 rfl trivial ?_ rfl;simp only[ntmps193,List.size_toArray,List.length_cons,List.length_nil,Nat.reduceAdd,Nat.reduceSub,Array.replicate_succ,Array.replicate_zero,List.push_toArray,List.append_toArray,List.nil_append,List.cons_append]
 gi_wp2_with (first
  |(gi_at_range;refine wpListIn_range_own _ rfl _ 93 rfl 24 24 wd_keyed (by kernel_rfl) _ b nn _ rfl hown ?_;intro w0 hrg0 hg0 hs0)
  |gi_in)
 go_frame
 gi_loopw [3] (fun _ wr=>∃(left:Lit->Bool) (cnt:Nat) (ss:List Nat),wr.ranges prog 24 zfG b W.heap.size nn D0 left cnt/\ss.length+cnt<=Maps.size D0/\CollW D0 left ss/\J ss wr)
  (fun _ wr=>wr.rangeLeft b W.heap.size)
 case atStart=>
  exact⟨_,_,[],hrg0,by simp,CollW.start D0,hJ [] W w0 none h0 hg0 (fun r e=>by cases e)⟩
 case round=>
  obtain⟨left,cnt,ss,hrg,hcs,hC,hJs⟩:=hrel
  gi_wp2_with (first
   |(gi_at_next;refine wpListIn_next_ranges _ rfl _ rfl 24 wd_keyed zfG wv id (fun key kl hk=>zcG hk) (fun v _ _=>⟨v,rfl⟩) b W.heap.size nn _ _ _ rfl hrg ?_ ?_)
   |gi_in)
  ·intro hc0 hl0
   gi_wp2
   go_end0;exact⟨⟨_,rfl⟩,ss,hC.done hl0 (fun v l hl=>(hD v l hl).1) hf,hJs⟩
  ·intro x c kl yd yp w2 cnt2 hkey hlk hv hat hrg2 hlt hg2 hs2 hen;obtain⟨x',hx',ex⟩:∃x',x'<M/\wv x=wv x':=⟨x%M,mod_M x,yo (Nat.mod_mod x M).symm⟩;rw[ex] at hkey hen;have hC2:=hC.step hx' hkey hlk hat;have hJ2:J ss w2:=hJ ss wr w2 (some W.heap.size) hJs hg2 (fun r e=>by cases e;exact⟨Nat.le_refl _,hrg.iter_walk⟩);clear hs2;rw[ex];have hJ3:J ss (w2.alloc (.cells #[.int .u64 (za x' 0),.int .u64 (za x' 1),.int .u64 (za x' 2),.int .u64 (za x' 3)] 24)):=hJ ss w2 _ none hJ2 (grownBy_alloc _ _) (fun r e=>by cases e);have hrg3:=hrg2.of_walks (KeepsWalks.alloc w2 (.cells #[.int .u64 (za x' 0),.int .u64 (za x' 1),.int .u64 (za x' 2),.int .u64 (za x' 3)] 24));obtain⟨fn,tmps,assign,body,hy,hR⟩:=hY ss x' _ hJ3 (by omega);have hy:(Instr.yield l #[.agg #[.int .u64 (za x' 0),.int .u64 (za x' 1),.int .u64 (za x' 2),.int .u64 (za x' 3)]]).run prog (w2.alloc (.cells #[.int .u64 (za x' 0),.int .u64 (za x' 1),.int .u64 (za x' 2),.int .u64 (za x' 3)] 24))=.ok (.round l fn tmps assign body) (w2.alloc (.cells #[.int .u64 (za x' 0),.int .u64 (za x' 1),.int .u64 (za x' 2),.int .u64 (za x' 3)] 24)):=hy
   gi_wp2
   refine hR.mono ?_;rintro e W3 ⟨rfl,hJ4,hk4⟩
   gi_wp2
   have hrg4:=hrg3.of_walks hk4
   go_roundw
   case rel=>exact⟨_,cnt2,ss++[x'],hrg4,by simp;omega,hC2,hJ4⟩
   case measure=>rw[hrg4.left_eq,hrg.left_eq];exact hlt
theorem keys_s (mb:Option Nat) (w:World):
  Calls prog 137 #[.map mb] w fun e w'=>e=.returned (.func (.func 193) #[] #[.pointer (some ⟨w.heap.size,0,none⟩)])/\w'=w.alloc (.cells #[.map mb] 93):=by
 have hmf:∀(fn:Fn) (first cap:Array Value) (w:World),(Instr.makeFunc fn first cap).run prog w=.ok (.func fn first cap) w:=fun _ _ _ _=>rfl
 go_enter func137,ntmps137;go_wp2;go_ret;exact⟨rfl,rfl⟩
theorem gives_s (n:Nat) (hn:1<=n) (Bm b nn:Nat) (f:Nat->Option Value) (w:World) (hBm:Bm<w.heap.size) (hm:w.cell? ⟨Bm,0,none⟩=some (.map (some b))) (ha:AM w b nn f):
  SeqGives FA n prog 193 #[.pointer (some ⟨Bm,0,none⟩)] wv (zci f) nn w:=fun l J W hW hJ hY h0=>
 keys1_s n hn l Bm b nn f J hY W hJ ((hW.cell (p:=⟨Bm,0,none⟩) hBm).trans hm) (ha.block (hW.block b ha.lt)) h0
end
section
section
variable {P:Program} {ops:Array Oper} {Q:Exit->Act->World->Prop}
theorem zp8 (G:Array Bool->Act->World->Prop)
  (hstep:∀(l:Array Bool) (i:Nat) (o:Oper),l.size=ops.size->ops[i]? =some o->l.getD i false=false->(∀e∈o.after,Region.binds .any e=true->l.getD e.on false=true)->∀a w,G l a w->
   wpOp P ops Q i (fun a' w'=>G (l.setIfInBounds i true) a' w') a w)
  (hdone:∀(l:Array Bool) a w,l.size=ops.size->(∀i,i<ops.size->l.getD i false=true)->G l a w->Q .normal a w)
  (hall:∀l:Array Bool,l.size=ops.size->Region.ready .any ops l=[]->∀i,i<ops.size->l.getD i false=true):
  ∀(fuel:Nat) (listed:Array Bool) (a:Act) (w:World),(List.range ops.size).countP (fun i=> !listed.getD i true)<=fuel->listed.size=ops.size->
   G listed a w->wpAny P .any ops Q fuel listed a w:=by
 intro fuel
 induction fuel with
 |zero=>
  intro listed a w hc hs hG
  have h0:Region.ready .any ops listed=[]:=by
   apply List.eq_nil_iff_forall_not_mem.2;intro i hi;simp only[Region.ready,List.mem_filter,Bool.and_eq_true] at hi;have hz:(List.range ops.size).countP (fun i=> !listed.getD i true)=0:=by omega
   rw[List.countP_eq_zero] at hz;exact hz i hi.1 hi.2.1
  exact⟨h0,hdone listed a w hs (hall _ hs h0) hG⟩
 |succ fuel ih=>
  intro listed a w hc hs hG;refine⟨fun h0=>hdone listed a w hs (hall _ hs h0) hG,fun i hi=> ?_⟩;simp only[Region.ready,List.mem_filter,Bool.and_eq_true,List.mem_range] at hi;obtain⟨hlt,hl,haft⟩:=hi;have ho:ops[i]? =some ops[i]:=getElem?_pos ops i hlt;rw[ho] at haft;simp only[Option.map_some,Option.getD_some,Array.all_eq_true',Bool.or_eq_true,Bool.not_eq_true'] at haft;have hli:i<listed.size:=by omega
  have hnf:listed.getD i false=false:=by
   simp only[Array.getD_eq_getD_getElem?,getElem?_pos listed i hli,Option.getD_some] at hl⊢;simpa using hl
  refine wpOp_mono ?_ (hstep listed i _ hs ho hnf (fun e he hb=>(haft e he).resolve_left (by rw[hb];simp)) a w hG);intro a' w' hG';refine ih _ a' w' ?_ (by simp[hs]) hG';have:=zdZ (p:=fun i=> !listed.getD i true) (p':=fun j=> !(listed.setIfInBounds i true).getD j true) ?_ (List.range ops.size) i (by simpa using hlt) (by simpa using hl) ?_
  ·omega
  ·intro j hj;simp only[Array.getD_eq_getD_getElem?,Array.getElem?_setIfInBounds] at hj⊢;by_cases e:i=j
   ·subst e;simp[hli] at hj
   ·simpa[e] using hj
  ·simp[Array.getD_eq_getD_getElem?,hli]
theorem zc1 {id:Nat} {a:Act} {w:World} (hm:P.follows .mixedOrders=true) (hdown:zfV ops=true) (G:Array Bool->Act->World->Prop) (h0:G (Array.replicate ops.size false) a w.drew)
  (hstep:∀(l:Array Bool) (i:Nat) (o:Oper),l.size=ops.size->ops[i]? =some o->l.getD i false=false->(∀e∈o.after,Region.binds .any e=true->l.getD e.on false=true)->∀a w,G l a w->
   wpOp P ops Q i (fun a' w'=>G (l.setIfInBounds i true) a' w') a w)
  (hdone:∀(l:Array Bool) a w,l.size=ops.size->(∀i,i<ops.size->l.getD i false=true)->G l a w->Q .normal a w):(Code.region id ops true).wp P Q a w:=by
 refine wp_region_any hm (zp8 G hstep hdone (YI hdown) _ _ a _ ?_ (by simp) h0);exact Nat.le_trans List.countP_le_length (by simp)
end
variable {s:Act} {x:World} {pos:String} {af:Array Edge} {g:Option (Nat×Bool)} {K:Act->World->Prop} {Q:Exit->Act->World->Prop}
theorem zfU {f d:Nat} {xs:Array Operand} {vs:Array Value} {A:Array TypeId} {ty:TypeId} {Post:Ending->World->Prop} (hf:Own f) (hv:#[]++xs.map s.eval++#[]=vs) (hc:Calls prog f vs x Post)
  (hK:∀e x',Post e x'->(∃r,e=.returned r/\K (s.put (some d) r) x')\/(∃ch,e=.panicked ch/\Q (.panic ch) s x')):
  Oper.wp prog ⟨some d,.call ⟨.value (.func f),xs,A⟩,ty,pos,af,g⟩ s x K Q:=by
 unfold Oper.wp;rw[execOp_call_go,hv,hf];rw[Oper.upon_enter];refine hc.mono ?_;intro e y h;rcases hK e y h with⟨r,rfl,h2⟩|⟨ch,rfl,h2⟩
 ·exact h2
 ·exact h2
theorem zcH {t d:Nat} {ty:TypeId} {ad:Addr} (he:s.tmps.getD t undef=.pointer (some ad)) (hK:K (s.put (some d) (.pointer (some ad))) x):
  Oper.wp prog ⟨some d,.nilCheck (.tmp t),ty,pos,af,g⟩ s x K Q:=by
 have he2:s.eval (.tmp t)=.pointer (some ad):=he;go_simp;exact hK
end
theorem zc3 (fb o k n cap:Nat) (ad:Option Addr) (w:World) (hc:w.cell? ⟨fb,o,none⟩=some (.slice ad n cap)) (hn:n<=1024) (hk:k<n):
  Calls prog 273 #[.pointer (some ⟨fb,o,none⟩),.int .i64 (k:Int)] w fun e w'=>e=.returned (.int .i64 ((n - 1 - k:Nat):Int))/\w'=w:=by
 have d:decide ((n:Int)<=(k:Int))=false:=decide_eq_false (by omega);go_enter func273,ntmps273;go_wp2;go_ret;exact⟨congrArg (fun z=>Ending.returned (Value.int .i64 z)) (by omega),rfl⟩
theorem zdl (fb o k n cap:Nat) (ad:Option Addr) (w:World) (hc:w.cell? ⟨fb,o,none⟩=some (.slice ad n cap)) (hn:n<=1024) (hk:n<=k) (hk2:k<=1024):
  Calls prog 273 #[.pointer (some ⟨fb,o,none⟩),.int .i64 (k:Int)] w fun e w'=>Pan e/\w'=w:=by
 have d:decide ((n:Int)<=(k:Int))=true:=decide_eq_true (by omega);go_enter func273,ntmps273;go_wp2;exact⟨rfl,⟨_,_,rfl⟩,rfl⟩
theorem zgZ:∀(l:List Nat) (j:Nat) (h:j<l.length) (i:Nat),i<4->(Zu l)[j*4+i]? =some (.int .u64 (za l[j] i))
 |n::l,0,h,i,hi=>by
  rw[Nat.zero_mul,Nat.zero_add];rcases k4 hi with rfl|rfl|rfl|rfl<;>rfl
 |n::l,j+1,h,i,hi=>by
  have ih:=zgZ l j (by simpa using h) i hi;rw[show(j+1)*4+i=(j*4+i)+4 by omega];exact ih
theorem ziu (l m:List Nat):(Zu (l++m)).take (l.length*4)=Zu l:=by
 unfold Zu;rw[List.flatMap_append,List.take_append_of_le_length (by have:=Yx l;unfold Zu at this;omega),List.take_of_length_le (by have:=Yx l;unfold Zu at this;omega)]
theorem Wds.trunc {w:World} {base g cap:Nat} {l m:List Nat} (h:Wds w base (.slice (some ⟨g,0,none⟩) (l++m).length cap) (l++m)):Wds w base (.slice (some ⟨g,0,none⟩) l.length cap) l:=by
 refine⟨Yx l, ?_⟩;rcases h.2 with⟨h1,h2⟩|⟨g',cap',cur,h1,h2,h3,h4,h5,h6,h7⟩
 ·cases h1
 ·injection h1 with e1 e2 e3
  injection e1 with e1
  injection e1 with e1
  subst e1 e3;refine Or.inr ⟨g,cap,cur,rfl,h2,h3,by rw[List.length_append] at h4;omega,h5,h6, ?_⟩;rw[<-ziu l m,<-h7,List.take_take];congr 1;rw[List.length_append];omega
theorem Wds.at {w:World} {base g cap n:Nat} {l:List Nat} (h:Wds w base (.slice (some ⟨g,0,none⟩) l.length cap) l) {j:Nat} (hj:j<l.length) (hn:l[j]=n):
  w.cell? ⟨g,j*4,none⟩=some (.int .u64 (za n 0))/\w.cell? ⟨g,j*4+1,none⟩=some (.int .u64 (za n 1))/\w.cell? ⟨g,j*4+2,none⟩=some (.int .u64 (za n 2))/\w.cell? ⟨g,j*4+3,none⟩=some (.int .u64 (za n 3)):=by
 subst hn;have e:∀i,i<4->w.cell? ⟨g,j*4+i,none⟩=some (.int .u64 (za l[j] i)):=fun i hi=>(World.ownsRow.cellAt h (j*4+i) (by omega)).trans (zgZ l j hj i hi)
 exact⟨e 0 (by omega),e 1 (by omega),e 2 (by omega),e 3 (by omega)⟩
theorem pop_ok {T N:Nat} {f:Nat->Value} (fb o n base:Nat) (l:List Nat) (v:Value) (w:World) (hr:w.rowIs fb T N f) (ho:o<N) (hv:f o=v) (hT:T≠24) (hs:Wds w base v (l++[n])) (hl:l.length<1024):
  Calls prog 257 #[.pointer (some ⟨fb,o,none⟩)] w fun e w'=>e=.returned (wv n)/\∃v',Wds w' base v' l/\v'.ownBlock=v.ownBlock/\Up [] fb o v' w w':=by
 have hlt:=hr.lt;have hfb:=zJ hr hs hT;obtain⟨g,cap,rfl,hg1,hg2,hg3⟩:=zI hs (by simp);have hgf:g≠fb:=hfb g rfl;have hlen:(l++[n]).length=l.length+1:=by simp
 rw[hlen] at hv hg3;obtain⟨Z,HZ⟩:∃Z:World,Hid (Z=w.alloc (.cells #[.int .u64 0,.int .u64 0,.int .u64 0,.int .u64 0] 24)):=⟨_,rfl⟩;have hbz:Below w.heap.size w Z:=by rw[HZ.out];exact bal (Below.refl _ w) _
 have hz0:Z.rowIs w.heap.size 24 4 (zo fun _=>0):=by rw[HZ.out];exact zk (fun _=>0) rfl rfl rfl rfl rfl
 have hrz:=zg hr hbz;have hsz:Z.heap.size=w.heap.size+1:=by rw[HZ.out];simp
 have hwz:Wds Z base (.slice (some ⟨g,0,none⟩) (l++[n]).length cap) (l++[n]):=zj hs hbz;have hc:Z.cell? ⟨fb,o,none⟩=some (.slice (some ⟨g,0,none⟩) (l.length+1) cap):=(hrz.cell ho).trans (congrArg some hv);have HP:Hid (∀w:World,w.cell? ⟨fb,o,none⟩=some (.slice (some ⟨g,0,none⟩) (l.length+1) cap)->Calls prog 273 #[.pointer (some ⟨fb,o,none⟩),.int .i64 0] w fun e w'=>e=.returned (.int .i64 (l.length:Int))/\w'=w):=fun w h=>(zc3 fb o 0 (l.length+1) cap (some ⟨g,0,none⟩) w h (by omega) (by omega)).mono fun e w' ⟨h1,h2⟩=>⟨by rw[h1];rfl,h2⟩
 obtain⟨c0,c1,c2,c3⟩:=hwz.at (j:=l.length) (n:=n) (by simp) (by simp);have hfz:=hrz.frozen o;obtain⟨z0,z1,z2,z3⟩:=ze hz0;have fz:=hz0.frozen;have HS:=zb hwz.trunc;have HB:=zb hbz;have HR:=zb hrz;have HZ0:=zb hz0;clear hs hfb hr hwz hbz hrz hz0 hv;go_enter func257,ntmps257;go_wp2_with fail
 rw[<-HZ.out];refine(HP.out _ hc).mono ?_;rintro e w1 ⟨rfl,rfl⟩;clear HZ HP;go_wp2
 have k1:Kb [w.heap.size] (w1.setCell ⟨fb,o,none⟩ (.slice (some ⟨g,0,none⟩) l.length cap)) ((((((w1.setCell ⟨fb,o,none⟩ (.slice (some ⟨g,0,none⟩) l.length cap)).setCell ⟨w.heap.size,0,none⟩ (.int .u64 (za n 0))).setCell ⟨w.heap.size,1,none⟩ (.int .u64 (za n 1))).setCell ⟨w.heap.size,2,none⟩ (.int .u64 (za n 2))).setCell ⟨w.heap.size,3,none⟩ (.int .u64 (za n 3))).alloc (wc n)):=
  (((((Kb.refl _ _).setCell (Or.inl (by simp)) _).setCell (Or.inl (by simp)) _).setCell (Or.inl (by simp)) _).setCell (Or.inl (by simp)) _).alloc _
 have hrow:=(zx (HZ0.out.setOther (a:=⟨fb,o,none⟩) (by show w.heap.size≠fb;omega) (.slice (some ⟨g,0,none⟩) l.length cap)) (za n) rfl rfl rfl rfl).alloc (wc n);obtain⟨q0,q1,q2,q3⟩:=ze hrow;refine bodyPost_ret (v:=wv n) (by simp[results,results257,go_sem,q0,q1,q2,q3]) rfl ⟨rfl,.slice (some ⟨g,0,none⟩) l.length cap, ?_,rfl, ?_⟩
 ·exact k1.own (yR HS.out (fun k hk=>by obtain rfl:g=k:=(by simpa[Value.ownBlock] using hk);exact hgf) o _) (fun k hk=>by obtain rfl:g=k:=(by simpa[Value.ownBlock] using hk);simp;omega)
 ·have u1:Up [] fb o (.slice (some ⟨g,0,none⟩) l.length cap) w (w1.setCell ⟨fb,o,none⟩ (.slice (some ⟨g,0,none⟩) l.length cap)):=Up.mk' _ (Kb.of_below HB.out) (by simp) hlt;exact⟨u1.kb.trans k1 (by simp),fun hr=>k1.row (u1.row hr) (by simp;omega)⟩
structure Fz where
 trail:Value
 code:ByteArray
 jd:Value
 self:Nat
 caller:Nat
 value:Nat
 data:ByteArray
 gas:Nat
 ro:Bool
 depth:Nat
 st:List Nat
 mem:List UInt8
 ret:ByteArray
 pc:Nat
 nx:Nat
 ended:Bool
 status:Nat
 out:ByteArray
def Fz.cell (F:Fz) (sv mv:Value) (i:Nat):Value:=
 if i=0 then F.trail else
 if i=1 then .string F.code else
 if i=2 then F.jd else
 if i=3+0 then .int .u64 (za F.self 0) else
 if i=3+1 then .int .u64 (za F.self 1) else
 if i=3+2 then .int .u64 (za F.self 2) else
 if i=3+3 then .int .u64 (za F.self 3) else
 if i=7+0 then .int .u64 (za F.caller 0) else
 if i=7+1 then .int .u64 (za F.caller 1) else
 if i=7+2 then .int .u64 (za F.caller 2) else
 if i=7+3 then .int .u64 (za F.caller 3) else
 if i=11+0 then .int .u64 (za F.value 0) else
 if i=11+1 then .int .u64 (za F.value 1) else
 if i=11+2 then .int .u64 (za F.value 2) else
 if i=11+3 then .int .u64 (za F.value 3) else
 if i=15 then .string F.data else
 if i=16 then .int .i64 (F.gas:Int) else
 if i=17 then .bool F.ro else
 if i=18 then .int .i64 (F.depth:Int) else
 if i=19 then sv else
 if i=20 then mv else
 if i=21 then .string F.ret else
 if i=22 then .int .i64 (F.pc:Int) else
 if i=23 then .int .i64 (F.nx:Int) else
 if i=24 then .bool F.ended else
 if i=25 then .int .u8 (F.status:Int) else
 if i=26 then .string F.out else
 undef
def jdF (code:ByteArray):Nat->Nat->List Bool->List Bool
 |0,_,acc=>acc
 |f+1,i,acc=>if i<code.size then
   jdF code f (i+1+(if 95<byt code i/\byt code i<=127 then byt code i - 95 else 0)) (if byt code i=91 then acc.set i true else acc)
  else acc
def jdL (code:ByteArray):List Bool:=jdF code code.size 0 (List.replicate (code.size+1) false)
def Jds (w:World) (jd:Value) (code:ByteArray):Prop:=∃g cap:Nat,jd=.slice (some ⟨g,0,none⟩) (code.size+1) cap/\w.rowIs g 4 (code.size+1) (fun i=>.bool ((jdL code).getD i false))
structure Fr (base fb:Nat) (F:Fz) (S:List Nat) (sv mv:Value) (w:World):Prop where
 row:w.rowIs fb 137 27 (F.cell sv mv)
 st:Wds w base sv F.st.reverse
 me:Bys w base mv F.mem
 foot:S=fb::(sv.ownBlock.toList++mv.ownBlock.toList)
 stl:F.st.length<=1024
 mel:F.mem.length<=65536
 gal:F.gas<=100000
 hb:base<=w.heap.size
 zr:∀i,i<4->w.cell? ⟨0,i,none⟩=some (.int .u64 0)
 hb1:0<base
 hfb:base<=fb
 m32:F.mem.length%32=0
 jr:Jds w F.jd F.code
theorem Jds.kb {w w':World} {jd:Value} {code:ByteArray} {S:List Nat} (h:Jds w jd code) (hk:Kb S w w') (hS:∀g N f,w.rowIs g 4 N f->g∉S):Jds w' jd code:=by
 obtain⟨g,cap,h1,h2⟩:=h;exact⟨g,cap,h1,hk.row h2 (hS _ _ _ h2)⟩
theorem tb1:(4:Nat)≠24:=by decide
theorem tb2:(4:Nat)≠5:=by decide
theorem tb3:(4:Nat)≠137:=by decide
theorem yW {w:World} {a b:Nat} {T T':TypeId} {N N':Nat} {f f':Nat->Value} (h:w.rowIs a T N f) (h':w.rowIs b T' N' f') (ht:T≠T'):a≠b:=fun e=>by
 subst e;obtain⟨c,h1,_⟩:=h;obtain⟨c',h2,_⟩:=h';rw[h1] at h2;injection h2 with h2
 injection h2 with _ h3
 exact ht h3
theorem Fr.bno {base fb:Nat} {F:Fz} {S:List Nat} {sv mv:Value} {w:World} (h:Fr base fb F S sv mv w):∀g N f,w.rowIs g 4 N f->g∉S:=by
 intro g N f hr hm;rw[h.foot] at hm;rcases List.mem_cons.1 hm with h1|h1
 ·exact yW hr h.row tb3 h1
 ·rcases List.mem_append.1 h1 with h2|h2
  ·exact zJ hr h.st tb1 g (by simpa using h2) rfl
  ·exact zJ hr h.me tb2 g (by simpa using h2) rfl
theorem zc7 {S:List Nat} {w w':World} (h:∀i,i<4->w.cell? ⟨0,i,none⟩=some (.int .u64 0)) (hk:Kb S w w') (h0:0∉S) (hs:0<w.heap.size):∀i,i<4->w'.cell? ⟨0,i,none⟩=some (.int .u64 0):=
 fun i hi=>(World.cell?_of_block (w:=w) (hk.block 0 hs h0)).trans (h i hi)
theorem Fr.low {base fb:Nat} {F:Fz} {S:List Nat} {sv mv:Value} {w:World} (h:Fr base fb F S sv mv w):∀k∈S,base<=k:=by
 intro k hk;rw[h.foot] at hk;rcases List.mem_cons.1 hk with h1|h1
 ·rw[h1];exact h.hfb
 ·rcases List.mem_append.1 h1 with h2|h2
  ·exact(h.st.lt k (by simpa using h2)).1
  ·exact(h.me.lt k (by simpa using h2)).1
theorem Fr.no0 {base fb:Nat} {F:Fz} {S:List Nat} {sv mv:Value} {w:World} (h:Fr base fb F S sv mv w):0∉S:=fun hm=>by
 have:=h.low 0 hm;have:=h.hb1;omega
theorem Fr.hs {base fb:Nat} {F:Fz} {S:List Nat} {sv mv:Value} {w:World} (h:Fr base fb F S sv mv w):0<w.heap.size:=Nat.lt_of_lt_of_le h.hb1 h.hb
def To (base fb:Nat) (F':Fz) (S:List Nat) (w w':World):Prop:=∃S' sv mv,Fr base fb F' S' sv mv w'/\Kb S w w'/\∀k∈S',k∈S\/w.heap.size<=k
theorem To.trans {base fb:Nat} {F1 F2:Fz} {S:List Nat} {w w1 w2:World} (h:To base fb F1 S w w1) (k:∀S1 sv mv,Fr base fb F1 S1 sv mv w1->To base fb F2 S1 w1 w2):To base fb F2 S w w2:=by
 obtain⟨S1,sv,mv,h1,h2,h3⟩:=h;obtain⟨S2,sv2,mv2,k1,k2,k3⟩:=k S1 sv mv h1;refine⟨S2,sv2,mv2,k1,h2.trans k2 h3,fun i hi=> ?_⟩;rcases k3 i hi with h4|h4
 ·exact h3 i h4
 ·exact Or.inr (Nat.le_trans h2.size h4)
theorem Fr.to {base fb:Nat} {F:Fz} {S:List Nat} {sv mv:Value} {w:World} (h:Fr base fb F S sv mv w):To base fb F S w w:=⟨S,sv,mv,h,Kb.refl _ _,fun k hk=>Or.inl hk⟩
theorem Fr.below {base fb:Nat} {F:Fz} {S:List Nat} {sv mv:Value} {w w':World} (h:Fr base fb F S sv mv w) (hb:Below w.heap.size w w'):Fr base fb F S sv mv w':=
 ⟨zg h.row hb,zj h.st hb,zj h.me hb,h.foot,h.stl,h.mel,h.gal,Nat.le_trans h.hb hb.size,zc7 h.zr (Kb.of_below (S:=[]) hb) (by simp) h.hs,h.hb1,h.hfb,h.m32,h.jr.kb (Kb.of_below (S:=[]) hb) (fun _ _ _ _=>by simp)⟩
def Out {α:Type} (r:Option (α×Fz)) (val:α->Value) (base fb:Nat) (S:List Nat) (w:World) (e:Ending) (w':World):Prop:=
 match r with
 |some (a,F')=>e=.returned (val a)/\To base fb F' S w w'
 |none=>Pan e/\Kb S w w'
def zy:Unit->Value:=fun _=>.tuple #[]
def zm (n:Nat) (F:Fz):Option (Unit×Fz):=if F.st.length=1024 then none else some ((),{F with st:=n::F.st})
def zi (F:Fz):Option (Nat×Fz):=match F.st with
 |[]=>none
 |n::r=>some (n,{F with st:=r})
def yt (c:Nat) (F:Fz):Option (Unit×Fz):=if F.gas<c then none else some ((),{F with gas:=F.gas - c})
theorem cell_sv (F:Fz) (sv mv v':Value) (st:List Nat):(fun i=>if i=19 then v' else F.cell sv mv i)=({F with st:=st}:Fz).cell v' mv:=by
 funext i;by_cases h:i=19
 ·subst h;rfl
 ·simp only[Fz.cell,if_neg h]
theorem zkB (F:Fz) (sv mv:Value):F.cell sv mv 19=sv:=rfl
theorem zak (F:Fz) (sv mv:Value) (g:Nat):(fun i=>if i=16 then .int .i64 (g:Int) else F.cell sv mv i)=({F with gas:=g}:Fz).cell sv mv:=by
 funext i;by_cases h:i=16
 ·subst h;rfl
 ·simp only[Fz.cell,if_neg h]
theorem tF:(137:Nat)≠24:=by decide
theorem tB:(137:Nat)≠5:=by decide
theorem tWB:(24:Nat)≠5:=by decide
theorem Fr.fm {base fb:Nat} {F:Fz} {S:List Nat} {sv mv:Value} {w:World} (h:Fr base fb F S sv mv w):∀k,mv.ownBlock=some k->k≠fb:=zJ h.row h.me tB
theorem Fr.fs {base fb:Nat} {F:Fz} {S:List Nat} {sv mv:Value} {w:World} (h:Fr base fb F S sv mv w):∀k,sv.ownBlock=some k->k≠fb:=zJ h.row h.st tF
theorem Fr.sm {base fb:Nat} {F:Fz} {S:List Nat} {sv mv:Value} {w:World} (h:Fr base fb F S sv mv w):∀k,mv.ownBlock=some k->k∉fb::sv.ownBlock.toList:=fun k hk hm=>by
 rcases List.mem_cons.1 hm with h1|h1
 ·exact h.fm k hk h1
 ·have h2:sv.ownBlock=some k:=by simpa using h1
  rcases zcE h.me h.st (Ne.symm tWB) with h3|h3
  ·rw[h3] at hk;cases hk
  ·exact h3 (hk.trans h2.symm)
theorem Fr.stack {base fb:Nat} {F:Fz} {S:List Nat} {sv mv v':Value} {w w':World} {st:List Nat} (h:Fr base fb F S sv mv w) (hl:st.length<=1024) (hw:Wds w' base v' st.reverse) (hf:Fresh w sv v') (hu:Up sv.ownBlock.toList fb 19 v' w w'):To base fb {F with st:=st} S w w':=by
 refine⟨_,v',mv,⟨(cell_sv F sv mv v' st)▸hu.row h.row,hw,hu.kb.own h.me h.sm,rfl,hl,h.mel,h.gal,Nat.le_trans h.hb hu.kb.size,zc7 h.zr hu.kb (fun hm=>h.no0 (by rw[h.foot];rcases List.mem_cons.1 hm with e|e;simp[e];exact List.mem_cons_of_mem _ (List.mem_append_left _ e))) h.hs,h.hb1,h.hfb,h.m32,h.jr.kb hu.kb (fun g N f hr hm=>h.bno g N f hr (by rw[h.foot];rcases List.mem_cons.1 hm with e|e;simp[e];exact List.mem_cons_of_mem _ (List.mem_append_left _ e)))⟩, ?_, ?_⟩
 ·rw[h.foot];exact hu.kb.mono (fun i hi=>by rcases List.mem_cons.1 hi with h1|h1;simp[h1];exact List.mem_cons_of_mem _ (List.mem_append_left _ h1))
 ·intro k hk;rw[h.foot];rcases List.mem_cons.1 hk with h1|h1
  ·exact Or.inl (by simp[h1])
  ·rcases List.mem_append.1 h1 with h2|h2
   ·have h3:v'.ownBlock=some k:=by simpa using h2
    rcases hf with h4|h4
    ·exact Or.inl (List.mem_cons_of_mem _ (List.mem_append_left _ (by rw[<-h4];exact h2)))
    ·exact Or.inr (h4 k h3)
   ·exact Or.inl (List.mem_cons_of_mem _ (List.mem_append_right _ h2))
theorem yi {base fb:Nat} {F:Fz} {S:List Nat} {sv mv:Value} (n:Nat) (w:World) (h:Fr base fb F S sv mv w):
  Calls prog 259 #[.pointer (some ⟨fb,19,none⟩),wv n] w (Out (zm n F) zy base fb S w):=by
 unfold zm;by_cases hl:F.st.length=1024
 ·rw[if_pos hl];exact(zng fb 19 n base F.st.reverse sv w h.row (by decide) rfl h.st (by simpa using hl)).mono fun e w' ⟨h1,h2⟩=>⟨h1,Kb.of_below h2⟩
 ·rw[if_neg hl];refine(push_ok fb 19 n base F.st.reverse sv w h.row (by decide) rfl tF h.st (by have:=h.stl;simp;omega) h.hb).mono fun e w' ⟨h1,v',h2,h3,h4⟩=>⟨h1,h.stack (by have:=h.stl;simp;omega) (by rw[List.reverse_cons];exact h2) h3 h4⟩
theorem pop_no {T N:Nat} {f:Nat->Value} (fb o cap:Nat) (ad:Option Addr) (w:World) (hr:w.rowIs fb T N f) (ho:o<N) (hv:f o=.slice ad 0 cap):
  Calls prog 257 #[.pointer (some ⟨fb,o,none⟩)] w fun e w'=>Pan e/\Below w.heap.size w w':=by
 have hc:(w.alloc (.cells #[.int .u64 0,.int .u64 0,.int .u64 0,.int .u64 0] 24)).cell? ⟨fb,o,none⟩=some (.slice ad 0 cap):=((bal (Below.refl _ w) _).cell (by exact hr.lt)).trans ((hr.cell ho).trans (congrArg some hv));have HP:=zb (zdl fb o 0 0 cap ad _ hc (by omega) (by omega) (by omega));clear hr hv;go_enter func257,ntmps257;go_wp2_with fail
 refine HP.out.mono ?_;rintro e w1 ⟨⟨u,pv,rfl⟩,rfl⟩;go_wp2;exact⟨rfl,⟨_,_,rfl⟩,bal (Below.refl _ _) _⟩
theorem Yg {base fb:Nat} {F:Fz} {S:List Nat} {sv mv:Value} (w:World) (h:Fr base fb F S sv mv w):
  Calls prog 257 #[.pointer (some ⟨fb,19,none⟩)] w (Out (zi F) wv base fb S w):=by
 unfold zi;cases hs:F.st with
 |nil=>
  have h1:=h.st;rw[hs] at h1;obtain⟨ad,cap,rfl⟩:=zS h1;exact(pop_no fb 19 cap ad w h.row (by decide) rfl).mono fun e w' ⟨h1,h2⟩=>⟨h1,Kb.of_below h2⟩
 |cons n r=>
  have h1:=h.st;have hl:=h.stl;rw[hs] at h1 hl;rw[List.reverse_cons] at h1;refine(pop_ok fb 19 n base r.reverse sv w h.row (by decide) rfl tF h1 (by simp at hl⊢;omega)).mono fun e w' ⟨h1,v',h2,h3,h4⟩=>⟨h1,h.stack (by simp at hl;omega) h2 (Or.inl h3) ⟨h4.kb.mono (fun i hi=>by rcases List.mem_cons.1 hi with e|e;simp[e];cases e),h4.row⟩⟩
theorem Fr.own {base fb:Nat} {F F':Fz} {S:List Nat} {sv mv:Value} {w w':World} (h:Fr base fb F S sv mv w) (hst:F'.st=F.st) (hme:F'.mem=F.mem) (hjd:F'.jd=F.jd) (hcd:F'.code=F.code) (hg:F'.gas<=100000) (hr:w'.rowIs fb 137 27 (F'.cell sv mv)) (hk:Kb [fb] w w'):To base fb F' S w w':=by
 refine⟨S,sv,mv,⟨hr,by rw[hst];exact hk.own h.st (fun k hk=>by simpa using h.fs k hk),by rw[hme];exact hk.own h.me (fun k hk=>by simpa using h.fm k hk),h.foot,by rw[hst];exact h.stl,by rw[hme];exact h.mel,hg,Nat.le_trans h.hb hk.size,zc7 h.zr hk (fun hm=>h.no0 (by rw[h.foot];simp at hm;simp[hm])) h.hs,h.hb1,h.hfb,by rw[hme];exact h.m32,by rw[hjd,hcd];exact h.jr.kb hk (fun g N f hr hm=>h.bno g N f hr (by rw[h.foot];simp at hm;simp[hm]))⟩,hk.mono (fun i hi=>by rw[h.foot];simp at hi;simp[hi]),fun k hk=>Or.inl hk⟩
theorem zji {base fb:Nat} {F:Fz} {S:List Nat} {sv mv:Value} (c:Nat) (hc:c<=100000000) (w:World) (h:Fr base fb F S sv mv w):
  Calls prog 204 #[.pointer (some ⟨fb,0,none⟩),.int .i64 (c:Int)] w (Out (yt c F) zy base fb S w):=by
 have hg:=h.row.cell (i:=16) (by decide);have hz:=h.row.frozen 16;rw[show F.cell sv mv 16=.int .i64 (F.gas:Int) from rfl] at hg;have hgl:=h.gal;unfold yt;by_cases hl:F.gas<c
 ·have d:decide ((F.gas:Int)<(c:Int))=true:=decide_eq_true (by omega);rw[if_pos hl];go_enter func204,ntmps204;go_wp2;exact⟨rfl,⟨_,_,rfl⟩,Kb.refl _ _⟩
 ·have d:decide ((F.gas:Int)<(c:Int))=false:=decide_eq_false (by omega);rw[if_neg hl];have HH:=zb h;clear h;go_enter func204,ntmps204;go_wp2;go_end0;refine⟨rfl,HH.out.own rfl rfl rfl rfl (by show F.gas - c<=_;omega) ?_ ((Kb.refl [fb] w).setCell (Or.inl (by simp)) _)⟩;rw[<-zak F sv mv (F.gas - c)];refine(HH.out.row.set 16 _).congr fun i hi=> ?_
  show(if i=_ then _ else _)=_;by_cases e:i=16
  ·rw[if_pos e,if_pos e];exact congrArg (Value.int .i64) (by omega)
  ·rw[if_neg e,if_neg e]
end cin
end Go.Proofs.YtohoajjdoihekaaGreatDoor
