import Derived.Test.YtohoajjdoihekaaGreatDoorProg
import Derived.Test.YtohoajjdoihekaaGreatDoorRows
import Derived.WalkKit
import Derived.OrdersHeld
import Derived.RegionTactic
import Derived.Deep.OwnRows
import Derived.WalkSpells
import Derived.WalkLawsBesides
import Derived.BigRegion
import Derived.Deep.RegionWith
import Derived.Deep.QuietTactic
import Derived.BigQuiet
import Derived.Shelf.Spec.BitsCarry
import Derived.Lib.Mul64
import Derived.Lib.BitFns
import Derived.ChangeKeysEq
import Derived.Lib.OthersKept
import Derived.Deep.DeepCutAuto
set_option linter.unusedVariables false
set_option linter.unusedSimpArgs false
set_option linter.defProp false
namespace Go.Proofs.YtohoajjdoihekaaGreatDoor
namespace cin
open Go.RowKit Go.Proofs.Tryz Tryz
set_option maxRecDepth 100000
set_option maxHeartbeats 8000000
theorem W{α:Sort _}{a:α}:a=a:=rfl
def Hd(p:Prop):Prop:=p
theorem Hd.aa{p:Prop}(h:Hd p):p:=h
theorem pk {α : Type _} {β : Type _} {a c : α} {b d : β} (h : some (a, b) = some (c, d)) : a = c ∧ b = d := Prod.mk.inj (Option.some.inj h)
theorem nn1 {α : Type _} {d : α} {p : Prop} (h : some d = none) : p := by cases h
theorem sx9 {α : Type _} : (∀ (l : List α) (i : Nat) (v : α), l.toArray.setIfInBounds i v = (l.set i v).toArray) ∧ (∀ (a v : α) (l : List α), (a :: l).set 0 v = v :: l) ∧ ∀ (a v : α) (l : List α) (n : Nat), (a :: l).set (n + 1) v = a :: l.set n v := ⟨fun l i v => List.setIfInBounds_toArray .., fun _ _ _ => rfl, fun _ _ _ _ => rfl⟩
theorem sj {α : Type _} {a b : α} (h : some a = some b) : a = b := Option.some.inj h
abbrev Y6:=Exit->Act->World->Prop
abbrev K6:=Act->World->Prop
abbrev X4:=World->Prop
abbrev U6:=Option (Nat×Bool)
abbrev U9:=Array Edge
abbrev Td:=List (Nat×Value)
abbrev Tl:=List Nat
abbrev Tn:=List Value
abbrev Ys:=Array Value
abbrev Yt:=Option Nat
abbrev Vf:=List UInt8
abbrev Vm:=Array Oper
abbrev Vp:=Nat->Value
abbrev Vq:=Nat->Nat
abbrev Vr:=TypeId
abbrev Gj:=Option Addr
abbrev sC(x:World)(b o:Nat)(v:Value):World:=x.setCell ⟨b,o,none⟩ v
abbrev aC(x:World)(a:Array Value)(t:TypeId):World:=x.alloc (.cells a t)
@[simp,go_sem] abbrev tG(s:Act)(t:Nat)(v:Value):Prop:=s.tmps.getD t undef=v
abbrev bW(a b:World):Prop:=Below a.heap.size a b
abbrev iU(n:Int):Value:=.int .u64 n
abbrev iI(n:Int):Value:=.int .i64 n
abbrev iB(n:Int):Value:=.int .u8 n
abbrev rT(v:Value)(w:World)(e:Ending)(x:World):Prop:=e=.returned v/\bW w x
@[simp,go_sem] abbrev cL(x:World)(b o:Nat)(v:Value):Prop:=x.cell? ⟨b,o,none⟩=some v
abbrev sL(b n c:Nat):Value:=.slice (some ⟨b,0,none⟩) n c
abbrev cP(f:FuncId)(a:Array Value)(w:World)(p:Ending->World->Prop):Prop:=Calls prog f a w p
abbrev WD:=World
abbrev VL:=Value
abbrev BA:=ByteArray
abbrev pt (b:Nat):Value:=.pointer (some ⟨b,0,none⟩)
abbrev pq (b i:Nat):Value:=.pointer (some ⟨b,i,none⟩)
theorem dO:type_of% @Below.refl:=@Below.refl
theorem hV:type_of% @Option.some.inj:=@Option.some.inj
def iF:=@if_neg
theorem iN:type_of% @List.getElem?_eq_getElem:=@List.getElem?_eq_getElem
def sp:=@bodyPost_ret
def At:=@if_pos
theorem By:type_of% @Nat.le_trans:=@Nat.le_trans
def BY:=@List.mem_singleton
theorem Do:type_of% @List.getElem?_eq_some_iff:=@List.getElem?_eq_some_iff
def DO:=@Nat.le_refl
def If:=@List.getD_eq_getElem?_getD
def In:=@Nat.zero_le
def IF:=@List.mem_cons
theorem IN:type_of% @List.mem_cons_of_mem:=@List.mem_cons_of_mem
theorem OsQ:type_of% @decide_eq_true:=@decide_eq_true
def WY:=@Array.getElem?_eq_some_iff
theorem WZ:type_of% @Nat.mod_eq_of_lt:=@Nat.mod_eq_of_lt
theorem W8:type_of% @decide_eq_false:=@decide_eq_false
def Xa:=@List.foldl_cons
theorem Xb:type_of% @beq_eq_false_iff_ne:=@beq_eq_false_iff_ne
def Xc:=@World.cell?_of_block
def Xd:=@of_decide_eq_true
def Xe:=@List.mem_of_getElem?
def Xf:=@List.foldl_nil
theorem Xg:type_of% @Nat.lt_of_lt_of_le:=@Nat.lt_of_lt_of_le
def Xh:=@Array.getD_eq_getD_getElem?
theorem Xi:type_of% @Prod.mk.inj:=@Prod.mk.inj
def Xk:=@List.not_mem_nil
def Xl:=@congrArg
theorem Xm:type_of% @List.length_append:=@List.length_append
def Xn:=@List.mem_append_right
def Xo:=@Bool.and_eq_true
theorem Xp:type_of% @List.all_eq_true:=@List.all_eq_true
def Xq:=@List.mem_map
def Xr:=@List.mem_append
def Xs:=@Nat.mod_lt
def Xt:=@wpOp_step
def Xu:=@List.getElem?_map
theorem Xv:type_of% @List.getElem?_append_left:=@List.getElem?_append_left
def Xw:=@List.mem_append_left
theorem Xx:type_of% @List.getElem?_append_right:=@List.getElem?_append_right
def Xy:=@World.ownsRow_nil
def Xz:=@List.mem_cons_self
theorem XA:type_of% @List.take_of_length_le:=@List.take_of_length_le
theorem XB:type_of% @List.length_take:=@List.length_take
def XD:=@List.length_reverse
theorem XE:type_of% @List.length_set:=@List.length_set
def XF:=@Nat.zero_add
def XG:=@List.nil_append
theorem XH:type_of% @List.length_map:=@List.length_map
def XI:=@or_false
def XJ:=@Nat.lt_or_ge
def XL:=@List.append_assoc
def XM:=@List.getElem?_of_mem
def XN:=@List.cons_append
def XO:=@List.pairwise_singleton
def XP:=@List.map_append
def XQ:=@Nat.testBit_mod_two_pow
theorem XR:type_of% @List.take_succ_eq_append_getElem:=@List.take_succ_eq_append_getElem
def XS:=@List.mem_range
theorem XT:type_of% @List.pairwise_cons:=@List.pairwise_cons
def XU:=@List.getElem_of_mem
def XV:=@Prod.mk.injEq
def XW:=@List.pairwise_append
def XX:=@World.ownsRow.cellAt
def XY:=@Nat.eq_of_testBit_eq
def XZ:=@Nat.testBit_div_two_pow
def X0:=@List.find?_cons
def X1:=@beq_iff_eq
theorem X2:type_of% @List.length_cons:=@List.length_cons
def X3:=@List.nodup_cons
def X5:=@List.nodup_append
def X6:=@List.perm_middle
def X7:=@Nat.le_add_right
theorem X8:type_of% @List.length_drop:=@List.length_drop
def X9:=@Option.getD_some
def Ya:=@List.getElem_mem
def Yb:=@World.block_lt_of_cell?
theorem Yc:type_of% @Nat.div_eq_of_lt:=@Nat.div_eq_of_lt
def Ye:=@Nat.add_zero
theorem Yf:type_of% @Nat.mul_le_mul_right:=@Nat.mul_le_mul_right
def Yg:=@Nat.lt_irrefl
def Yh:=@Nat.pow_le_pow_right
def Yi:=@Option.map_some
def Yj:=@List.mem_filter
theorem Yl:type_of% @List.length_replicate:=@List.length_replicate
def Ym:=@List.getElem?_eq_none
def Yn:=@Nat.le_zero
def Yo:=@List.eq_nil_of_length_eq_zero
def Yp:=@decide_eq_decide
theorem Yq:type_of% @Nat.two_pow_pos:=@Nat.two_pow_pos
def Yr:=@Array.getElem?_setIfInBounds
theorem Yu:type_of% @Nat.mod_mod:=@Nat.mod_mod
def Yv:=@World.frozen?_of_block
theorem Yw:type_of% @Nat.pow_add:=@Nat.pow_add
def Yx:=@Nat.mul_le_mul
theorem Yy:type_of% @List.take_add_one:=@List.take_add_one
def Yz:=@decide_eq_true_eq
def YA:=@Classical.byContradiction
def YB:=@Nat.zero_mul
theorem YC:type_of% @Nat.mul_comm:=@Nat.mul_comm
def YD:=@Nat.lt_of_le_of_lt
theorem YE:type_of% @List.findIdx?_eq_some_iff_getElem:=@List.findIdx?_eq_some_iff_getElem
def YF:=@List.mem_flatMap
def YG:=@Bool.true_and
theorem YH:type_of% @Below.heap_alloc:=@Below.heap_alloc
def YI:=@info_parts
def YJ:=@List.pairwise_map
def YK:=@Bool.not_eq_true'
def YL:=@List.mem_singleton_self
def YM:=@List.length_eq_zero_iff
def YN:=@decide_eq_false_iff_not
theorem YO:type_of% @Nat.add_mul:=@Nat.add_mul
def YP:=@Int.cast_ofNat_Int
def YQ:=@List.append_nil
def YR:=@Bool.or_eq_true
def YS:=@Nat.lt_succ_self
theorem YT:type_of% @List.drop_eq_getElem_cons:=@List.drop_eq_getElem_cons
theorem YU:type_of% @List.size_toArray:=@List.size_toArray
def YV:=@List.take_append_of_le_length
def YW:=@Nat.div_le_self
def YX:=@Bool.false_ne_true
def YY:=@List.mem_of_mem_take
theorem Y0:type_of% @List.drop_of_length_le:=@List.drop_of_length_le
def Y1:=@Option.map_eq_some_iff
def Y2:=@Result.andThen_ok
def Y3:=@List.take_zero
def Y4:=@Nat.testBit_eq_decide_div_mod_eq
def Y5:=@List.length_nil
def Y7:=@List.pairwise_iff_getElem
def Y8:=@Array.getElem?_eq_getElem
def Y9:=@List.findIdx?_eq_none_iff
def Za:=@false_or
def Zb:=@and_false
theorem Zc:type_of% @Nat.lt_of_not_le:=@Nat.lt_of_not_le
def Zd:=@List.map_map
def Ze:=@Nat.le_of_eq
def Zf:=@List.contains_eq_mem
theorem Zg:type_of% @Nat.min_eq_left:=@Nat.min_eq_left
def Zh:=@List.map_congr_left
def Zi:=@List.flatMap_append
def Zj:=@getElem!_pos
def Zk:=@Sum.inr.inj
def Zl:=@Obj.cells.inj
def Zm:=@run_underlying
def Zn:=@List.find?_eq_none
def Zo:=@List.mem_filterMap
def Zp:=@bne_iff_ne
def Zq:=@Array.getElem?_modify
def Zs:=@Array.getElem?_toList
def Zt:=@List.mem_of_find?_eq_some
theorem Zu:type_of% @Nat.div_add_mod:=@Nat.div_add_mod
def Zv:=@bits_or_u64_nat
def Zw:=@if_false
def Zx:=@List.getElem_reverse
def Zy:=@Array.replicate_succ
def Zz:=@Array.replicate_zero
def ZA:=@Bool.and_eq_true_iff
theorem ZB:type_of% @Nat.add_assoc:=@Nat.add_assoc
theorem ZC:type_of% @Nat.mul_assoc:=@Nat.mul_assoc
def ZD:=@Array.getElem?_replicate
theorem ZF:type_of% @Nat.sub_le:=@Nat.sub_le
def ZG:=@List.getElem?_range
def ZH:=@Ending.returned.inj
theorem ZI:type_of% @Array.length_toList:=@Array.length_toList
def ZJ:=@List.append_toArray
def ZK:=@List.take_length
theorem ZL:type_of% @Nat.add_sub_cancel_left:=@Nat.add_sub_cancel_left
def ZM:=@Nat.testBit_or
def ZN:=@Nat.le_succ
def ZO:=@Nat.mul_one
theorem ZP:type_of% @Below.heap_setCell:=@Below.heap_setCell
def ZQ:=@Nat.add_sub_cancel
def ZR:=@ByteArray.size_extract
theorem ZS:type_of% @Nat.zero_mod:=@Nat.zero_mod
def ZT:=@List.getElem?_take
def ZU:=@Sem.run_bind
def ZV:=@Sem.run_pure
def ZW:=@results_none
def ZX:=@List.drop_eq_nil_of_le
theorem ZY:type_of% @Nat.pow_succ:=@Nat.pow_succ
theorem ZZ:type_of% @Nat.div_div_eq_div_mul:=@Nat.div_div_eq_div_mul
def Z0:=@Nat.pos_of_ne_zero
def Z1:=@List.findIdx?_cons
def Z2:=@List.getElem?_toArray
def Z3:=@List.flatMap_cons
def Z4:=@List.push_toArray
def Z5:=@Or.imp
def Z6:=@wpList_plain
def Z7:=@Nat.pow_zero
def Z8:=@Bool.false_or
def Z9:=@Bool.eq_iff_iff
def qaa:=@lt_of_block
theorem qab:type_of% @setRow_heap:=@setRow_heap
def qac:=@List.nodup_nil
def qad:=@if_true
def qae:=@heap_alloc_new
def qaf:=@getElem?_pos
def qag:=@eq_comm
def qah:=@Nat.div_one
def aIn:=@And.intro
theorem AI{a b:Prop}(h:a:=by simp):a\/b:=Or.inl h
theorem AQ{c:Prop}{_:Decidable c}(h:¬c:=by omega){α:Sort _}{t e:α}:ite c t e=e:=if_neg h
theorem AV{c:Prop}{_:Decidable c}(h:c:=by omega){α:Sort _}{t e:α}:ite c t e=t:=if_pos h
theorem LZ{a b:Prop}(h:a):a\/b:=Or.inl h
theorem A4{a b:Prop}(h:b):a\/b:=Or.inr h
theorem AF:True:=trivial
abbrev AG:Ending:=.returned (.tuple #[])
theorem N3{p:Prop}(h:p:=by simp;omega):p:=h
theorem wq{p:Prop}(h:p:=by omega):p:=h
theorem K2{p:Prop}(h:p:=by simp):p:=h
theorem K3{p:Prop}(h:p:=by decide):p:=h
theorem K9{p:Prop}(h:p:=by grind):p:=h
theorem N0{p:Prop}(h:p:=by kernel_rfl):p:=h
theorem N1{p:Prop}(h:p:=by go_num):p:=h
theorem Q1{p:Prop}(h:p:=by simp_all):p:=h
theorem R5{p:Prop}(h:p:=by rfl):p:=h
abbrev Wb(s:Act)(d:Nat)(v:Value):Act:=s.put (some d) v
variable {t u d k g i j len E gg o p n b c a m z N e r q mb qd:Nat}{fn:Func}{w x x' w' y:WD}{I:Vm}{Q:Y6}{s:Act}{pos:String}{af:U9}{gd:U6}{K:K6}{ty:Vr}{f:Vp}{v0 v1 v2 v3:VL}{env:Nat->Option VL}{args:Ys}{Post:Ending->X4}{news:Tl}{Jq9:X4}{Ph:Nat->X4}{df:List Deferred}
def Wt(n:Nat):Code->Code
 |.region i o d=>bif i==n then .region i o d else .skip
 |.seq a b=>match Wt n a with
  |.skip=>Wt n b
  |c=>c
 |.cond _ a b=>match Wt n a with
  |.skip=>Wt n b
  |c=>c
 |.block _ c=>Wt n c
 |.loop c=>Wt n c
 |.scope c=>Wt n c
 |_=>.skip
def ym(f:Func)(n:Nat):Code:=Wt n<|f.body.getD .skip
section
variable {P:Program}{R:Ending->X4}{a:Act}
def bI(h:fn.results=#[])(D:a.defers=[])(C:R AG w):bodyPost P fn R .ret a w:=sp (by simp[results,h,go_sem]) D C
def IE(h:fn.results=#[.tmp t])(D:a.defers=[])(C:R (.returned<|a.tmps.getD t undef) w):bodyPost P fn R .ret a w:=sp (by simp[results,h,go_sem]) D C
def Kg(h:fn.results=#[.tmp t,.tmp u])(D:a.defers=[])(C:R (.returned<|.tuple #[a.tmps.getD t undef,a.tmps.getD u undef]) w):bodyPost P fn R .ret a w:=sp (by simp[results,h,go_sem]) D C
end
section
theorem ve{p p':Nat->Bool}(h:∀j,p' j=true->p j=true):∀(l:Tl)(i:Nat),i∈l->p i=true->p' i=false->l.countP p'<l.countP p
 |[],i,E,_,_=>by cases E
 |x::l,i,E,h1,h2=>by
  have mono:l.countP p'<=l.countP p:=List.countP_mono_left λj _ C=>h j C;rcases IF.1 E with rfl|E
  .grind
  have D:=ve h l i E h1 h2;grind
def lL(I:Vm)(j i:Nat):Bool:=((I[j]?).map λo=>o.after.any λe=>Region.binds .any e&&e.on==i).getD false
variable {P:Program}
def wpAny_inv(G:K6)(F:Nat->K6)(R:∀(i:Nat)(o:Oper),I[i]?=some o->∀a w,G a w->(∀e∈o.after,Region.binds .any e=true->F e.on a w)->wpOp P I Q i (λd Y=>G d Y/\F i d Y/\∀j,j≠i->lL I j i=false->F j a w->F j d Y) a w)(H:∀a w,G a w->(∀i,i<I.size->F i a w)->Q .normal a w):∀(D:Nat)(C:Array Bool)(a:Act)(w:WD),(List.range I.size).countP (λi=> !C.getD i true)<=D->C.size=I.size->G a w->(∀i,C.getD i false=true->F i a w)->(Region.ready .any I C=[]->∀i,i<I.size->C.getD i false=true)->(∀l:Array Bool,l.size=I.size->Region.ready .any I l=[]->∀i,i<I.size->l.getD i false=true)->(∀j i,C.getD j false=true->lL I j i=true->C.getD i false=true)->wpAny P .any I Q D C a w:=by
 intro D;induction D with
 |zero=>
  intro C a w b u m f q J V;have g:Region.ready .any I C=[]:=by apply List.eq_nil_iff_forall_not_mem.2;grind[Region.ready,List.range]
  exact⟨g,H a w m λi c=>f i<|q g i c⟩
 |succ D N=>
  intro C a w b u m f q J V;refine⟨λg=>H a w m λi c=>f i<|q g i c,λi c=>?_⟩;simp only[Region.ready,Yj,Xo,XS]at c;let⟨y,b,E⟩:=c;have S:I[i]?=some I[i]:=qaf _ i _;rw[S]at E;simp only[Yi,X9,Array.all_eq_true',YR,YK]at E;have X:i<C.size:=wq
  refine wpOp_mono ?_<|R i _ S a w m λe K c=>?_
  .rintro d Y ⟨A,z,O⟩;have L:C.getD i false=false:=by simp only[Xh,qaf C i X,X9]at b⊢;simpa using b
   refine N _ d Y ?_ (by simp[u]) A ?_ (J _<|by simp[u]) J ?_
   .have:=ve (p:=λi=> !C.getD i _) (p':=λj=> !(C.setIfInBounds i true).getD j true) ?_ (List.range _) i (by simpa using y) (by simpa using b) ?_
    .omega
    .intro j U;simp only[Xh,Yr]at U⊢;by_cases e:i=j
     .subst e;simp[X]at U
     simpa[e]using U
    simp[Xh,X]
   .intro j U;by_cases e:i=j
    .subst e;exact z
    have Z:C.getD j false=true:=by simpa[Xh,Yr,e]using U
    refine O j (λh=>e h.symm) ?_<|f j Z;cases b:lL I j i
    .rfl
    rw[V j i Z b]at L;cases L
   intro j k U b;have up:C.getD k false=true->(C.setIfInBounds i true).getD k false=true:=by
    intro h;by_cases e:i=k
    .subst e;rw[h]at L;cases L
    simpa[Xh,Yr,e]using h
   by_cases e:i=j
   .subst e;refine up ?_;unfold lL at b;rw[S]at b;simp only[Yi,X9,Array.any_eq_true',Xo,X1]at b;obtain⟨x,T,c,rfl⟩:=b;exact(E x T).resolve_left (by rw[c];simp)
   refine up<|V j k ?_ b;simpa[Xh,Yr,e]using U
  exact f _<|(E e K).resolve_left (by rw[c];simp)
def ru(I:Vm):Bool:=(List.range I.size).all λi=>((I[i]?).map λo=>o.after.all λe=> !Region.binds .any e||decide (e.on<i)).getD true
def jF(h:ru I=true):∀l:Array Bool,l.size=I.size->Region.ready .any I l=[]->∀i,i<I.size->l.getD i false=true:=by
 intro l L V i;induction i using Nat.strongRecOn with
 |_ i J=>
  intro O;unfold ru at h;have L:=Xp.1 h i (by simpa using O);have G:I[i]?=some I[i]:=qaf _ i O;rw[G]at L;simp only[Yi,X9,Array.all_eq_true',YR,YK,Yz]at L;cases U:l.getD i false
  .exfalso;have E:i∈Region.ready .any I l:=by
    simp only[Region.ready,Yj,Xo,XS];refine⟨O,?_,?_⟩
    .have D:i<l.size:=wq
     simp only[Xh,qaf l i D,X9]at U⊢;simp[U]
    rw[G];simp only[Yi,X9,Array.all_eq_true',YR,YK];intro e H;rcases L e H with L|C
    .exact LZ L
    exact A4<|J _ C wq
   rw[V]at E;cases E
  rfl
end
section
variable {v:VL}
section
variable {P:Program}
def gJ(C:d<s.tmps.size):(Wb s d v).tmps.getD k undef=if k=d then v else s.tmps.getD k undef:=by simp only[Act.put,Xh,Yr];grind
theorem kC(s:Act)(d:Nat)(v:VL):(Wb s d v).tmps.size=s.tmps.size:=by simp[Act.put]
def kX(s:Act)(d:Nat)(v:VL):(Wb s d v).defers=s.defers:=rfl
def dQ(a:Act)(tab:Td):Act:=tab.foldl (λs p=>s.put (some p.1) p.2) a
theorem mj:∀(C:Td)(a:Act),(dQ a C).tmps.size=a.tmps.size
 |[],_=>rfl
 |p::C,a=>by show(dQ (a.put (some p.1) p.2) C).tmps.size=_;rw[mj _,kC]
theorem ko:∀(C:Td)(a:Act),(dQ a C).defers=a.defers
 |[],_=>rfl
 |p::C,a=>by show(dQ (a.put (some p.1) p.2) C).defers=_;rw[ko _,kX]
theorem mz:∀(C:Td)(a:Act)(k:Nat),(∀p∈C,p.1<a.tmps.size)->(∀p∈C,p.1≠k)->(dQ a C).tmps.getD k undef=a.tmps.getD k undef
 |[],_,_,_,_=>rfl
 |p::C,a,k,hl,hk=>by show(dQ (a.put (some p.1) p.2) C).tmps.getD k undef=_;rw[mz _ _ k (λq D=>by grind[kC,IN])<|λq D=>hk q<|IN _ D,gJ<|hl p Xz,iF<|λh=>hk p Xz h.symm]
theorem qx:∀(C:Td)(a:Act)(d:Nat)(v:VL),(∀p∈C,p.1<a.tmps.size)->(C.map Prod.fst).Nodup->(d,v)∈C->(dQ a C).tmps.getD d undef=v
 |[],_,_,_,_,_,h=>by cases h
 |p::C,a,d,v,hl,hn,h=>by
  rw[List.map_cons,X3]at hn;show(dQ (a.put (some p.1) p.2) C).tmps.getD d undef=_;rcases IF.1 h with rfl|h
  .rw[mz _ _ d (λq D=>by grind[kC,IN])<|λq D e=>hn.1<|Xq.2 ⟨q,D,e⟩,gJ<|hl _ Xz,At W]
  exact qx _ _ d v (λq D=>by grind[kC,IN]) hn.2 h
def sY{t:Act}(D:s.tmps.size=t.tmps.size)(C:s.defers=t.defers)(E:∀k,k<t.tmps.size->s.tmps.getD k undef=t.tmps.getD k undef):s=t:=by let⟨H,G⟩:=s;let⟨Z,td⟩:=t;simp only at D C E;subst C;congr 1;apply Array.ext D;simp_all
end
section
variable {P:Program}
def Pm(G:Array Bool->K6)(O:∀(l:Array Bool)(i:Nat)(o:Oper),l.size=I.size->I[i]?=some o->l.getD i false=false->(∀e∈o.after,Region.binds .any e=true->l.getD e.on false=true)->∀a w,G l a w->wpOp P I Q i (λf Y=>G (l.setIfInBounds i true) f Y) a w)(J:∀(l:Array Bool) a w,l.size=I.size->(∀i,i<I.size->l.getD i false=true)->G l a w->Q .normal a w)(L:∀l:Array Bool,l.size=I.size->Region.ready .any I l=[]->∀i,i<I.size->l.getD i false=true):∀(D:Nat)(C:Array Bool)(a:Act)(w:WD),(List.range I.size).countP (λi=> !C.getD i true)<=D->C.size=I.size->G C a w->wpAny P .any I Q D C a w:=by
 intro D;induction D with
 |zero=>
  intro C a w S b V;have U:Region.ready .any I C=[]:=by apply List.eq_nil_iff_forall_not_mem.2;grind[Region.ready,List.range]
  exact⟨U,J _ a w b (L _ b U) V⟩
 |succ D A=>
  intro C a w S b V;refine⟨λU=>J _ a w b (L _ b U) V,λi q=>?_⟩;simp only[Region.ready,Yj,Xo,XS]at q;let⟨X,c,H⟩:=q;have y:I[i]?=some I[i]:=qaf _ i _;rw[y]at H;simp only[Yi,X9,Array.all_eq_true',YR,YK]at H;have R:i<C.size:=wq
  have Z:C.getD i false=false:=by simp only[Xh,qaf C i R,X9]at c⊢;simpa using c
  refine wpOp_mono ?_ (O _ i _ b y Z (λe z q=>(H e z).resolve_left (by rw[q];simp)) a w V);intro f Y h;refine A _ f Y ?_ (by simp[b]) h;have:=ve (p:=λi=> !C.getD i _) (p':=λj=> !(C.setIfInBounds i true).getD j true) ?_ (List.range _) i (by simpa using X) (by simpa using c) ?_
  .omega
  .intro j m;simp only[Xh,Yr]at m⊢;by_cases e:i=j
   .subst e;simp[R]at m
   simpa[e]using m
  simp[Xh,R]
def so{id:Nat}{a:Act}(J:P.follows .mixedOrders=true)(D:ru I=true)(G:Array Bool->K6)(R:G (Array.replicate I.size false) a w.drew)(C:∀(l:Array Bool)(i:Nat)(o:Oper),l.size=I.size->I[i]?=some o->l.getD i false=false->(∀e∈o.after,Region.binds .any e=true->l.getD e.on false=true)->∀a w,G l a w->wpOp P I Q i (λO L=>G (l.setIfInBounds i true) O L) a w)(H:∀(l:Array Bool) a w,l.size=I.size->(∀i,i<I.size->l.getD i false=true)->G l a w->Q .normal a w):(Code.region id I true).wp P Q a w:=by refine wp_region_any J<|Pm G C H (jF D) _ _ a _ ?_ K2 R;grind[By,List.countP_le_length]
def dr{I:Vm}{o:Oper}{t:Ys}(h:o.guard=none):Region.wanted o (yielded I t)=true:=by grind[Region.wanted]
def Kw{I:Vm}{o C:Oper}{t:Ys}{d:Nat}(h:o.guard=some (g,true))(G:I[g]?=some C)(H:C.dst=some d)(D:t.getD d undef=.bool true):Region.wanted o (yielded I t)=true:=by unfold Region.wanted;rw[h];unfold yielded;simp only[G,Option.bind_some,H];rw[Xh]at D;grind[undef]
def GH{I:Vm}{o C:Oper}{t:Ys}{d:Nat}(h:o.guard=some (g,false))(G:I[g]?=some C)(H:C.dst=some d)(D:t.getD d undef=.bool false):Region.wanted o (yielded I t)=true:=by unfold Region.wanted;rw[h];unfold yielded;simp only[G,Option.bind_some,H];rw[Xh]at D;grind[undef]
def MQ{I:Vm}{o C:Oper}{t:Ys}{d:Nat}(h:o.guard=some (g,false))(G:I[g]?=some C)(H:C.dst=some d)(D:t.getD d undef=.bool true):Region.wanted o (yielded I t)=false:=by unfold Region.wanted;rw[h];unfold yielded;simp only[G,Option.bind_some,H];rw[Xh]at D;grind
abbrev Kn:=Nat×VL->Tl->VL->X4
abbrev Tb:=List<|Yt×Kn
abbrev ei(tab:Tb):Tl:=tab.filterMap Prod.fst
def iY(s:Act):Yt->VL
 |some d=>s.tmps.getD d undef
 |none=>undef
def tD:Tb->Tn->Td
 |(some d,_)::l,v::vs=>(d,v)::tD l vs
 |(none,_)::l,_::vs=>tD l vs
 |_,_=>[]
theorem su(s:Act):∀C:Tb,tD C (C.map λp=>iY s p.1)=(ei C).map λd=>(d,s.tmps.getD d undef)
 |[]=>rfl
 |(some d,T)::l=>by show(d,_)::tD l _=_;rw[su s l];rfl
 |(none,T)::l=>by show tD l _=_;rw[su s l];rfl
theorem wC:∀(C:Tb),(ei C).Nodup->∀(i j d:Nat)(T D:Kn),C[i]?=some (some d,T)->C[j]?=some (some d,D)->i=j
 |[],_,i,_,_,_,_,h,_=>by simp at h
 |p::l,hn,0,0,_,_,_,_,_=>rfl
 |p::l,hn,0,j+1,d,T,D,h,h'=>K9
 |p::l,hn,i+1,0,d,T,D,h,h'=>K9
 |p::l,hn,i+1,j+1,d,T,D,h,h'=>by
  have G:(ei l).Nodup:=K9
  rw[wC l G i j d T D K9 K9]
theorem km{tab:Tb}{d:Nat}{T:Kn}(h:tab[i]?=some (some d,T)):d∈ei tab:=Zo.2 ⟨_,Xe h,W⟩
theorem nJ(s:Act)(d:Yt)(v:VL)(k:Nat)(C:∀e,d=some e->e<s.tmps.size/\e≠k):(s.put d v).tmps.getD k undef=s.tmps.getD k undef:=by
 cases d with
 |none=>rfl
 |some e=>rw[gJ (C e W).1,iF<|λh=>(C e W).2 h.symm]
def ew(l:Array Bool)(i j:Nat)(hi:i<l.size):(l.setIfInBounds i true).getD j false=if i=j then true else l.getD j false:=by
 by_cases e:i=j
 .simp_all
 simp_all
def Be{j:Nat}{o:Oper}(C:I[i]?=some o)(h:lL I i j=true):∃e∈o.after,Region.binds .any e=true/\e.on=j:=by grind[lL]
def qU(I:Vm):Nat->Nat->Nat->Bool
 |0,i,c=>lL I i c
 |f+1,i,c=>lL I i c||(List.range I.size).any λj=>lL I i j&&qU I f j c
theorem uy{l:Array Bool}(C:∀i j,l.getD i false=true->lL I i j=true->l.getD j false=true):∀(f i c:Nat),(∀j,lL I i j=true->l.getD j false=true)->qU I f i c=true->l.getD c false=true
 |0,i,c,hd,h=>hd c h
 |f+1,i,c,hd,h=>by
  unfold qU at h;rcases(Bool.or_eq_true_iff.1 h)with D|D
  .grind
  let⟨j,_,G⟩:=List.any_eq_true.1 D;let⟨J,H⟩:=ZA.1 G;exact uy C f j c (λk L=>C j k (hd j J) L) H
end
section
variable {P:Program}{T:Nat}
def elT(P:Program)(T:Nat):Nat:=match P.underlying T with|some (.slice e)=>e|_=>0
def gK(z:Nat)(he:tG s t<|.slice (some ⟨gg,o,none⟩) len E)(G:tG s u<|iI (j:Int))(D:j<len)(C:K (Wb s d<|pq gg<|o+j*z) x)(H:P.underlying T=some (.slice<|elT P T):=by kernel_rfl)(hz:∀x,(sizeOf<|elT P T).run P x=.ok z x:=by intros;kernel_rfl):Oper.wp P ⟨some d,.indexAddr T (.tmp t)<|.tmp u,ty,pos,af,gd⟩ s x K Q:=by go_simp;exact C
def mA(z:Nat)(he:tG s t<|sL gg len E)(G:tG s u<|iI (j:Int))(D:j<len)(C:K (Wb s d<|pq gg<|j*z) x)(H:P.underlying T=some (.slice<|elT P T):=by kernel_rfl)(hz:∀x,(sizeOf<|elT P T).run P x=.ok z x:=by intros;kernel_rfl):Oper.wp P ⟨some d,.indexAddr T (.tmp t)<|.tmp u,ty,pos,af,gd⟩ s x K Q:=by go_simp;exact C
def qb(he:tG s t<|sL gg len E)(G:tG s u<|iI (j:Int))(D:j<len)(C:K (Wb s d<|pq gg j) x)(H:P.underlying T=some (.slice<|elT P T):=by kernel_rfl)(hz:∀x,(sizeOf<|elT P T).run P x=.ok 1 x:=by intros;kernel_rfl):Oper.wp P ⟨some d,.indexAddr T (.tmp t)<|.tmp u,ty,pos,af,gd⟩ s x K Q:=by go_simp;exact C
end
abbrev Kp:=Nat->VL->X4
def kn(T:Kp):Kn:=λc _ v x=>T c.1 v x
abbrev Tp:=List<|Yt×Kp
def rF(t:Tp):Tb:=t.map λp=>(p.1,kn p.2)
def Mi{t:Tp}{d:Yt}{T:Kn}(h:(rF t)[i]?=some (d,T)):∃Uq9,t[i]?=some (d,Uq9)/\T=kn Uq9:=by grind[rF]
def CA{t:Tp}{d:Yt}{C:Kp}(h:t[i]?=some (d,C)):(rF t)[i]?=some (d,kn C):=by grind[rF]
structure GP(I:Vm)(Ph:Nat->X4)(tab:Tb)(P:Tl)(a:Act)(l:Array Bool)(s:Act)(x:WD)(k:Nat):Prop where
 bm:∀(p c:Nat),P[p]?=some c->(l.getD c false=true↔p<k)
 bV:k<=P.length
 ph:Ph k x
 sz:s.tmps.size=a.tmps.size
 df:s.defers=a.defers
 aa:∀j,j∉ei tab->s.tmps.getD j undef=a.tmps.getD j undef
 kn:∀(i:Nat)(d:Yt)(T:Kn),tab[i]?=some (d,T)->l.getD i false=true->T (k,undef) [] (iY s d) x
 cl:∀i j,l.getD i false=true->lL I i j=true->l.getD j false=true
def GP.cH{X:Nat->X4}{C:Tb}{P:Tl}{a:Act}{l:Array Bool}(G:GP I X C P a l s x k)(y:(ei C).Nodup)(U:∀d,d∈ei C->d<a.tmps.size){d:Yt}{T:Kn}{k':Nat}(hi:i<l.size)(O:C[i]?=some (d,T))(Z:∀f j,(l.setIfInBounds i true).getD f false=true->lL I f j=true->(l.setIfInBounds i true).getD j false=true)(J:∀(p c:Nat),P[p]?=some c->((l.setIfInBounds i true).getD c false=true↔p<k'))(R:k'<=P.length)(o:X k' x')(A:d=none->v=undef)(b:T (k',undef) [] v x')(V:∀(j:Nat)(dj:Yt)(D:Kn),C[j]?=some (dj,D)->j≠i->D (k,undef) [] (iY s dj) x->D (k',undef) [] (iY s dj) x'):GP I X C P a (l.setIfInBounds i true) (s.put d v) x' k':=by
 have L:∀e,d=some e->e<s.tmps.size:=λe z=>by rw[G.sz];exact U e<|km<|by rw[O,z]
 have E:∀(j:Nat)(dj:Option _)(D:Kn),C[j]?=some (dj,D)->j≠i->iY (s.put d v) dj=iY s dj:=λj dj D H g=>by
  cases dj with
  |none=>rfl
  |some e=>
   refine nJ s d v e λm Y=>⟨L m Y,λh=>?_⟩
   grind[wC]
 refine⟨J,R,o,?_,?_,λj H=>?_,λj dj D H q=>?_,Z⟩
 .cases d with
  |none=>exact G.sz
  |some e=>rw[kC];exact G.sz
 .cases d with
  |none=>exact G.df
  |some e=>rw[kX];exact G.df
 .rw[<-G.aa j H];grind[nJ,km]
 by_cases e:j=i
 .subst e;rw[O]at H;obtain⟨rfl,rfl⟩:=Xi<|hV H;cases d with
  |none=>rwa[A W]at b
  |some e=>
   have:iY (Wb s e v) (some e)=v:=by show(Wb s e v).tmps.getD e undef=v;rw[gJ<|L e W,At W]
   rwa[this]
 rw[ew l i j hi,iF<|λh=>e h.symm]at q;rw[E j dj D H e];exact V j dj D H e<|G.kn j dj D H q
def NewB(x:WD)(v:VL)(x':WD):=∃b,v=pt b/\x.heap.size<=b/\b<x'.heap.size
def GD(DI:Tl)(tab:Tb)(l:Array Bool)(s:Act)(x:WD):=
 (∀i∈DI,∀(d:Yt)(T:Kn),tab[i]?=some (d,T)->l.getD i false=true->∃b,iY s d=pt b/\b<x.heap.size)/\
 ∀i∈DI,∀j∈DI,i≠j->∀(d d':Yt)(T T':Kn),tab[i]?=some (d,T)->tab[j]?=some (d',T')->l.getD i false=true->l.getD j false=true->iY s d≠iY s d'
theorem GD.aX{Z:Tl}{n:Nat->X4}{E:Tb}{P:Tl}{a:Act}{l:Array Bool}(o:GD Z E l s x)(G:GP I n E P a l s x k)(t:(ei E).Nodup)(S:∀d,d∈ei E->d<a.tmps.size){d:Yt}{T:Kn}(hi:i<l.size)(y:E[i]?=some (d,T))(q:d=none->v=undef)(r:Z≠[]->x.heap.size<=x'.heap.size)(hn:i∈Z->NewB x v x'):GD Z E (l.setIfInBounds i true) (s.put d v) x':=by
 have m:∀e,d=some e->e<s.tmps.size:=λe c=>by rw[G.sz];exact S e<|km<|by rw[y,c]
 have C:∀(j:Nat)(dj:Yt)(D:Kn),E[j]?=some (dj,D)->j≠i->iY (s.put d v) dj=iY s dj:=λj dj D U H=>by
  cases dj with
  |none=>rfl
  |some e=>
   refine nJ s d v e λp K=>⟨m p K,λh=>?_⟩
   grind[wC]
 have g:i∈Z->iY (s.put d v) d=v:=λA=>by
  cases d with
  |none=>let⟨b,e,_⟩:=hn A;rw[q W]at e;cases e
  |some e=>show(Wb s e v).tmps.getD e undef=v;rw[gJ<|m e W,At W]
 have u:∀j∈Z,j≠i->∀(dj:Yt)(D:Kn),E[j]?=some (dj,D)->(l.setIfInBounds i true).getD j false=true->l.getD j false=true/\∃b,iY s dj=pt b/\b<x.heap.size:=λj U H dj D J q=>by rw[ew l i j hi,iF<|λh=>H h.symm]at q;exact⟨q,o.1 j U dj D J q⟩
 have new:∀(dj:Yt)(D:Kn),E[i]?=some (dj,D)->i∈Z->∃b,iY (s.put d v) dj=pt b/\x.heap.size<=b/\b<x'.heap.size:=λdj D J A=>by obtain⟨rfl,rfl⟩:=Xi<|hV<|y.symm.trans J;let⟨b,e,V,Y⟩:=hn A;exact⟨b,(g A).trans e,V,Y⟩
 refine⟨λj U dj D J q=>?_,λj U f X H dj L D R J O q z=>?_⟩
 .by_cases e:j=i
  .subst e;let⟨b,V,_,Y⟩:=new dj D J U;exact⟨b,V,Y⟩
  let⟨_,b,V,Y⟩:=u j U e dj D J q;exact⟨b,(C j dj D J e).trans V,Xg Y<|r<|List.ne_nil_of_mem U⟩
 by_cases e:j=i
 .subst e;let⟨b,V,Y,_⟩:=new dj D J U;let⟨_,N,F,c⟩:=u f X (Ne.symm H) L R O z;rw[V,C f L R O<|Ne.symm H,F];intro h;simp at h
 by_cases p:f=i
 .subst p;let⟨b,V,Y,_⟩:=new L R O X;let⟨_,N,F,c⟩:=u j U H dj D J q;rw[V,C j dj D J H,F];intro h;simp at h
 rw[C j dj D J e,C f L R O p];exact o.2 j U f X H dj L D R J O (u j U e dj D J q).1 (u f X p L R O z).1
def AN(I:Vm)(tab:Tp)(D:Td):Bool:=(D.all λp=> !(ei<|rF tab).contains p.1)||
 (((List.range I.size).all λj=>j==I.size-1||lL I (I.size-1) j)&&((List.range tab.length).all λj=>j==I.size-1||(match tab[j]? with
  |some (some d,_)=>D.all λp=> !(d==p.1)
  |_=>true)))
def vw{I:Vm}{E:Tp}{D:Td}(h:AN I E D=true):(∀p∈D,p.1∉ei (rF E))\/((∀j,j<I.size->j≠I.size-1->lL I (I.size-1) j=true)/\∀(i:Nat)(q:Yt×Kp),E[i]?=some q->¬i=I.size-1->∀p∈D,∀{e:Nat},q.1=some e->¬e=p.1):=by
 unfold AN at h;rw[YR]at h;rcases h with h|h
 .left;intro p P L;have:=Xp.1 h p P;simp only[YK,Zf,YN]at this;exact this L
 right;rw[Xo]at h;refine⟨λj O G=>?_,λi q U G p P e H J=>?_⟩
 .have:=Xp.1 h.1 j<|XS.2 O;rw[YR]at this;rcases this with C|C
  .exact absurd (by simpa using C) G
  exact C
 have:=Xp.1 h.2 i<|XS.2 (Do.1 U).1;rw[YR]at this;rcases this with C|C
 .exact G (by simpa using C)
 let⟨d,T⟩:=q;dsimp only at H;subst H;rw[U]at C;have:=Xp.1 C p P;simp[J]at this
def Bh(r:Tl)(B:WD->X4){id:Nat}{a:Act}(hm:prog.follows .mixedOrders=true)(b7:ru I=true)(b:Nat->X4)(a5:Nat->Act->WD->X4){C:Tp}{P:Tl}(c9:r≠[]->(∀x x',B x x'->x.heap.size<=x'.heap.size)/\∀p s x x',a5 p s x x'->x.heap.size<=x'.heap.size)(hDc:∀i∈r,i∉P)(b8:C.length=I.size)(J:decide (ei<|rF C).Nodup=true)(d1:((ei<|rF C).all λd=>decide (d<a.tmps.size))=true)(h0:b 0 w.drew){D:Td}(a1:∀p∈D,a.tmps.getD p.1 undef=p.2)(X:AN I C D=true)(n:((List.range<|P.length-1).all λq=>qU I 3 (P.getD (q+1) 0)<|P.getD q 0)=true)(a4:decide P.Nodup=true)(hcl:(P.all λc=>decide (c<I.size))=true)(a8:∀(j:Nat)(d:Yt)(T:Kp),C[j]?=some (d,T)->∀p s x x',P[p]? ≠some j->p<P.length->b p x->a5 p s x x'->T p (iY s d) x->T (p+1) (iY s d) x')(d0:∀(j:Nat)(d:Yt)(T:Kp),C[j]?=some (d,T)->∀p v x x',b p x->B x x'->T p v x->T p v x')(b6:∀(i:Nat)(o:Oper)(d:Yt)(T:Kp),I[i]?=some o->C[i]?=some (d,T)->i∉P->∀k s x,k<=P.length->(∀q c,P[q]?=some c->qU I 3 i c=true->q<k)->(∀q c,P[q]?=some c->qU I 3 c i=true->k<=q)->b k x->s.defers=a.defers->(∀p∈D,s.tmps.getD p.1 undef=p.2)->(∀e∈o.after,Region.binds .any e=true->∀(L:Yt)(R:Kp),C[e.on]?=some (L,R)->R k (iY s L) x)->((Region.wanted o (yielded I s.tmps)=true/\∀K:K6,(∀v x',b k x'->B x x'->(d=none->v=undef)->(i∈r->NewB x v x')->T k v x'->K (s.put d v) x')->Oper.wp prog o s x K Q)\/(Region.wanted o (yielded I s.tmps)=false/\o.dst=d/\T k undef x/\i∉r)))(b9:∀(p i:Nat)(o:Oper)(d:Yt)(T:Kp),P[p]?=some i->I[i]?=some o->C[i]?=some (d,T)->∀s x,b p x->s.defers=a.defers->(∀p∈D,s.tmps.getD p.1 undef=p.2)->(∀e∈o.after,Region.binds .any e=true->∀(L:Yt)(R:Kp),C[e.on]?=some (L,R)->R p (iY s L) x)->(∀j∈r,∀V∈r,j≠V->lL I i j=true->lL I i V=true->∀(d L:Yt)(T R:Kp),C[j]?=some (d,T)->C[V]?=some (L,R)->iY s d≠iY s L)->(Region.wanted o (yielded I s.tmps)=true/\∀K:K6,(∀v x',b (p+1) x'->a5 p s x x'->(d=none->v=undef)->T (p+1) v x'->K (s.put d v) x')->Oper.wp prog o s x K Q))(a6:∀(vs:Tn) x,b P.length x->vs.length=C.length->(∀(i:Nat)(d:Yt)(T:Kp),C[i]?=some (d,T)->T P.length (vs.getD i undef) x)->(∀j∈r,∀V∈r,j≠V->j<I.size->V<I.size->vs.getD j undef≠vs.getD V undef)->Q .normal (dQ a<|tD (rF C) vs) x):(Code.region id I true).wp prog Q a w:=by
 have J:=Xd J;have a4:=Xd a4;have H:∀d,d∈ei _->d<a.tmps.size:=λd u=>Xd<|Xp.1 d1 d u;have d3:(rF C).length=I.size:=by grind[rF]
 refine so hm b7 (λl s x=>∃k,GP I b (rF C) P a l s x k/\(l.getD (I.size-1) false=false->∀p∈D,s.tmps.getD p.1 undef=p.2)/\GD r (rF C) l s x) ?_ ?_ ?_
 .have hrep:∀j,(Array.replicate I.size false).getD j false=false:=λj=>by rw[Xh,ZD];grind
  exact⟨0,⟨λp c _=>K9,In _,h0,W,W,λ_ _=>W,λi d T _ hl=>K9,λi j hl=>K9⟩,λ_=>a1,λi _ d T _ hl=>K9,λi _ j _ _ d L T R _ _ hl=>K9⟩
 .rintro l i o hls ho Z a3 s x ⟨k,G,hBb,Y⟩;have hio:=(WY.1 ho).1;have E:i<l.size:=wq
  obtain⟨⟨d,c0⟩,a0⟩:∃p,C[i]?=some p:=⟨_,iN wq⟩
  have O:=CA a0;have a7:∀p∈D,s.tmps.getD p.1 undef=p.2:=by
   rcases vw X with ha|⟨hdl,_⟩
   .exact λp b=>(G.aa _<|ha p b).trans<|a1 p b
   refine hBb ?_;cases r:l.getD (I.size-1) false with
   |false=>rfl
   |true=>
    by_cases e:i=I.size-1
    .rw[<-e,Z]at r;cases r
    have:=G.cl _ i r<|hdl i hio e;rw[Z]at this;cases this
  have F:∀v,(l.setIfInBounds i _).getD _ _=false->∀p∈D,(s.put d v).tmps.getD p.1 _=p.2:=λv hl p b=>by
   refine Eq.trans ?_<|a7 p b;cases d with
   |none=>rfl
   |some e=>
    rw[gJ (by rw[G.sz];exact H e (km O):e<s.tmps.size)];refine iF λr=>?_;rcases vw X with ha|⟨_,u⟩
    .exact ha p b (by rw[r];exact km O)
    refine u i _ a0 (λe9=>?_) p b W r.symm;rw[ew l i _ E,At e9]at hl;cases hl
  have Bp:∀e∈o.after,Region.binds _ e=true->∀(L:Option _)(R:Kp),C[e.on]?=some (L,R)->R k _ x:=λe r hb L R h=>G.kn _ _ _ (CA h)<|a3 e r hb;have A:∀j,lL _ i j=true->l.getD j _=true:=λj f=>by let⟨e,r,hb,hon⟩:=Be ho f;exact hon▸a3 e r hb
  have g:∀i' j,(l.setIfInBounds i _).getD i' _=true->lL _ i' j=true->(l.setIfInBounds i _).getD j _=true:=λi' j r h2=>by
   rw[ew l i j E];by_cases e:i=j
   .rw[At e]
   rw[iF e];rw[ew l i i' E]at r;by_cases e2:i=i'
   .subst e2;exact A j h2
   rw[iF e2]at r;exact G.cl i' j r h2
  refine Xt ho λK hK=>?_;by_cases t:i∈P
  .obtain⟨p,b⟩:=XM t;have hkp:k=p:=by
    have r:¬p<k:=λh=>by rw[(G.bm p i b).2 h]at Z;cases Z
    cases p with
    |zero=>omega
    |succ q=>
     have hq2:q<P.length:=by have:=(Do.1 b).1;omega
     have h2:=Xp.1 n q (XS.2 (by have:=(Do.1 b).1;omega));rw[If,b,X9]at h2;have h3:=uy G.cl 3 i _ A h2;rw[If,iN hq2,X9]at h3;have h4:=(G.bm q _<|iN _).1 h3;omega
   subst hkp;have hkl:=(Do.1 b).1;let⟨hw,z⟩:=b9 k i o d c0 b ho a0 s x G.ph G.df a7 Bp λj f V b1 U u hd' d L T R ht m=>Y.2 j f V b1 U d L _ _ (CA ht) (CA m) (A j u)<|A V hd';rw[At hw];refine z K λv x' hF' hr hv hT=>hK _ _ ⟨_,G.cH J H E O g (λq c y=>?_) wq hF' hv hT<|λj dj Tj f U hu=>?_,F v,Y.aX G J H E O hv (λu=>(c9 u).2 _ _ _ _ hr)<|λhm=>absurd t<|hDc i hm⟩
   .rw[ew l i c E];by_cases e:i=c
    .subst e;have:=(List.getElem?_inj (Do.1 y).1 a4).1<|y.trans b.symm;subst this;simp
    rw[iF e,G.bm q c y];have:q≠k:=λh=>e (by subst h;rw[b]at y;exact hV y);omega
   obtain⟨Uj,r,rfl⟩:=Mi f;exact a8 j dj Uj r k s x x' (λh=>U<|hV<|h.symm.trans b) hkl G.ph hr hu
  have N:∀(p c:Nat),P[p]?=some c->((l.setIfInBounds i _).getD c _=true↔p<k):=λp c c8=>by rw[ew l i c E,iF<|λh=>t (by rw[h];exact Xe c8)];exact G.bm p c c8
  rcases b6 i o d c0 ho a0 t k s x G.bV (λq c hq ha=>(G.bm q c hq).1<|uy G.cl 3 i c A ha) (λq c hq ha=>Nat.le_of_not_lt λH=>by rw[uy G.cl 3 c i (λj f=>G.cl c j ((G.bm q c hq).2 H) f) ha]at Z;cases Z) G.ph G.df a7 Bp with⟨hw,z⟩|hw
  .rw[At hw];exact z K λv x' hP hS hv hN hT=>hK _ _ ⟨k,G.cH J H E O g N G.bV hP hv hT (λj dj Tj f U hu=>by obtain⟨Uj,r,rfl⟩:=Mi f;exact d0 j dj Uj r k _ x x' G.ph hS hu),F v,Y.aX G J H E O hv (λu=>(c9 u).1 _ _ hS) hN⟩
  rw[iF (by rw[hw.1];exact YX),hw.2.1];exact hK (s.put d undef) x ⟨k,G.cH J H E O g N G.bV G.ph (λ_=>W) hw.2.2.1<|λj dj Tj f U hu=>hu,F _,Y.aX G J H E O (λ_=>W) (λ_=>DO _)<|λhm=>absurd hm hw.2.2.2⟩
 rintro l s x hls a2⟨k,G, -,Y⟩;have hk:k=P.length:=by refine Nat.le_antisymm G.bV<|Nat.le_of_not_lt λh=>?_;have h2:=(G.bm k _<|iN h).1<|a2 _<|Xd<|Xp.1 hcl _<|Ya h;omega
 subst hk;have S:∀p∈(ei _).map (λd=>(d,s.tmps.getD d undef)),p.1<a.tmps.size:=λp b=>by obtain⟨d,u,rfl⟩:=Xq.1 b;exact H d u
 have e:s=dQ a (tD (rF C)<|(rF C).map λp=>iY s p.1):=by
  rw[su];refine sY (by rw[mj,G.sz]) (by rw[ko,G.df]) λk _=>?_;by_cases hk:k∈ei (rF C)
  .rw[qx _ a k _ S (by rw[(show((ei<|rF C).map<|λd=>(d,s.tmps.getD d undef)).map Prod.fst=ei (rF C) by simp[Zd,Function.comp_def])];exact J)<|Xq.2 ⟨k,hk,W⟩]
  rw[G.aa k hk,mz _ a k S λp b e=>hk (by obtain⟨d,u,rfl⟩:=Xq.1 b;exact e▸u)]
 have b:∀(i:Nat)(d:Option _)(T:Kp),C[i]?=some (d,T)->((rF _).map λp=>iY s p.1).getD i undef=iY s d:=λi d T h=>by rw[If,Xu,CA h];rfl
 have a9:∀(i:Nat)(d:Option _)(T:Kp),C[i]?=some (d,T)->l.getD i _=true:=λi d T h=>a2 i (by rw[<-b8];exact(Do.1 h).1);have h:=a6 ((rF C).map _) x G.ph (by simp[rF]) (λi d T h=>by rw[b i d T h];exact G.kn i d _ (CA h)<|a9 i d T h) (λj f V b1 U r h2=>by
  obtain⟨⟨d,T⟩,ht⟩:∃p,C[j]?=some p:=⟨_,iN wq⟩
  obtain⟨⟨L,R⟩,m⟩:∃p,C[V]?=some p:=⟨_,iN wq⟩
  rw[b j d T ht,b V L R m];exact Y.2 j f V b1 U d L _ _ (CA ht) (CA m) (a9 j d T ht)<|a9 V L R m)
 rwa[<-e]at h
def Cp(c:VL):Kp:=λ_ v _=>v=c
end
abbrev En:=VL ⊕ Kp
abbrev En.v(c:VL):En:=.inl c
abbrev En.l(T:Kp):En:=.inr T
def En.l.injEq(T C:Kp):(En.l T=En.l C)=(T=C):=K2
def En.kp:En->Kp
 |.inl c=>Cp c
 |.inr T=>T
def En.bF:En->Bool
 |.inl _=>true
 |.inr _=>false
abbrev Es:=List<|Yt×En
def nU(es:Es):Tp:=es.map λp=>(p.1,p.2.kp)
def CM(I:Vm)(j t:Nat):Bool:=match I[j]? with
 |some o=>o.dst==some t
 |none=>false
def LR(I:Vm)(t:Nat):List Edge->Yt
 |[]=>none
 |e::r=>bif Region.binds .any e&&CM I e.on t then some e.on else LR I t r
def pg(I:Vm)(D:Td)(es:Es)(o:Oper)(t:Nat):Option VL:=match D.lookup t with
 |some c=>some c
 |none=>match LR I t o.after.toList with
  |some j=>match es[j]? with
   |some (_,.inl c)=>some c
   |_=>none
  |none=>none
def zz(I:Vm)(es:Es)(o:Oper)(t:Nat):Option Kp:=match LR I t o.after.toList with
 |some j=>match es[j]? with
  |some (_,.inr T)=>some T
  |_=>none
 |none=>none
def pG(env:Nat->Option VL)(s:Act):Operand->VL
 |.tmp t=>(env t).getD<|s.tmps.getD t undef
 |.const v=>v
 |.global g=>pt g
 |.func f=>.func (.func f) #[] #[]
def Hh(I:Vm)(es:Es)(o:Oper):Bool:=match o.guard with
 |none=>true
 |some (j,b)=>(o.after.toList.any λe=>Region.binds .any e&&e.on==j)&&(match I[j]? with
  |some og=>og.dst.isSome
  |none=>false)&&(match es[j]? with
  |some (_,.inl<|.bool c)=>c==b
  |_=>false)
def se(g:Vp):Es->Nat->Td
 |[],_=>[]
 |(none,_)::r,i=>se g r<|i+1
 |(some d,.inl c)::r,i=>(d,c)::se g r (i+1)
 |(some d,.inr _)::r,i=>(d,g i)::se g r (i+1)
def gt(g:Vp)(i:Nat):se g [] i=[]:=rfl
def uN(g:Vp)(i:Nat)(E:En)(r:Es):se g ((none,E)::r) i=se g r (i+1):=rfl
def lP(g:Vp)(i d:Nat)(c:VL)(r:Es):se g ((some d,.v c)::r) i=(d,c)::se g r (i+1):=rfl
def fe_l(g:Vp)(i d:Nat)(T:Kp)(r:Es):se g ((some d,.l T)::r) i=(d,g i)::se g r (i+1):=rfl
theorem OM(vs:Tn):∀(C:Es)(i:Nat),i+C.length=vs.length->(∀j d c,C[j]?=some (d,.v c)->vs.getD (i+j) undef=c)->tD (rF<|nU C) (vs.drop i)=se (λk=>vs.getD k undef) C i
 |[],i,hl,_=>R5
 |(d,E)::r,i,hl,hv=>by
  have H:i<vs.length:=K9
  rw[YT H];have D:=OM vs r (i+1) K9 (λj d c h=>by have:=hv (j+1) d c K9;grind);have G:vs[i]=vs.getD i undef:=K9
  cases d with
  |none=>exact D
  |some d=>
   cases E with
   |inl c=>have:=hv 0 _ c W;show(d,vs[i])::tD (rF<|nU r) (vs.drop<|i+1)=_;rw[G,show vs.getD i _=c from this,D];rfl
   |inr T=>show(d,vs[i])::tD (rF<|nU r) (vs.drop<|i+1)=_;rw[G,D];rfl
def wG{es:Es}{d:Yt}{T:Kp}(h:(nU es)[i]?=some (d,T)):∃E,es[i]?=some (d,E)/\T=E.kp:=by grind[nU]
def ue{es:Es}{d:Yt}{E:En}(h:es[i]?=some (d,E)):(nU es)[i]?=some (d,E.kp):=by grind[nU]
theorem yz{I:Vm}{t j:Nat}:∀{l:List Edge},LR I t l=some j->∃e∈l,Region.binds .any e=true/\e.on=j/\CM I j t=true
 |[],h=>by cases h
 |e::r,h=>by
  unfold LR at h;cases G:(Region.binds .any e&&CM I e.on t)with
  |true=>grind
  |false=>rw[G]at h;let⟨E,D,C⟩:=yz h;grind
def Hs(B:WD->X4)(I:Vm)(D:Td)(es:Es)(P:Tl)(Ph:Nat->X4)(df:List Deferred)(Q:Y6)(i:Nat)(o:Oper)(d:Yt)(E:En):=
 ∀{k:Nat}{s:Act}{x:WD}{_:k<=P.length}{_:∀q c,P[q]?=some c->qU I 3 i c=true->q<k}{_:s.defers=df}{_:∀t T,zz I es o t=some T->T k (s.tmps.getD t undef) x}{K:K6}(_:∀(q c:Nat) (_:P[q]?=some c:=by rfl) (_:qU I 3 c i=true:=by kernel_rfl),k<=q)(_:Ph k x)
  (_:∀{t c},pg I D es o t=some c->s.tmps.getD t undef=c),(∀v x',B x x'->(d=none->v=undef)->E.kp k v x'->K (s.put d v) x')->Oper.wp prog o s x K Q
def VO(I:Vm)(D:Td)(es:Es)(Ph:Nat->X4)(Rel:Nat->Act->WD->X4)(df:List Deferred)(Q:Y6)(p:Nat)(o:Oper)(d:Yt)(E:En):=
 ∀{s:Act}{x:WD}{_:s.defers=df}{_:∀t T,zz I es o t=some T->T p (s.tmps.getD t undef) x}{K:K6}(_:Ph p x)
  (_:∀{t c},pg I D es o t=some c->s.tmps.getD t undef=c),(∀v x',Ph (p+1) x'->Rel p s x x'->(d=none->v=undef)->E.kp (p+1) v x'->K (s.put d v) x')->Oper.wp prog o s x K Q
def PJ(I:Vm)(D:Td)(es:Es)(Ph:Nat->X4)(Rel:Nat->WD->X4)(df:List Deferred)(Q:Y6)(p:Nat)(o:Oper)(d:Yt)(E:En):=
 ∀{s:Act}{x:WD}{_:s.defers=df}{_:∀t T,zz I es o t=some T->T p (s.tmps.getD t undef) x}{K:K6}(_:Ph p x)
  (_:∀{t c},pg I D es o t=some c->s.tmps.getD t undef=c),(∀v x',Ph (p+1) x'->Rel p x x'->(d=none->v=undef)->E.kp (p+1) v x'->K (s.put d v) x')->Oper.wp prog o s x K Q
def H6(B:WD->X4)(I:Vm)(D:Td)(es:Es)(P:Tl)(Ph:Nat->X4)(df:List Deferred)(Q:Y6)(i:Nat)(o:Oper)(d:Yt)(E:En):=
 ∀{k:Nat}{s:Act}{x:WD}{_:k<=P.length}{_:∀q c,P[q]?=some c->qU I 3 i c=true->q<k}{_:s.defers=df}{_:∀t T,zz I es o t=some T->T k (s.tmps.getD t undef) x}{K:K6}(_:∀(q c:Nat) (_:P[q]?=some c:=by rfl) (_:qU I 3 c i=true:=by kernel_rfl),k<=q)(_:Ph k x)
  (_:∀{t c},pg I D es o t=some c->s.tmps.getD t undef=c),(∀v x',B x x'->(d=none->v=undef)->NewB x v x'->E.kp k v x'->K (s.put d v) x')->Oper.wp prog o s x K Q
def G6(news:Tl)(I:Vm)(D:Td)(es:Es)(Ph:Nat->X4)(Rel:Nat->Act->WD->X4)(df:List Deferred)(Q:Y6)(p i:Nat)(o:Oper)(d:Yt)(E:En):=
 ∀(s:Act)(x:WD),Ph p x->s.defers=df->
  (∀t c,pg I D es o t=some c->s.tmps.getD t undef=c)->(∀t T,zz I es o t=some T->T p (s.tmps.getD t undef) x)->
  (∀j∈news,∀j'∈news,j≠j'->lL I i j=true->lL I i j'=true->∀(d d':Nat)(T T':En),es[j]?=some (some d,T)->es[j']?=some (some d',T')->s.tmps.getD d undef≠s.tmps.getD d' undef)->
  ∀K:K6,(∀v x',Ph (p+1) x'->Rel p s x x'->(d=none->v=undef)->E.kp (p+1) v x'->K (s.put d v) x')->Oper.wp prog o s x K Q
@[reducible] def AllOb{α:Type}(I:Vm)(es:List<|Yt×α)(B:Nat->Nat->Oper->Yt->α->Prop):Nat->Tl->Prop
 |_,[]=>True
 |p,i::l=>(match I[i]?,es[i]? with
  |some o,some e=>B p i o e.1 e.2
  |_,_=>True)/\AllOb I es B (p+1) l
def wm{α:Type}{I:Vm}{es:List<|Yt×α}{B:Nat->Nat->Oper->Yt->α->Prop}(h:∀o d E,I[i]?=some o->es[i]?=some (d,E)->B p i o d E):(match I[i]?,es[i]? with|some o,some e=>B p i o e.1 e.2|_,_=>True):=by
 split
 .exact h _ _ _ (by assumption) (by assumption)
 trivial
def AllOb.hd{α:Type}{I:Vm}{es:List<|Yt×α}{B:Nat->Nat->Oper->Yt->α->Prop}{l:Tl}(h:AllOb I es B p<|i::l):∀o d E,I[i]?=some o->es[i]?=some (d,E)->B p i o d E:=λo d E C D=>by have:=h.1;rw[C,D]at this;exact this
theorem AllOb.mono{α:Type}{I:Vm}{es:List<|Yt×α}{B D:Nat->Nat->Oper->Yt->α->Prop}(h:∀p i o d E,es[i]?=some (d,E)->B p i o d E->D p i o d E):∀{l:Tl}{p:Nat},AllOb I es B p l->AllOb I es D p l
 |[],_,_=>trivial
 |_::_,_,h1=>⟨wm λo d E G C=>h _ _ o d E C<|AllOb.hd h1 o d E G C,AllOb.mono h h1.2⟩
theorem AllOb.at{α:Type}{I:Vm}{es:List<|Yt×α}{B:Nat->Nat->Oper->Yt->α->Prop}:∀{l:Tl}{p q i:Nat},AllOb I es B p l->l[q]?=some i->∀o d E,I[i]?=some o->es[i]?=some (d,E)->B (p+q) i o d E
 |[],_,_,_,_,h=>by simp at h
 |j::l,p,0,i,h,hq=>by
  cases(K9:j=i)
  exact AllOb.hd h
 |j::l,p,q+1,i,h,hq=>by have:=AllOb.at h.2 (by simpa using hq);grind
def fX{α:Type}{I:Vm}{es:List<|Yt×α}{B:Nat->Nat->Oper->Yt->α->Prop}{l:Tl}(o:Oper)(d:Yt)(E:α)(D:I[i]?=some o)(he:es[i]?=some (d,E))(h:B p i o d E)(O:AllOb I es B (p+1) l):AllOb I es B p (i::l):=⟨wm λL H C J G=>K9,O⟩
def oz{α:Type}{I:Vm}{es:List<|Yt×α}{B:Nat->Nat->Oper->Yt->α->Prop}{l:Tl}{o:Oper}{d:Yt}{E:α}(C:I[i]?=some o)(he:es[i]?=some (d,E))(h:B p i o d E)(D:AllOb I es B (p+1) l):AllOb I es B p (i::l):=fX o d E C he h D
def Co(B:Nat->Kp->Prop):Es->Nat->Prop
 |[],_=>True
 |(_,.inl _)::r,i=>Co B r<|i+1
 |(_,.inr T)::r,i=>B i T/\Co B r (i+1)
theorem xh{B:Nat->Kp->Prop}:∀{es:Es}{k:Nat},Co B es k->∀(i:Nat)(d:Yt)(T:Kp),es[i]?=some (d,.l T)->B (k+i) T
 |[],_,_,i,_,_,h=>by simp at h
 |(d',.inl _)::r,k,hl,0,d,T,h=>by simp at h
 |(d',.inr Uq9)::r,k,hl,0,d,T,h=>by
  obtain⟨_,rfl⟩:d'=d/\Uq9=T:=K9
  exact hl.1
 |(d',.inl _)::r,k,hl,i+1,d,T,h=>by have:=xh (es:=r) hl i d T K9;grind
 |(d',.inr Uq9)::r,k,hl,i+1,d,T,h=>by have:=xh hl.2 i d T K9;grind
def Ej{es:Es}{B:Nat->Kp->Prop}(h:Co B es 0)(i:Nat)(d:Yt)(T:Kp)(he:es[i]?=some (d,.l T)):B i T:=by have:=xh h i d T he;grind
def eR{α:Type}{a b:α}{l m:List α}(h:a=b)(C:l=m):a::l=b::m:=K9
def mE{es:Es}(h:(es.all λp=>p.2.bF)=true){d:Yt}{T:Kp}(he:es[i]?=some (d,.l T)):False:=by have:=Xp.1 h _<|Xe he;cases this
def G5(I:Vm)(es:Es)(o:Oper):Bool:=match o.guard with
 |some (j,false)=>(o.after.toList.any λe=>Region.binds .any e&&e.on==j)&&(match I[j]? with
  |some og=>og.dst.isSome
  |none=>false)&&(match es[j]? with
  |some (_,.inl<|.bool true)=>true
  |_=>false)
 |_=>false
def Jd(I:Vm)(D:Td)(es:Es)(P skips:Tl):Bool:=ru I&&(es.length==I.size)&&decide (ei<|rF<|nU es).Nodup&&AN I (nU es) D&&((List.range<|P.length-1).all λq=>qU I 3 (P.getD (q+1) 0)<|P.getD q 0)&&decide P.Nodup&&(P.all λc=>decide (c<I.size))&&(es.map Prod.fst==I.toList.map (·.dst))&&((List.range I.size).all λi=>match skips.contains i,I[i]? with|true,some o=>G5 I es o|false,some o=>Hh I es o|_,none=>false)
def Gr(I:Vm)(a:Act)(D:Td)(es:Es)(P loads skips news:Tl):=Jd I D es P skips=true/\((ei<|rF<|nU es).all λd=>decide (d<a.tmps.size))=true/\(D.map λp=>a.tmps.getD p.1 undef)=D.map Prod.snd/\(λs x=>(List.range I.size).map λi=>bif (P++(loads++(skips++news))).contains i then none else match I[i]? with|some o=>some ((execOp (pG (pg I D es o) s) o).run prog x)|none=>none)=λ_ x=>(List.range I.size).map λi=>bif (P++(loads++(skips++news))).contains i then none else match es[i]? with|some (some _,.inl c)=>some (.ok (.value c) x)|_=>none
abbrev Tw(es:Es)(R:Nat->Yt->Kp->Prop):=∀(i:Nat)(d:Yt)(T:Kp),es[i]?=some (d,En.l T)->R i d T
def kx{c:VL}(D:∀v C,bW x C->(some d=none->v=undef)->(En.v c).kp k v C->K (Wb s d v) C):K (Wb s d c) x:=D _ x (dO _ _) nn1 W
def kq{c:VL}(D:∀v C,x=C->(some d=none->v=undef)->(En.v c).kp k v C->K (Wb s d v) C):K (Wb s d c) x:=D _ x W nn1 W
def nV:Nat->Tn->Es
 |_,[]=>[]
 |k,c::l=>(some k,.v c)::nV (k+1) l
def nl{es:Es}{R:Nat->Yt->Kp->Prop}(h:(es.all λp=>p.2.bF)=true):Tw es R:=λ_ _ _ C=>(mE h C).elim
def n8:(∀(g:Vp)(i:Nat),se g [] i=[])/\(∀(g:Vp)(i:Nat)(E:En)(r:Es),se g ((none,E)::r) i=se g r (i+1))/\(∀(g:Vp)(i d:Nat)(c:VL)(r:Es),se g ((some d,.v c)::r) i=(d,c)::se g r (i+1))/\(∀(g:Vp)(i d:Nat)(T:Kp)(r:Es),se g ((some d,.l T)::r) i=(d,g i)::se g r (i+1))/\(∀(a:Act)(p:Nat×VL)(t:Td),dQ a (p::t)=dQ {a with tmps:=a.tmps.setIfInBounds p.1 p.2} t)/\(∀a:Act,dQ a []=a)/\(∀k:Nat,nV k []=[])/\(∀(k:Nat)(c:VL)(l:Tn),nV k (c::l)=(some k,.v c)::nV (k+1) l)/\(∀(p:Yt×En)(l m:Es),(p::l)++m=p::(l++m))/\(∀m:Es,[]++m=m):=⟨λ_ _=>W,λ_ _ _ _=>W,λ_ _ _ _ _=>W,λ_ _ _ _ _=>W,λ_ _ _=>W,λ_=>W,λ_=>W,λ_ _ _=>W,λ_ _ _=>W,λ_=>W⟩
section
variable {id:Nat}{a:Act}
def nM(news:Tl)(B:WD->X4)(hBr:∀x,B x x)(F:Nat->X4)(a0:Nat->Act->WD->X4)(D:Td)(es:Es)(P loads C:Tl)(b9:∀i∈C,∃d,es[i]?=some (d,En.v undef))(d5:∀i∈C,i∉P)(n:∀i∈news,i∉P/\i∉C/\i<I.size)(hmo:news≠[]->(∀x H,B x H->x.heap.size<=H.heap.size)/\∀p s x H,a0 p s x H->x.heap.size<=H.heap.size)(h0:F 0 w.drew)(a5:∀k x H,F k x->B x H->F k H)(a2:AllOb I es (λp i=>G6 news I D es F a0 a.defers Q p i) 0 P)(u:AllOb I es (λ_=>Hs B I D es P F a.defers Q) 0 loads)(a8:AllOb I es (λ_=>H6 B I D es P F a.defers Q) 0 news)(hs1:Tw es λi d T=>∀p s x H,P[p]? ≠some i->p<P.length->F p x->a0 p s x H->T p (iY s d) x->T (p+1) (iY s d) H)(hs2:Tw es λ_ _ T=>∀p v x H,F p x->B x H->T p v x->T p v H)(b0:∀(g:Vp) x,F P.length x->(Tw es λi _ T=>T P.length (g i) x)->(∀j∈news,∀j'∈news,j≠j'->g j≠g j')->Q .normal (dQ a<|se g es 0) x)(ha:Gr I a D es P loads C news:=by exact⟨N0,R5,R5,N0⟩):(Code.region id I true).wp prog Q a w:=by
 let⟨r,hsz,c0,b1⟩:=ha;simp only[Jd,Xo]at r;let⟨⟨⟨⟨⟨⟨⟨⟨e1,e2⟩,e3⟩,e4⟩,e5⟩,e6⟩,e7⟩,e8⟩,e9⟩:=r;have U:∀(i:Nat)(o:Oper)(d:Option _)(E:En),I[i]?=some o->es[i]?=some (d,E)->o.dst=d:=λi o d E L J=>by have h:=Xl (λl:List _=>l[i]?) (show es.map Prod.fst=I.toList.map (·.dst) by simpa using e8);grind
 have a9:∀p∈D,a.tmps.getD p.1 undef=p.2:=λp hp=>by obtain⟨i,r,rfl⟩:=XU hp;have h:=Xl (λl:List _=>l[i]?) c0;grind
 have b6:∀{t:Nat}{c:VL},D.lookup t=some c->(t,c)∈D:=λ{t c} h=>by grind[List.lookup_eq_some_iff]
 have a6:∀(k:Nat)(o:Oper)(s:Act)(x:WD),(∀p∈D,s.tmps.getD p.1 _=p.2)->(∀e∈o.after,Region.binds _ e=true->∀(d':Option _)(T':Kp),(nU es)[e.on]?=some _->T' k (iY s d') x)->(∀t c,pg _ _ es o t=some c->s.tmps.getD t _=c)/\(∀t T,zz _ es o t=some T->T k _ x):=λk o s x hb G=>by
  have N:∀(j t:Nat)(E:En)(d:Option _),LR _ t o.after.toList=some j->es[j]?=some (d,E)->E.kp k (s.tmps.getD t _) x:=λj t E d y z=>by
   obtain⟨e,J,r,rfl,hd⟩:=yz y;have R:=G e (by simpa using J) r d _<|ue z;unfold CM at hd;cases L:I[e.on]? with
   |none=>rw[L]at hd;cases hd
   |some o'=>
    rw[L]at hd;have A:o'.dst=some t:=by simpa using hd
    rw[U _ _ _ _ L z]at A;rwa[A]at R
  constructor
  .intro t c h;unfold pg at h;cases hl:D.lookup t with
   |some c'=>rw[hl]at h;obtain rfl:=hV h;exact hb _<|b6 hl
   |none=>
    rw[hl]at h;cases X:LR I t o.after.toList with
    |none=>rw[X]at h;cases h
    |some j=>
     rw[X]at h;dsimp only at h;split at h
     .obtain rfl:=hV h;exact N j t _ _ X<|by assumption
     cases h
  intro t T h;unfold zz at h;cases X:LR I t o.after.toList with
  |none=>rw[X]at h;cases h
  |some j=>
   rw[X]at h;dsimp only at h;split at h
   .obtain rfl:=hV h;exact N j t _ _ X<|by assumption
   cases h
 have S:∀(k i:Nat)(o:Oper)(s:Act)(x:WD),I[i]?=some o->(∀e∈o.after,Region.binds _ e=true->∀(d':Option _)(T':Kp),(nU es)[e.on]?=some _->T' k (iY s d') x)->i∉C->Region.wanted o (yielded _ _)=true:=λk i o s x L G b7=>by
  have Y:=Xp.1 e9 i<|XS.2 (WY.1 L).1;rw[show(C.contains i)=false by simpa using b7,L]at Y;replace Y:Hh _ es o=true:=Y;unfold Hh at Y;cases m:o.guard with
  |none=>exact dr m
  |some jb=>
   let⟨j,b⟩:=jb;rw[m]at Y;simp only[Xo]at Y;let⟨⟨g1,g2⟩,g3⟩:=Y;let⟨e,J,Z⟩:=List.any_eq_true.1 g1;rw[Xo]at Z;cases r:I[j]? with
   |none=>rw[r]at g2;cases g2
   |some og=>
    rw[r]at g2;let⟨dd,OZ⟩:=Option.isSome_iff_exists.1 g2;split at g3
    .rename_i q d c hq;have hc:c=b:=by simpa using g3
     subst hc;have R:=G e (by simpa using J) Z.1 _ _ (by rw[(show e.on=j by simpa using Z.2)];exact ue hq);have A:=U _ _ _ _ r hq;rw[OZ]at A;rw[<-A]at R;cases c with
     |true=>exact Kw m r OZ R
     |false=>exact GH m r OZ R
    cases g3
 have d3:∀(k i:Nat)(o:Oper)(s:Act)(x:WD),I[i]?=some o->(∀e∈o.after,Region.binds _ e=true->∀(d':Option _)(T':Kp),(nU es)[e.on]?=some _->T' k (iY s d') x)->i∈C->Region.wanted o _=false:=λk i o s x L G b7=>by
  have Y:=Xp.1 e9 i<|XS.2 (WY.1 L).1;rw[show(C.contains i)=true by simpa using b7,L]at Y;replace Y:G5 _ es o=true:=Y;unfold G5 at Y;split at Y
  .rename_i j m;simp only[Xo]at Y;let⟨⟨g1,g2⟩,g3⟩:=Y;let⟨e,J,Z⟩:=List.any_eq_true.1 g1;rw[Xo]at Z;cases r:I[j]? with
   |none=>rw[r]at g2;cases g2
   |some og=>
    rw[r]at g2;let⟨dd,OZ⟩:=Option.isSome_iff_exists.1 g2;split at g3
    .rename_i q d hq;have R:=G e (by simpa using J) Z.1 _ _ (by rw[(show e.on=j by simpa using Z.2)];exact ue hq);have A:=U _ _ _ _ r hq;rw[OZ]at A;rw[<-A]at R;exact MQ m r OZ R
    cases g3
  cases Y
 refine Bh news B N0 e1 F a0 hmo (λi h=>(n i h).1) (by unfold nU;simpa using (show es.length=I.size by simpa using e2)) e3 hsz h0 a9 e4 e5 e6 e7 ?_ ?_ ?_ ?_ ?_
 .intro j d T X p s x H y z R A h5;obtain⟨E,J,rfl⟩:=wG X;cases E with
  |inl c=>exact h5
  |inr T=>exact hs1 j d T J p s x H y z R A h5
 .intro j d T X p v x H y z R;obtain⟨E,J,rfl⟩:=wG X;cases E with
  |inl c=>exact R
  |inr T=>exact hs2 j d T J p v x H y z R
 .intro i o d T L ht hic k s x hk c8 d1 O a1 hb G;obtain⟨E,J,rfl⟩:=wG ht;let⟨v1,v2⟩:=a6 k o s x hb G;by_cases V:i∈C
  .obtain⟨d9,b8⟩:=b9 i V;rw[J]at b8;obtain⟨-,rfl⟩:=Xi<|hV b8;exact A4 ⟨d3 k i o s x L G V,U _ _ _ _ L J,W,λh=>(n i h).2.1 V⟩
  refine LZ ⟨S k i o s x L G V,λK r=>?_⟩;by_cases a4:i∈news
  .obtain⟨q,hq⟩:=XM a4;have h:=@AllOb.at _ _ _ _ _ _ _ _ a8 hq o d E L J;exact @h k s x hk c8 a1 v2 K d1 O (v1 _ _) λv H y z R A=>r v H (a5 k x H O y) y z (λ_=>R) A
  by_cases d4:i∈loads
  .obtain⟨q,hq⟩:=XM d4;have h:=@AllOb.at _ _ _ _ _ _ _ _ u hq o d E L J;exact @h k s x hk c8 a1 v2 K d1 O (v1 _ _) λv H y z R=>r v H (a5 k x H O y) y z (λh=>absurd h a4) R
  have h:=Xl (λl:List _=>l[i]?)<|congrFun (congrFun b1 s) x;simp only[Xu,ZG<|(WY.1 L).1,Yi,(show(P++(loads++(C++news))).contains i=false by simp[hic,d4,V,a4]),cond_false,L,J]at h;have u:pG (pg I D es o) s=s.eval:=by
   funext q;cases q with
   |tmp t=>
    show(pg I D es o t).getD _=_;cases hv:pg I D es o t with
    |none=>rfl
    |some c=>exact(v1 t c hv).symm
   |const v=>rfl
   |global g=>rfl
   |func f=>rfl
  cases E with
  |inr T=>cases d<;>simp at h
  |inl c=>
   cases d with
   |none=>simp at h
   |some d=>
   unfold Oper.wp;rw[(show(execOp s.eval o).run prog x=.ok (.value c) x by rw[<-u];exact hV<|hV h),Oper.upon_value,U _ _ _ _ L J];exact r c x O (hBr x) (λhd=>by cases hd) (λh=>absurd h a4) W
 .intro p i o d T hp L ht s x O a1 hb G u;obtain⟨E,J,rfl⟩:=wG ht;let⟨v1,v2⟩:=a6 p o s x hb G;refine⟨S p i o s x L G (λhm=>by let⟨d9,b8⟩:=b9 i hm;exact d5 i hm<|Xe hp),λK r=>?_⟩;have:=a2.at hp o d E L J;rw[XF]at this;exact this s x O a1 v1 v2 (λj X j' a3 h y z d d' T T' ht ht'=>u j X j' a3 h y z _ _ _ _ (ue ht)<|ue ht') K r
 intro vs x O hl r u;have hl2:vs.length=es.length:=by rw[hl];simp[nU]
 have h:=b0 _ x O (λi d T J=>r i d _<|ue J)<|λj X j' a3 h=>u j X j' a3 h (n j X).2.2 (n j' a3).2.2;rw[<-OM vs es 0 wq (λj d c J=>by rw[XF];exact r j d _<|ue J)]at h;simpa using h
def jB(B:WD->X4)(m:∀x,B x x)(H:Nat->X4)(R:Nat->Act->WD->X4)(D:Td)(es:Es)(P loads C:Tl)(X:∀i∈C,∃d,es[i]?=some (d,En.v undef))(V:∀i∈C,i∉P)(y:H 0 w.drew)(U:∀k x L,H k x->B x L->H k L)(J:AllOb I es (λp _=>VO I D es H R a.defers Q p) 0 P)(G:AllOb I es (λ_=>Hs B I D es P H a.defers Q) 0 loads)(f:Tw es λi d T=>∀p s x L,P[p]? ≠some i->p<P.length->H p x->R p s x L->T p (iY s d) x->T (p+1) (iY s d) L)(j:Tw es λ_ _ T=>∀p v x L,H p x->B x L->T p v x->T p v L)(O:∀(g:Vp) x,H P.length x->(Tw es λi _ T=>T P.length (g i) x)->Q .normal (dQ a<|se g es 0) x)(ha:Gr I a D es P loads C []:=by exact⟨N0,R5,R5,N0⟩):(Code.region id I true).wp prog Q a w:=by exact nM [] B m H R D es P loads C X V (λ_ h=>by cases h) (λh=>absurd W h) y U (AllOb.mono (λp i o d E _ h s x Z Y S z _ K A=>@h s x Y z K Z (S _ _) A) J) G True.intro f j (λg x Z Y _=>O g x Z Y) ha
def dy(G:Nat->X4)(L:Nat->WD->X4)(D:Td)(es:Es)(P loads:Tl)(V:G 0 w.drew)(O:∀k x C,G k x->bW x C->G k C)(H:AllOb I es (λp _=>PJ I D es G L a.defers Q p) 0 P)(E:AllOb I es (λ_=>Hs (λx C=>bW x C) I D es P G a.defers Q) 0 loads)(R:Tw es λi _ T=>∀p v x C,P[p]? ≠some i->p<P.length->G p x->L p x C->T p v x->T (p+1) v C)(U:Tw es λ_ _ T=>∀p v x C,G p x->bW x C->T p v x->T p v C)(J:∀(g:Vp) x,G P.length x->(Tw es λi _ T=>T P.length (g i) x)->Q .normal (dQ a<|se g es 0) x)(ha:Gr I a D es P loads [] []:=by exact⟨N0,R5,R5,N0⟩):(Code.region id I true).wp prog Q a w:=jB _ (λx=>dO _ x) G (λp _ x C=>L p x C) D es P loads [] K2 K2 V O H E (λi d T h p s=>R i d T h p _) U J ha
def nZ(J:Nat->X4)(H:Nat->WD->X4)(D:Td)(es:Es)(P loads:Tl)(R:J 0 w.drew)(E:AllOb I es (λp _=>PJ I D es J H a.defers Q p) 0 P)(C:AllOb I es (λ_=>Hs Eq I D es P J a.defers Q) 0 loads)(O:Tw es λi _ T=>∀p v x L,P[p]? ≠some i->p<P.length->J p x->H p x L->T p v x->T (p+1) v L)(G:∀(g:Vp) x,J P.length x->(Tw es λi _ T=>T P.length (g i) x)->Q .normal (dQ a<|se g es 0) x)(ha:Gr I a D es P loads [] []:=by exact⟨N0,R5,R5,N0⟩):(Code.region id I true).wp prog Q a w:=jB Eq (λ_=>W) J (λp _ x L=>H p x L) D es P loads [] K2 K2 R (λk x L h e=>e▸h) E C (λi d T h p s=>O i d T h p _) (λ_ _ _ _ p v x L _ e h=>e▸h) G ha
end
def hJ{α:Type _}(e:α):∃x,x=e:=⟨_,W⟩
def dP{α:Type _}(e:α):∃x,Hd (x=e):=⟨_,W⟩
def nI:VL->Nat
 |.int _ n=>n.toNat
 |_=>0
def dT(p:Prop)[Decidable p](h:p:=by omega):decide p=true:=OsQ h
def dF(p:Prop)[Decidable p](h:¬p:=by omega):decide p=false:=W8 h
def dN(a b:Nat)(h:a<b:=by omega):decide ((a:Int)<(b:Int))=true:=OsQ wq
def dG(a b:Nat)(h:¬a<b:=by omega):decide ((a:Int)<(b:Int))=false:=W8 wq
def cX(n i:Nat):Int:=((n/2^(64*i)%18446744073709551616:Nat):Int)
abbrev lu(n k:Nat):Value:=.int .u64<|cX n k
abbrev lW(n:Nat):Array Value:=#[lu n 0,lu n 1,lu n 2,lu n 3]
abbrev wv(n:Nat):VL:=.agg #[.int .u64<|cX n 0,.int .u64<|cX n 1,.int .u64<|cX n 2,.int .u64<|cX n 3]
def qP(n i:Nat):0<=cX n i:=Int.natCast_nonneg _
def ud(n i:Nat):cX n i<18446744073709551616:=by grind[cX]
def cy(a b k:Nat):Nat:=(a%2^(64*k)+b%2^(64*k))/2^(64*k)
theorem Je:2^(64*0)=1:=rfl
theorem LP:2^(64*1)=18446744073709551616:=rfl
theorem Li:2^(64*2)=340282366920938463463374607431768211456:=rfl
theorem Ij:2^(64*3)=6277101735386680763835789423207666416102355444464034512896:=rfl
def pw4:2^(64*4)=115792089237316195423570985008687907853269984665640564039457584007913129639936:=rfl
def cy_le(a b k:Nat):cy a b k<=1:=by
 unfold cy;have D:a%2^(64*k)<2^(64*k):=Xs _<|Yq _;have C:b%2^(64*k)<2^(64*k):=Xs _<|Yq _;have:(a%2^(64*k)+b%2^(64*k))/2^(64*k)<2:=by rw[Nat.div_lt_iff_lt_mul<|Yq _];omega
 omega
theorem k4(h:k<4):k=0\/k=1\/k=2\/k=3:=wq
def Ma(a b k:Nat)(C:k<4):(cX a k+cX b k+cy a b k)%18446744073709551616=cX (a+b) k:=by unfold cX cy;rcases k4 C with rfl|rfl|rfl|rfl<;>simp only[Je,LP,Li,Ij]<;>omega
def add_cy(a b k:Nat)(C:k<4):(cX a k+cX b k+cy a b k)/18446744073709551616=cy a b (k+1):=by unfold cX cy;rcases k4 C with rfl|rfl|rfl|rfl<;>simp only[Je,LP,Li,Ij,pw4,XF,Nat.reduceAdd]<;>omega
abbrev M:Nat:=115792089237316195423570985008687907853269984665640564039457584007913129639936
def bw(a b k:Nat):Nat:=if a%2^(64*k)<b%2^(64*k)then 1 else 0
def tW(a b:Nat):Nat:=a+M-b%M
def Wh(a b k:Nat):bw a b k<=1:=by grind[bw]
def PH(a b k:Nat)(C:k<4):(cX a k+18446744073709551616-cX b k-bw a b k)%18446744073709551616=cX (tW a b) k:=by unfold cX bw tW M;rcases k4 C with rfl|rfl|rfl|rfl<;>simp only[Je,LP,Li,Ij]<;>split<;>omega
def FH(a b k:Nat)(C:k<4):(if cX a k<cX b k+bw a b k then(1:Int)else 0)=bw a b (k+1):=by unfold cX bw;rcases k4 C with rfl|rfl|rfl|rfl<;>simp only[Je,LP,Li,Ij,pw4,XF,Nat.reduceAdd]<;>split<;>split<;>split<;>omega
def Ba:(18446744073709551616:Nat)=2^64:=rfl
def Og(a b k:Nat):((a/2^(64*k)%18446744073709551616) &&& (b/2^(64*k)%18446744073709551616))=(a &&& b)/2^(64*k)%18446744073709551616:=by apply XY;intro i;rw[Ba];simp only[Nat.testBit_and,XQ,XZ];cases decide (i<64)<;>simp
def UF(a b k:Nat):((a/2^(64*k)%18446744073709551616) ||| (b/2^(64*k)%18446744073709551616))=(a ||| b)/2^(64*k)%18446744073709551616:=by apply XY;intro i;rw[Ba];simp only[ZM,XQ,XZ];cases decide (i<64)<;>simp
def NY(a b k:Nat):((a/2^(64*k)%18446744073709551616) ^^^ (b/2^(64*k)%18446744073709551616))=(a ^^^ b)/2^(64*k)%18446744073709551616:=by apply XY;intro i;rw[Ba];simp only[Nat.testBit_xor,XQ,XZ];cases decide (i<64)<;>simp
def zk(a:Nat):Nat:=M-1-a%M
def QH(a k:Nat)(C:k<4):18446744073709551615-cX a k=cX (zk a) k:=by unfold cX zk M;rcases k4 C with rfl|rfl|rfl|rfl<;>simp only[Je,LP,Li,Ij]<;>omega
def neg(a:Nat):Bool:=decide (57896044618658097711785492504343953926634992332820282019728792003956564819968<=a%M)
def Nn(a:Nat):(cX a 3/9223372036854775808==1)=neg a:=by unfold cX neg M;grind
def eW(n i:Nat):Nat:=n/2^(64*i)%18446744073709551616
theorem fL(n i:Nat):cX n i=(eW n i:Int):=rfl
def kM(n i:Nat):eW n i<18446744073709551616:=Xs _ wq
def B(f:Vq):Vq
 |0=>0
 |n+1=>B f n+f n*2^(64*n)
def aX(f:Vq)(p v:Nat):Vq:=λi=>if i=p then v else f i
theorem pwS:2^(64*(n+1))=2^(64*n)*18446744073709551616:=K9
theorem pwA(n m:Nat):2^(64*(n+m))=2^(64*n)*2^(64*m):=K9
def val_lt{f:Vq}(h:∀i,f i<18446744073709551616)(n:Nat):B f n<2^(64*n):=by
 induction n with
 |zero=>simp[B]
 |succ n C=>simp only[B];rw[pwS];have D:f n*2^(64*n)<=18446744073709551615*2^(64*n):=Yx K9<|DO _;omega
theorem Ml{f:Vq}(h:∀i,f i<18446744073709551616)(n i:Nat)(hi:i<n):eW (B f n) i=f i:=by
 induction n with
 |zero=>omega
 |succ n C=>
  simp only[B];by_cases e:i=n
  .subst e;unfold eW;have D:=val_lt h i;grind[B,Nat.add_mul_div_right,Yq,Yc,WZ]
  rw[<-C (wq:i<n)];unfold eW;obtain⟨d,rfl⟩:∃d,n=(i+1)+d:=⟨n-(i+1),wq⟩
  grind[pwA,pwS,YC,ZC,Nat.mul_right_comm,Nat.add_mul_div_right,Yq,Nat.add_mul_mod_self_right]
def AZ(f:Vq)(p v n:Nat)(h:n<=p):B (aX f p v) n=B f n:=by
 induction n with
 |zero=>rfl
 |succ n C=>grind[B,aX]
def IG(f:Vq)(p v n:Nat)(h:p<n):B (aX f p v) n+f p*2^(64*p)=B f n+v*2^(64*p):=by
 induction n with
 |zero=>omega
 |succ n C=>
  simp only[B];by_cases e:p=n
  .subst e;rw[AZ f p v p<|DO _];grind[aX]
  grind[aX]
def Fb(b n:Nat):B (eW b) n=b%2^(64*n):=by
 induction n with
 |zero=>grind[B]
 |succ n C=>simp only[B];rw[C,pwS,Nat.mod_mul,YC<|2^(64*n)];rfl
theorem tU(b n:Nat):b%2^(64*(n+1))=b%2^(64*n)+eW b n*2^(64*n):=by rw[<-Fb,<-Fb];rfl
def O6(n:Nat):B (λ_=>0) n=0:=by
 induction n with
 |zero=>rfl
 |succ n C=>grind[B]
def QC{f:Vq}(h:∀i,f i<18446744073709551616){v:Nat}(C:v<18446744073709551616):∀i,aX f p v i<18446744073709551616:=by grind[aX]
def GY{g:Vq}{S x y:Nat}(C:i+j<8)(E:y=eW b j)(h:B g 8+c*2^(64*(i+j))=S+x*(b%2^(64*j))*2^(64*i)):B (aX g (i+j)<|(x*y+g (i+j)+c)%18446744073709551616) 8+(x*y+g (i+j)+c)/18446744073709551616*2^(64*(i+(j+1)))=S+x*(b%2^(64*(j+1)))*2^(64*i):=by
 have H:=IG g _ ((x*y+g (i+j)+c)%18446744073709551616) 8 C;rw[tU b j,<-E,(wq:i+(j+1)=(i+j)+1),pwS];have D:x*(b%2^(64*j)+y*2^(64*j))*2^(64*i)=x*(b%2^(64*j))*2^(64*i)+x*y*2^(64*(i+j)):=K9
 rw[D,<-ZB,<-h];generalize 2^(64*(i+j))=P at*;have I:(x*y+g (i+j)+c)/18446744073709551616*(P*18446744073709551616)+(x*y+g (i+j)+c)%18446744073709551616*P=(x*y+g (i+j)+c)*P:=by rw[YC P,<-ZC,<-YO];congr 1;omega
 have G:(x*y+g (i+j)+c)*P=x*y*P+g (i+j)*P+c*P:=K9
 omega
abbrev kj(n:Nat):VL:=.agg #[.int .u64<|cX n 0,.int .u64<|cX n 1,.int .u64<|cX n 2,.int .u64<|cX n 3,.int .u64<|cX n 4,.int .u64<|cX n 5,.int .u64<|cX n 6,.int .u64<|cX n 7]
def k8(h:k<8):k=0\/k=1\/k=2\/k=3\/k=4\/k=5\/k=6\/k=7:=wq
def FP{g:Vq}{x:Nat}(hi:i<4)(D:x=eW a i)(hz:g (i+4)=0)(h:B g 8+c*2^(64*(i+4))=a%2^(64*i)*(b%2^(64*4))+x*(b%2^(64*4))*2^(64*i)):B (aX g (i+4) c) 8=a%2^(64*(i+1))*(b%2^(64*4)):=by have C:=IG g (i+4) c 8 wq;rw[hz,YB,Ye,h]at C;grind[tU,YO,Nat.mul_right_comm]
def lQ(a b:Nat):Nat:=a%M*(b%M)
def Pd(a b:Nat):a%2^(64*4)*(b%2^(64*4))=lQ a b:=rfl
def Bi{f:Vq}(h:∀i,f i<18446744073709551616)(hn:B f 8=n)(i:Nat)(hi:i<8):((f i:Nat):Int)=cX n i:=by grind[fL,Ml]
def FZ{x y s:Nat}(E:x<18446744073709551616)(D:y<18446744073709551616)(C:m<18446744073709551616)(G:s<18446744073709551616):(x*y+m+s)/18446744073709551616<18446744073709551616:=by have h:x*y<=18446744073709551615*18446744073709551615:=Yx wq wq;omega
section
variable {v:VL}
def dz(f:Nat->Int):Vp:=λi=>.int .u64<|f i
theorem de{n:Nat}{t:Vr}(f:Nat->Int){x0 x1 x2 x3:Int}(hn:n=w.heap.size)(E:x0=f 0)(D:x1=f 1)(C:x2=f 2)(G:x3=f 3):(w.alloc<|.cells #[iU x0,iU x1,iU x2,iU x3] t).rowIs n t 4 (dz f):=by subst hn;refine World.rowIs_alloc w _ t _ λi H=>?_;subst E D C G;rcases k4 H with rfl|rfl|rfl|rfl<;>rfl
def lG{b:Nat}{t:Vr}{n:Nat}{f g:Nat->Int}(h:w.rowIs b t n<|dz λi=>if i<k then f i else g i){x:Int}(C:x=f k):(w.setCell ⟨b,k,none⟩<|iU x).rowIs b t n (dz λi=>if i<k+1 then f i else g i):=by subst C;refine(h.set k _).congr λi _=>?_;grind[dz]
def cW{b:Nat}{t:Vr}{f:Nat->Int}(h:w.rowIs b t 4<|dz f):cL w b 0 (iU<|f 0)/\cL w b 1 (iU<|f 1)/\cL w b 2 (iU<|f 2)/\cL w b 3 (iU<|f 3):=⟨h.cell wq,h.cell wq,h.cell wq,h.cell wq⟩
def cY{b:Nat}{t:Vr}{n:Nat}(h:w.rowIs b t n f)(C:bW w w'):w'.rowIs b t n f:=h.of_block<|C.block b h.lt
def di{b:Nat}{t:Vr}{g:Vp}(h:w.rowIs b t 4 g)(f:Nat->Int){x0 x1 x2 x3:Int}(E:x0=f 0:=by rfl)(D:x1=f 1:=by rfl)(C:x2=f 2:=by rfl)(G:x3=f 3:=by rfl):(sC (sC (sC (sC w b 0<|iU x0) b 1<|iU x1) b 2<|iU x2) b 3<|iU x3).rowIs b t 4 (dz f):=by subst E D C G;refine((((h.set 0 _).set 1 _).set 2 _).set 3 _).congr λi H=>?_;rcases k4 H with rfl|rfl|rfl|rfl<;>rfl
theorem bd(h:bW w w')(C:w.heap.size<=c):bW w (sC (sC (sC (sC w' c 0 v0) c 1 v1) c 2 v2) c 3 v3):=(((h.setCell C _).setCell C _).setCell C _).setCell C _
def lF{n:Nat}{t:Vr}(f:Nat->Int){x0 x1 x2 x3 C E G D:Int}(hn:n=w.heap.size)(I:x0=f 0)(L:x1=f 1)(H:x2=f 2)(Q:x3=f 3)(J:C=f 4)(P:E=f 5)(U:G=f 6)(O:D=f 7):(w.alloc<|.cells #[iU x0,iU x1,iU x2,iU x3,iU C,iU E,iU G,iU D] t).rowIs n t 8 (dz f):=by subst hn;refine World.rowIs_alloc w _ t _ λi V=>?_;subst I L H Q J P U O;rcases k8 V with rfl|rfl|rfl|rfl|rfl|rfl|rfl|rfl<;>rfl
def iE{b:Nat}{t:Vr}{f:Nat->Int}(h:w.rowIs b t 8<|dz f):cL w b 0 (iU<|f 0)/\cL w b 1 (iU<|f 1)/\cL w b 2 (iU<|f 2)/\cL w b 3 (iU<|f 3)/\cL w b 4 (iU<|f 4)/\cL w b 5 (iU<|f 5)/\cL w b 6 (iU<|f 6)/\cL w b 7 (iU<|f 7):=⟨h.cell wq,h.cell wq,h.cell wq,h.cell wq,h.cell wq,h.cell wq,h.cell wq,h.cell wq⟩
def Wr(x0 x1 x2 x3 x4 x5 x6 x7:Int):Nat->Int:=λi=>if i=0 then x0 else if i=1 then x1 else if i=2 then x2 else if i=3 then x3 else if i=4 then x4 else if i=5 then x5 else if i=6 then x6 else x7
def DG{b:Nat}{t:Vr}(h:w.rowIs b t 8 f)(x0 x1 x2 x3 C G D E:Int):(sC (sC (sC (sC (sC (sC (sC (sC w b 0<|iU x0) b 1<|iU x1) b 2<|iU x2) b 3<|iU x3) b 4<|iU C) b 5<|iU G) b 6<|iU D) b 7<|iU E).rowIs b t 8 (dz<|Wr x0 x1 x2 x3 C G D E):=by refine((((((((h.set 0 _).set 1 _).set 2 _).set 3 _).set 4 _).set 5 _).set 6 _).set 7 _).congr λi H=>?_;rcases k8 H with rfl|rfl|rfl|rfl|rfl|rfl|rfl|rfl<;>rfl
def EM(f:Vq):Nat->Int:=λi=>(f i:Int)
def JQ{b:Nat}{t:Vr}{n:Nat}{f:Vq}(h:w.rowIs b t n<|dz<|EM f){v:Nat}:(w.setCell ⟨b,p,none⟩<|iU (v:Int)).rowIs b t n (dz<|EM<|aX f p v):=by refine(h.set p _).congr λi _=>?_;grind[dz,EM,aX]
theorem ai(h:bW w w')(o:Obj):bW w (w'.alloc o):=h.alloc h.size o
def eB{C:WD}(h:bW w C)(D:bW C w'):bW w w':=h.trans<|D.mono h.size
def kr(h:bW w w'){p:Addr}(C:w.heap.size<=p.block){u:VL}:bW w (w'.setCell p u):=h.setCell C u
def rc{b n:Nat}{t:Vr}(h:x.rowIs b t n f)(i:Nat)(hi:i<n:=by decide):x.cell? ⟨b,i,none⟩=some (f i):=h.cell hi
def Fa{b:Nat}{t:Vr}{f:Nat->Int}(h:w.rowIs b t 4<|dz f):(cL w b 0 (iU<|f 0)/\cL w b 1 (iU<|f 1)/\cL w b 2 (iU<|f 2)/\cL w b 3 (iU<|f 3))/\∀o,w.frozen? ⟨b,o,none⟩=false:=⟨cW h,h.frozen⟩
def qN{b T:Nat}{f:Nat->Int}(s:Nat)(D:x.rowIs b T 4<|dz f)(E:bW w x)(C:w.heap.size<=b:=by omega):(cL x b 0 (iU<|f 0)/\cL x b 1 (iU<|f 1)/\cL x b 2 (iU<|f 2)/\cL x b 3 (iU<|f 3))/\(∀o,x.frozen? ⟨b,o,none⟩=false)/\∀y,y=sC (sC (sC (sC x b 0<|lu s 0) b 1<|lu s 1) b 2<|lu s 2) b 3 (lu s 3)->y.rowIs b T 4 (dz<|cX s)/\bW w y:=⟨cW D,D.frozen,λy e=>by subst e;exact⟨di D<|cX s,bd E C⟩⟩
section
variable {R:Ending->X4}{a:Act}
def gY(I:y.rowIs b 24 4<|dz<|cX n)(E:R (.returned<|wv n) y)(h:fn.results=#[.cell t 24]:=by rfl)(C:a.tmps.getD t undef=pt b:=by rfl)(H:a.defers=[]:=by rfl):bodyPost prog fn R .ret a y:=by let⟨D,J,L,G⟩:=cW I;rw[Xh]at C;exact sp (by simp[results,h,C,go_sem,D,J,L,G]) H E
def nr(J:y.rowIs b 24 4<|dz<|cX n)(G:R (.returned<|.tuple #[wv n,v]) y)(h:fn.results=#[.cell t 24,.tmp u]:=by rfl)(D:a.tmps.getD t undef=pt b:=by rfl)(C:a.tmps.getD u undef=v:=by rfl)(I:a.defers=[]:=by rfl):bodyPost prog fn R .ret a y:=by let⟨E,L,O,H⟩:=cW J;rw[Xh]at D C;exact sp (by simp[results,h,D,C,go_sem,E,L,O,H]) I G
end
def A0(x:WD)(b o:Nat):Nat->Tn->Prop
 |_,[]=>True
 |n,u::l=>x.cell? ⟨b,o+n,none⟩=some u/\A0 x b o (n+1) l
def A3(x:WD)(b o:Nat):Tn->Prop
 |[]=>True
 |u::l=>x.cell? ⟨b,o,none⟩=some u/\A0 x b o 1 l
theorem cs_t{x:WD}{b o:Nat}:∀{l:Tn}{n:Nat},(∀j u,l[j]?=some u->x.cell? ⟨b,o+(n+j),none⟩=some u)->A0 x b o n l
 |[],_,_=>trivial
 |u::l,n,h=>⟨h 0 u W,cs_t λj v C=>by rw[ZB n,Nat.add_comm 1];exact h (j+1) v C⟩
def AE{b:Nat}{l:Tn}(h:∀j u,j<z->l[j]?=some u->cL x b (o+j) u)(D:l.length<=z:=by exact DO _):A3 x b o l:=by
 cases l with
 |nil=>trivial
 |cons u l=>exact⟨h 0 u (Xg (Nat.zero_lt_succ _) D) W,cs_t λj v C=>by rw[Nat.add_comm 1];exact h (j+1) v (Xg (Nat.succ_lt_succ (Do.1 C).1) D) C⟩
def Ce{b:Nat}{l:Tn}(h:∀j,j<z->cL x b (o+j) (l[j]!))(E:l.length<=z:=by exact DO _):A3 x b o l:=AE (λj u C D=>(h j C).trans (by rw[List.getElem!_eq_getElem?_getD,D];rfl)) E
def zf(a b k:Nat):bits .and .u64 (cX a k) (cX b k)=cX (a &&& b) k:=by unfold cX;rw[bits_and_u64_nat _ _ (Xs _ wq)<|Xs _ wq,Og a b k]
def tz(a b k:Nat):bits .or .u64 (cX a k) (cX b k)=cX (a ||| b) k:=by unfold cX;rw[Zv _ _ (Xs _ wq)<|Xs _ wq,UF a b k]
def zo(a b k:Nat):bits .xor .u64 (cX a k) (cX b k)=cX (a ^^^ b) k:=by unfold cX;rw[bits_xor_u64_nat _ _ (Xs _ wq)<|Xs _ wq,NY a b k]
def iO{f:Nat}(a b:Nat)(Q:f=111/\(∀k,bits .and .u64 (cX a k) (cX b k)=cX c k)\/f=112/\(∀k,bits .or .u64 (cX a k) (cX b k)=cX c k)\/f=113/\(∀k,bits .xor .u64 (cX a k) (cX b k)=cX c k))(w:WD):cP f #[wv a,wv b] w (rT (wv c) w):=by
 rcases Q with⟨rfl,Q⟩|⟨rfl,Q⟩|⟨rfl,Q⟩;all_goals
  have J:Hd _:=Q;clear Q;first
  |go_enter func111,ntmps111
  |go_enter func112,ntmps112
  |go_enter func113,ntmps113
  go_wp2;go_loopw[6] (λI wr=>∃k:Nat,k<=4/\I=iI k/\
    wr.rowIs w.heap.size 24 4 (dz λi=>if i<k then cX c i else cX a i)/\wr.rowIs (w.heap.size+1) 24 4 (dz<|cX b)/\wr.rowIs (w.heap.size+1+1) 24 4 (dz λ_=>0)/\
    bW w wr)
    (λI _=>4-nI I)
  case atStart=>
   refine⟨0,wq,W,?_,?_,?_,?_⟩
   .exact(((de _ W W W W W).alloc _).alloc _)
   .exact((de _ K2 W W W W).alloc _)
   .exact(de _ K2 W W W W)
   exact(((dO _ _).alloc (DO _) _).alloc K2 _).alloc N3 _
  obtain⟨k,Q,rfl,C,H,G,D⟩:=hrel;by_cases E:k<4
  .have c1:=C.cell E;have c2:=H.cell E;have c4:=C.frozen k;simp only[dz,Yg,Zw]at c1 c2;go_wp2;go_region;all_goals go_wp2
   all_goals go_roundw
   case rel=>exact⟨_,wq,N1,(lG C<|J k).drew,(H.setOther K2 _).drew,(G.setOther K9 _).drew,(D.setCell K2 _).drew⟩
   grind[nI]
  cases(wq:k=4)
  let⟨Q,c1,c2,c3⟩:=cW C;obtain⟨⟨Q,P,O,z3⟩,L,Q⟩:=qN c G D;go_wp2;refine gY (Q _ W).1 ⟨W,(Q _ W).2⟩
def BV{x:Nat}(h:x<18446744073709551616):18446744073709551615 ^^^ x=18446744073709551615-x:=by
 apply XY;intro i;rw[(wq:18446744073709551615-x=2^64-(x+1)),Nat.testBit_two_pow_sub_succ wq,Nat.testBit_xor,show 18446744073709551615=2^64-1 from W,Nat.testBit_two_pow_sub_one];by_cases C:i<64
 .simp[C]
 have:x.testBit i=false:=Nat.testBit_lt_two_pow (Xg h (by rw[Ba];exact Yh wq wq));grind
def xM(a k:Nat)(C:k<4):Op.unary .xor (iU<|cX a k)=pure (iU<|cX (zk a) k):=by rw[unary_xor,(show(if IntKind.u64.signed then -1 else IntKind.u64.max)=(((18446744073709551615:Nat))) by rfl),intBits_xor,<-QH a k C];unfold cX;rw[bits_xor_u64_nat _ _ wq<|Xs _ wq,BV<|Xs _ wq];grind
def TZ(a:Nat)(w:WD):cP 114 #[wv a] w (rT (wv<|zk a) w):=by
 go_enter func114,ntmps114;go_wp2;go_loopw[4] (λH wr=>∃k:Nat,k<=4/\H=iI k/\
   wr.rowIs w.heap.size 24 4 (dz λi=>if i<k then cX (zk a) i else cX a i)/\wr.rowIs (w.heap.size+1) 24 4 (dz λ_=>0)/\
   bW w wr)
   (λH _=>4-nI H)
 case atStart=>
  refine⟨0,wq,W,?_,?_,?_⟩
  .exact((de _ W W W W W).alloc _)
  .exact(de _ K2 W W W W)
  exact((dO _ _).alloc (DO _) _).alloc K2 _
 obtain⟨k,P,rfl,C,G,D⟩:=hrel;by_cases E:k<4
 .have c1:=C.cell E;have c4:=C.frozen k;have I:=xM a k E;simp only[dz,Yg,Zw]at c1;go_wp2;all_goals go_roundw
  case rel=>exact⟨_,wq,N1,lG C W,G.setOther K2 _,D.setCell K2 _⟩
  grind[nI]
 cases(wq:k=4)
 let⟨P,c1,c2,c3⟩:=cW C;obtain⟨⟨P,O,L,z3⟩,J,P⟩:=qN (zk a) G D;go_wp2;refine gY (P _ W).1 ⟨W,(P _ W).2⟩
def Af{E C D a3:Int}(w:WD):cP 165 #[.agg #[iU E,iU C,iU D,iU a3]] w (rT (.agg #[iU E,iU C,iU D,iU a3,iU 0,iU 0,iU 0,iU 0]) w):=by go_enter func165,ntmps165;go_wp2;refine sp (by simp[results,results165,go_sem]) W ⟨W,?_⟩;exact((dO _ _).alloc (DO _) _).alloc K2 _
def TW{H C D a3 a4 a5 G E:Int}(w:WD):cP 162 #[.agg #[iU H,iU C,iU D,iU a3,iU a4,iU a5,iU G,iU E]] w (rT (.agg #[iU H,iU C,iU D,iU a3]) w):=by go_enter func162,ntmps162;go_wp2;refine sp (by simp[results,results162,go_sem]) W ⟨W,?_⟩;exact((dO _ _).alloc (DO _) _).alloc K2 _
def ol(a:Nat)(w:WD):cP 167 #[wv a] w (rT (.bool<|neg a) w):=by go_enter func167,ntmps167;go_wp2;go_ret;exact⟨by rw[Nn];rfl,(dO _ _).alloc (DO _) _⟩
theorem yg{x y c:Int}(G:0<=x)(D:0<=y)(C:0<=c)(E:c<=1)(w:WD):(callFunc 208 #[iU x,iU y,iU c]).run prog w=.ok (.value<|.tuple #[iU<|(x+y+c)%18446744073709551616,iU<|(x+y+c)/18446744073709551616]) w:=by rw[run_callFunc_extern func208 N0 N0 N0 N0,run_add64 x y c G D C E];rfl
def GR(a b k:Nat)(C:k<4)(w:WD):(callFunc 208 #[lu a k,lu b k,iU<|cy a b k]).run prog w=.ok (.value<|.tuple #[lu (a+b) k,iU (cy a b (k+1):Int)]) w:=by have h:=cy_le a b k;rw[yg (qP _ _) (qP _ _) wq wq,Ma a b k C,add_cy a b k C]
def Hm(x y:Nat)(C:b<=1)(w:WD):(callFunc 210 #[iU x,iU y,iU b]).run prog w=.ok (.value<|.tuple #[iU (((x+18446744073709551616-y-b)%18446744073709551616:Nat):Int),iU ((if x<y+b then 1 else 0:Nat):Int)]) w:=by rw[run_callFunc_extern func210 N0 N0 N0 N0,run_sub64 x y b C];rfl
def Gy(a b k:Nat)(D:k<4)(w:WD):(callFunc 210 #[iU<|cX a k,iU<|cX b k,iU<|bw a b k]).run prog w=.ok (.value<|.tuple #[iU<|cX (tW a b) k,iU (bw a b (k+1):Int)]) w:=by have h:=Wh a b k;have e:=PH a b k D;have C:=FH a b k D;unfold cX at e C⊢;have c:=Hm (a/2^(64*k)%18446744073709551616) (b/2^(64*k)%18446744073709551616) h w;grind
def uv{s f:Nat}{c:Vq}(L:c 0=0)(P:Hd (∀k w,k<4->(callFunc g #[lu a k,lu b k,iU<|c k]).run prog w=.ok (.value<|.tuple #[lu s k,iU (c (k+1):Int)]) w))(V:f=160/\g=208\/f=163/\g=210)(w:WD):cP f #[wv a,wv b] w (rT (.tuple #[wv s,iU (c 4:Int)]) w):=by
 rcases V with⟨rfl,rfl⟩|⟨rfl,rfl⟩;case' inl=>go_enter func160,ntmps160
 case' inr=>go_enter func163,ntmps163
 all_goals
  go_wp2;go_loopw[7,9] (λO t9 wr=>∃k:Nat,k<=4/\t9=iI k/\O=iU (c k:Int)/\
    wr.rowIs w.heap.size 24 4 (dz<|cX a)/\wr.rowIs (w.heap.size+1) 24 4 (dz<|cX b)/\wr.rowIs (w.heap.size+1+1) 24 4 (dz λ_=>0)/\
    wr.rowIs (w.heap.size+1+1+1) 24 4 (dz λi=>if i<k then cX s i else 0)/\bW w wr)
    (λ_ t9 _=>4-nI t9)
  case atStart=>
   refine⟨0,wq,W,by rw[L];rfl,?_,?_,?_,?_,?_⟩
   .exact((((de _ W W W W W).alloc _).alloc _).alloc _)
   .exact(((de _ K2 W W W W).alloc _).alloc _)
   .exact(((de (λ_=>0) K2 W W W W)).alloc _)
   .exact(de _ K2 W W W W)
   exact((((dO _ _).alloc (DO _) _).alloc K2 _).alloc N3 _).alloc N3 _
  obtain⟨k,V,rfl,rfl,H,J,I,D,E⟩:=hrel;by_cases C:k<4
  .have c1:=H.cell C;have c2:=J.cell C;have c3:=D.cell C;have c4:=D.frozen k;have G:=λw=>P.aa k w C;simp only[dz]at c1 c2 c3;go_wp2
   go_region_with (simp only[G])
   all_goals go_wp2
   all_goals go_roundw
   case rel|rel=>exact⟨_,wq,N1,W,(H.setOther K9 _).drew,(J.setOther K2 _).drew,(I.setOther K2 _).drew,(lG D W).drew,(E.setCell K9 _).drew⟩
   case measure|measure=>grind[nI]
  cases(wq:k=4)
  let⟨V,c1,c2,c3⟩:=cW D;obtain⟨⟨V,U,R,z3⟩,Q,V⟩:=qN s I E;go_wp2;refine nr (V _ W).1 ⟨W,(V _ W).2⟩
def Cq(a b:Nat)(w:WD):cP 160 #[wv a,wv b] w (rT (.tuple #[wv<|a+b,iU (cy a b 4:Int)]) w):=uv (c:=cy a b) (by simp[cy,Nat.mod_one]) (λk w h=>GR a b k h w) (LZ ⟨W,W⟩) w
def rC(a b:Nat)(w:WD):cP 163 #[wv a,wv b] w (rT (.tuple #[wv<|tW a b,iU (bw a b 4:Int)]) w):=uv (c:=bw a b) (by grind[bw]) (λk w h=>Gy a b k h w) (A4 ⟨W,W⟩) w
def Nd(a:Nat)(ha:a<18446744073709551616):bits .and .u64 (a:Int) 4294967295=((a%4294967296:Nat):Int):=by have h:=bits_and_u64_nat a 4294967295 ha wq;have e:a &&& 4294967295=a%4294967296:=Nat.and_two_pow_sub_one_eq_mod a 32;grind
def divN(a:Nat):(a:Int)/4294967296=((a/4294967296:Nat):Int):=wq
def mulN(a b:Nat):(a:Int)*(b:Int)=((a*b:Nat):Int):=(Int.natCast_mul a b).symm
def addN(a b:Nat):(a:Int)+(b:Int)=((a+b:Nat):Int):=(Int.natCast_add a b).symm
def vI(ha:a<18446744073709551616):IntKind.u64.wrap (a:Int)=(a:Int):=by grind[IntKind.wrap_u64]
def wrapM:IntKind.u64.wrap (a:Int)=((a%18446744073709551616:Nat):Int):=R5
def JX(x y:Nat)(G:x<18446744073709551616)(D:y<18446744073709551616)(w:WD):cP 229 #[iU x,iU y] w λe I=>e=.returned (.tuple #[iU ((x*y/18446744073709551616:Nat):Int),iU ((x*y%18446744073709551616:Nat):Int)])/\I=w:=by let⟨H,E,bw,C⟩:=Lib.mul64_hi x y G D;have L:=Lib.half_mul_le (a:=x/4294967296) (b:=y/4294967296) wq wq;have J:=Lib.half_mul_le (a:=x/4294967296) (b:=y%4294967296) wq wq;have O:=Lib.half_mul_le (a:=x%4294967296) (b:=y/4294967296) wq wq;go_enter func229,ntmps229;go_wp2;simp only[Nd x G,Nd y D,divN,mulN,addN,vI H,vI (wq:x/4294967296*(y%4294967296)<18446744073709551616),vI E,Nd _ E,vI (wq:x%4294967296*(y/4294967296)<18446744073709551616),vI bw,vI (wq:x/4294967296*(y/4294967296)<18446744073709551616),vI (wq:x/4294967296*(y/4294967296)+(x/4294967296*(y%4294967296)+x%4294967296*(y%4294967296)/4294967296)/4294967296<18446744073709551616),vI (wq:x/4294967296*(y/4294967296)+(x/4294967296*(y%4294967296)+x%4294967296*(y%4294967296)/4294967296)/4294967296+((x/4294967296*(y%4294967296)+x%4294967296*(y%4294967296)/4294967296)%4294967296+x%4294967296*(y/4294967296))/4294967296<18446744073709551616),wrapM];rw[C];go_ret2;simp
def NI(x y:Nat)(E:x<18446744073709551616)(D:y<18446744073709551616):cP 229 #[iU x,iU y] w λe C=>∃G H:Nat,Hd (G*18446744073709551616+H=x*y)/\H<18446744073709551616/\G<=18446744073709551614/\e=.returned (.tuple #[iU G,iU H])/\C=w:=by refine(JX x y E D w).mono ?_;rintro e C⟨rfl,rfl⟩;have h:x*y<=18446744073709551615*18446744073709551615:=Yx wq wq;generalize x*y=p at*;exact⟨_,_,by show _=_;omega,Xs _ wq,wq,W,W⟩
def De(x y:Nat):∃s c:Nat,Hd (s+c*18446744073709551616=x+y)/\s<18446744073709551616/\(x<18446744073709551616->y<18446744073709551616->c<=1)/\∀w:WD,(callFunc 208 #[iU x,iU y,iU 0]).run prog w=.ok (.value<|.tuple #[iU s,iU c]) w:=by refine⟨(x+y)%18446744073709551616,(x+y)/18446744073709551616,by show _=_;omega,Xs _ wq,λ_ _=>wq,λw=>?_⟩;grind[yg]
def GJ{x y s hi lo C c1 s2 c2:Nat}(G:hi*18446744073709551616+lo=x*y)(D:C+c1*18446744073709551616=lo+m)(H:s2+c2*18446744073709551616=C+s)(E:s2<18446744073709551616):hi+c1+c2=(x*y+m+s)/18446744073709551616/\s2=(x*y+m+s)%18446744073709551616:=wq
def KD{x y s hi lo C c1 s2 c2:Nat}(J:x<18446744073709551616)(E:y<18446744073709551616)(D:m<18446744073709551616)(L:s<18446744073709551616)(H:hi*18446744073709551616+lo=x*y)(G:C+c1*18446744073709551616=lo+m)(I:s2+c2*18446744073709551616=C+s):hi+c1+c2<=18446744073709551615:=by have h:x*y<=18446744073709551615*18446744073709551615:=Yx wq wq;omega
def FG(x y m s:Nat)(I:x<18446744073709551616)(G:y<18446744073709551616)(Q:m<18446744073709551616)(b:s<18446744073709551616)(w:WD):cP 209 #[iU x,iU y,iU m,iU s] w λe C=>e=.returned (.tuple #[iU (((x*y+m+s)/18446744073709551616:Nat):Int),iU (((x*y+m+s)%18446744073709551616:Nat):Int)])/\C=w:=by
 go_enter func209,ntmps209;go_wp2_with fail
 refine(NI x y I G).mono ?_;rintro e C⟨c,c,E,X,Y,rfl,rfl⟩;let⟨O,c1,D,U,V,d⟩:=De c m;let⟨s2,c2,H,J,Z,c⟩:=De O s;have R:=KD I G Q b E.aa D.aa H.aa;go_wp2;go_ret2;let⟨L,P⟩:=GJ E.aa D.aa H.aa J;refine⟨?_,W⟩;rw[<-L,<-P];rfl
def Kf{x y:Nat}(s:Nat)(E:x<18446744073709551616)(D:y<18446744073709551616)(C:m<18446744073709551616)(G:s<18446744073709551616):cP 209 #[iU x,iU y,iU m,iU s] w λe w'=>∃h l:Nat,Hd (h=(x*y+m+s)/18446744073709551616)/\Hd (l=(x*y+m+s)%18446744073709551616)/\h<18446744073709551616/\l<18446744073709551616/\e=.returned (.tuple #[iU h,iU l])/\w=w':=by refine(FG x y m s E D C G w).mono ?_;rintro e w'⟨rfl,rfl⟩;exact⟨_,_,W,W,FZ E D C G,Xs _ wq,W,W⟩
def OD(a k:Nat)(C:k<4)(w:WD):(Instr.index 24 (.agg<|lW a)<|iI (k:Int)).run prog w=.ok (iU (eW a k:Int)) w:=by rcases k4 C with rfl|rfl|rfl|rfl<;>kernel_rfl
def C8(a b:Nat)(w:WD):cP 161 #[wv a,wv b] w (rT (kj<|lQ a b) w):=by
 go_enter func161,ntmps161;go_wp2;go_loopw[12] (λL wr=>∃(i:Nat)(f:Vq),i<=4/\L=iI i/\
   wr.rowIs (w.heap.size+1) 24 4 (dz<|cX b)/\wr.rowIs (w.heap.size+1+1) 224 8 (dz λ_=>0)/\wr.rowIs (w.heap.size+1+1+1) 224 8 (dz<|EM f)/\
   (∀q,f q<18446744073709551616)/\(∀q,i+4<=q->f q=0)/\Hd (B f 8=a%2^(64*i)*(b%2^(64*4)))/\bW w wr)
   (λL _=>4-nI L)
 case atStart=>
  refine⟨0,_,wq,W,?_,?_,?_,λ_=>K2,λ_ _=>W,?_,?_⟩
  .exact(((de _ K2 W W W W).alloc _).alloc _)
  .exact(lF (λ_=>0) K2 W W W W W W W W).alloc _
  .exact(lF _ K2 W W W W W W W W)
  .show _=_;rw[Nat.mul_zero,Z7,Nat.mod_one,YB,O6]
  exact((((dO _ _).alloc (DO _) _).alloc K2 _).alloc N3 _).alloc N3 _
 obtain⟨i,f,v,rfl,G,E,C,P,X,H,D⟩:=hrel;by_cases O:i<4
 .have S:=OD a i O;have T:decide ((i:Int)<4)=true:=K9
  let⟨x,c1,c2,c3⟩:=cW G;go_wp2;go_loopw[8,17] (λu J r=>∃(j:Nat)(g:Vq)(c:Nat),j<=4/\J=iI j/\u=iU c/\c<18446744073709551616/\
    r.rowIs (w.heap.size+1) 24 4 (dz<|cX b)/\r.rowIs (w.heap.size+1+1) 224 8 (dz λ_=>0)/\r.rowIs (w.heap.size+1+1+1) 224 8 (dz<|EM g)/\
    (∀q,g q<18446744073709551616)/\(∀q,i+4<=q->g q=0)/\Hd (B g 8+c*2^(64*(i+j))=a%2^(64*i)*(b%2^(64*4))+eW a i*(b%2^(64*j))*2^(64*i))/\bW w r)
    (λ_ J _=>4-nI J)
  case atStart=>refine⟨0,f,0,wq,W,W,wq,G,E,C,P,X,?_,D⟩;show _=_;rw[H.aa];simp[Nat.mod_one]
  obtain⟨j,g,c,n,rfl,rfl,Z,G,E,C,I,U,Q,D⟩:=hrel;by_cases V:j<4
  .have F:=OD b j V;have u:=C.cell (i:=i+j) wq;have r:=C.frozen<|i+j;simp only[dz,EM]at u;go_wp2_with fail
   refine(Kf c (kM _ _) (kM _ _) (I _) Z).mono ?_;rintro e w'⟨h,l,N,hl,K,bl,rfl,rfl⟩;go_wp2;go_roundw;case rel=>
    refine⟨j+1,_,h,wq,?_,W,K,G.setOther K2 _,E.setOther K2 _,JQ C,QC I bl,?_,?_,D.setCell N3 _⟩
    .go_num
    .intro q hq;unfold aX;rw[AQ];simp_all
    show _=_;rw[N.aa,hl.aa];exact GY wq W Q.aa
   simp[nI];omega
  cases(wq:j=4)
  have u:=C.cell (i:=i+4) wq;have r:=C.frozen<|i+4;simp only[dz,EM]at u;go_wp2;go_roundw;case rel=>
   refine⟨i+1,_,wq,N1,G.setOther K2 _,E.setOther K2 _,JQ C,QC I Z,?_,?_,D.setCell N3 _⟩
   .intro q hq;unfold aX;rw[AQ];exact U q wq
   show _=_;exact FP O W (U _ wq) Q.aa
  simp[nI];omega
 cases(wq:i=4)
 have y:=H.aa;rw[Pd]at y;have R:wr.rowIs _ _ 8 (dz _):=C.congr λi v=>by simp only[dz,EM];rw[Bi P y i v]
 let⟨x,c1,c2,c3,c4,c5,c6,c7⟩:=iE R;obtain⟨u,t,u,z3,z4,z5,u,k⟩:=iE E;have s:=E.frozen;go_wp2;let⟨z,u,r,Y,A,p,o,d⟩:=iE<|DG E (cX (lQ a b) 0) (cX (lQ a b) 1) (cX (lQ a b) 2) (cX (lQ a b) 3) (cX (lQ a b) 4) (cX (lQ a b) 5) (cX (lQ a b) 6)<|cX (lQ a b) 7;simp only[Wr]at z u r Y A p o d;refine sp (by simp[results,results161,go_sem,z,u,r,Y,A,p,o,d]) W ⟨W,?_⟩;exact(((((((D.setCell N3 _).setCell N3 _).setCell N3 _).setCell N3 _).setCell N3 _).setCell N3 _).setCell N3 _).setCell N3 _
def iX(a b:Nat):Bool:=decide (a%M<b%M)
def FF(a b:Nat):((bw a b 4:Int)==1)=iX a b:=by unfold bw iX M;grind
def D1(a b:Nat):Nat:=if a%M<256 then b*2^(a%M)else 0
theorem dK(i:Nat):cX 0 i=0:=by unfold cX;simp
def xQ(b:Nat)(H:b<18446744073709551616):Value.agg #[iU (b:Int),iU 0,iU 0,iU 0]=wv b:=by
 have C:cX b 0=b:=by grind[cX]
 have D:cX b 1=0:=by grind[cX]
 have G:cX b 2=0:=by grind[cX]
 have E:cX b 3=0:=by grind[cX]
 grind
def Np(h:iX a 256=false)(b:Nat):D1 a b=0:=by unfold iX at h;unfold D1;grind
def VH(h:iX a 256=true)(b:Nat):∃s:Nat,s<256/\cX a 0=(s:Int)/\D1 a b=b*2^s:=by
 unfold iX at h;have C:=Xd h;refine⟨_,wq,?_,?_⟩
 .unfold cX M at*;omega
 simp_all[D1,M]
theorem jS(n k j:Nat):(eW n k).testBit j=(decide (j<64)&&n.testBit (j+64*k)):=by unfold eW;rw[Ba,XQ,XZ]
theorem xN(b s i:Nat):(b*2^s).testBit i=(decide (s<=i)&&b.testBit (i-s)):=K9
theorem xp(x i:Nat):(x%18446744073709551616).testBit i=(decide (i<64)&&x.testBit i):=by rw[Ba,XQ]
def shl_lo(b s k:Nat)(h:k<s/64):cX (b*2^s) k=0:=by
 rw[fL];have:eW (b*2^s) k=0:=by apply XY;grind[jS,xN]
 omega
theorem shl_eq(b s k:Nat)(D:s/64<=k)(C:¬s/64<k):eW b (k-s/64)*2^(s%64)%18446744073709551616=eW (b*2^s) k:=by apply XY;grind[xp,xN,jS]
def shl_hi(b s k:Nat)(D:s/64<k):(eW b (k-s/64)*2^(s%64)%18446744073709551616) ||| (eW b (k-s/64-1)/2^(64-s%64))=eW (b*2^s) k:=by
 apply XY;intro j;rw[ZM,xp,xN,jS,XZ,jS,jS,xN];by_cases C:j<64
 .by_cases hr:s%64<=j
  .simp[C,hr,(wq:s<=j+64*k),(wq:j-s%64<64),(wq:j-s%64+64*(k-s/64)=j+64*k-s),show¬j+(64-s%64)<64 by omega]
  simp[C,hr,(wq:s<=j+64*k),(wq:j+(64-s%64)<64),(wq:j+(64-s%64)+64*(k-s/64-1)=j+64*k-s)]
 grind
def OO(b s k:Nat)(D:s/64<=k):(eW b k/2^(s%64)) ||| (eW b (k+1)*2^(64-s%64)%18446744073709551616)=eW (b/2^s) (k-s/64):=by
 apply XY;intro j;rw[ZM,xp,xN,jS,XZ,jS,jS,XZ];by_cases C:j<64
 .by_cases hr:j+s%64<64
  .simp[C,hr,show¬64-s%64<=j by omega,(wq:j+s%64+64*k=j+64*(k-s/64)+s)]
  simp[C,hr,(wq:64-s%64<=j),(wq:j-(64-s%64)<64),(wq:j-(64-s%64)+64*(k+1)=j+64*(k-s/64)+s)]
 grind
theorem RB(b s:Nat)(C:b<M)(h:s/64<=3):eW b 3/2^(s%64)=eW (b/2^s) (3-s/64):=by
 have e:=OO b s 3 h;have z:eW b (3+1)=0:=by unfold eW M at*;omega
 simp_all
def TF(b s k:Nat)(C:b<M)(D:3-s/64<k):cX (b/2^s) k=0:=by
 rw[fL];have:eW (b/2^s) k=0:=by
  apply XY;intro j;rw[jS,XZ,Nat.zero_testBit];have h:b.testBit (j+64*k+s)=false:=by apply Nat.testBit_lt_two_pow;refine Xg C ?_;show 2^256<=_;exact Yh wq wq
  grind
 omega
theorem tL(x e:Nat):IntKind.u64.wrap ((x:Int)*2^e)=((x*2^e%18446744073709551616:Nat):Int):=R5
theorem Fn(x e:Nat):(x:Int)/2^e=((x/2^e:Nat):Int):=R5
def UT(b s k:Nat)(D:s/64<=k)(C:¬s/64<k):IntKind.u64.wrap (cX b (k-s/64)*2^(s%64))=cX (b*2^s) k:=by grind[fL,tL,shl_eq]
def Rc(b s k:Nat)(C:s/64<k):bits .or .u64 (IntKind.u64.wrap<|cX b (k-s/64)*2^(s%64)) (cX b (k-s/64-1)/2^(64-s%64))=cX (b*2^s) k:=by rw[fL,fL,fL,tL,Fn,Zv _ _ (Xs _ wq)<|YD (YW _ _)<|kM _ _,shl_hi b s k C]
def UI(b s k:Nat)(C:s/64<=k):bits .or .u64 (cX b k/2^(s%64)) (IntKind.u64.wrap<|cX b (k+1)*2^(64-s%64))=cX (b/2^s) (k-s/64):=by rw[fL,fL,fL,tL,Fn,Zv _ _ (YD (YW _ _)<|kM _ _)<|Xs _ wq,OO b s k C]
def Pj(b s k:Nat)(D:b<M)(C:s/64<=k)(D:k=3):cX b k/2^(s%64)=cX (b/2^s) (k-s/64):=by grind[fL,Fn,RB]
def Qu(a b:Nat):Nat:=if a%M<256 then b/2^(a%M)else 0
def PV(h:iX a 256=false)(b:Nat):Qu a b=0:=by unfold iX at h;unfold Qu;grind
def Uc(h:iX a 256=true)(b:Nat):∃s:Nat,s<256/\cX a 0=(s:Int)/\Qu a b=b/2^s:=by
 unfold iX at h;have C:=Xd h;refine⟨_,wq,?_,?_⟩
 .unfold cX M at*;omega
 simp_all[Qu,M]
variable {B:Nat}
def DY(a b:Nat)(w:WD):cP 109 #[wv a,wv b] w (rT (.bool<|iX a b) w):=by
 go_enter func109,ntmps109;go_wp2_with fail
 refine(rC a b _).mono ?_;rintro e C⟨rfl,C⟩;go_wp2;go_ret;exact⟨by rw[<-FF];rfl,ai (eB (ai (ai (dO _ _) _) _) C) _⟩
def oe(a b:Nat)(C:b<18446744073709551616)(w:WD):cP 171 #[wv a,iU (b:Int)] w (rT (.bool<|iX a b) w):=by
 go_enter func171,ntmps171;go_wp2_with fail
 rw[xQ b C];refine(DY a b _).mono ?_;rintro e D⟨rfl,C⟩;go_wp2;go_ret;exact⟨W,eB (ai (dO _ _) _) C⟩
def kg{t:Vr}(h:w.rowIs b t n f):(w.drewN k).rowIs b t n f:=h
def A2{a:WD}(h:Below B a w)(k:Nat):Below B a (w.drewN k):=⟨h.os,h.tape,h.output,h.size,h.block⟩
def Aj{t:Vr}{f g:Nat->Int}(h:w.rowIs b t n<|dz λi=>if i<k then f i else g i){u:VL}{x:Int}(C:x=f k):((w.setCell ⟨b,k,none⟩ u).setCell ⟨b,k,none⟩<|iU x).rowIs b t n (dz λi=>if i<k+1 then f i else g i):=by subst C;refine((h.set k u).set k _).congr λi _=>?_;grind[dz]
def T7(a b:Nat)(w:WD):cP 116 #[wv a,wv b] w (rT (wv<|D1 a b) w):=by
 cases l:iX a 256
 .rw[Np l b];have U:Hd _:=l;clear l;go_enter func116,ntmps116;go_wp2_with fail
  refine(oe a 256 wq _).mono ?_;rintro e o⟨rfl,c⟩;rw[U.aa];have D:=cY (de (n:=w.heap.size+1+1+1) (λ_=>0) K2 W W W W) c;have E:=cY (de (n:=w.heap.size+1+1) (λ_=>0) K2 W W W W |>.alloc _) c;have C:=eB (ai (ai (ai (ai (dO _ _) _) _) _) _) c;obtain⟨m,m,m,r3⟩:=cW D;let⟨⟨p,j,g,z3⟩,d,m⟩:=qN 0 E C;go_wp2;exact gY (m _ W).1 ⟨W,(m _ W).2⟩
 let⟨s,q,H,J⟩:=VH l b;rw[J];have U:Hd _:=l;have Y:Hd _:=H;clear J l H;go_enter func116,ntmps116;go_wp2_with fail
 refine(oe a 256 wq _).mono ?_;rintro e o⟨rfl,c⟩;rw[U.aa];have Q:=cY (de _ W W W W W |>.alloc _ |>.alloc _ |>.alloc _) c;have G:=cY (de (n:=w.heap.size+1) _ K2 W W W W |>.alloc _ |>.alloc _) c;have D:=cY (de (n:=w.heap.size+1+1+1) (λ_=>0) K2 W W W W) c;have E:=cY (de (n:=w.heap.size+1+1) (λ_=>0) K2 W W W W |>.alloc _) c;have C:=eB (ai (ai (ai (ai (dO _ _) _) _) _) _) c;have X:=Q.cell (i:=0) wq;simp only[dz]at X;rw[Y.aa]at X;go_wp2;go_quiet (fail);go_wp2;go_loopw[8] (λV wr=>∃k:Nat,s/64<=k/\k<=4/\V=iI k/\wr.rowIs (w.heap.size+1) 24 4 (dz<|cX b)/\wr.rowIs (w.heap.size+1+1) 24 4 (dz λ_=>0)/\
  wr.rowIs (w.heap.size+1+1+1) 24 4 (dz λi=>if i<k then cX (b*2^s) i else 0)/\bW w wr)
  (λV _=>4-nI V)
 case atStart=>
  refine⟨s/64,wq,wq,N1,kg G,kg E,kg<|D.congr λi c=>?_,A2 C _⟩;simp only[dz];by_cases c:i<s/64
  .rw[At c,shl_lo b s i c]
  grind
 obtain⟨k,O,Z,rfl,G,E,D,C⟩:=hrel;by_cases L:k<4
 .have cb:=G.cell (i:=k-s/64) wq;have h:=D.cell wq;have c:=D.frozen k;simp only[dz,Yg,Zw]at cb h;by_cases I:s/64<k
  .have R:=G.cell (i:=k-s/64-1) wq;simp only[dz]at R;have P:=(D.set k<|iU<|IntKind.u64.wrap<|cX b (k-s/64)*2^(s%64)).cell L;simp at P;go_wp2;go_region;go_wp2;go_roundw;case rel=>refine⟨k+1,wq,wq,N1,((G.setOther K2 _).setOther K2 _).drew,((E.setOther K2 _).setOther K2 _).drew,?_,((C.setCell K9 _).setCell K9 _).drew⟩;exact(Aj D<|Rc b s k I).drew
   grind[nI]
  go_wp2;go_roundw;case rel=>refine⟨k+1,wq,wq,N1,G.setOther K2 _,E.setOther K2 _,?_,C.setCell K9 _⟩;exact lG D<|UT b s k O I
  grind[nI]
 cases(wq:k=4)
 let⟨c,c1,c2,c3⟩:=cW D;let⟨⟨p,j,g,z3⟩,d,m⟩:=qN (b*2^s) E C;go_wp2;refine gY (m _ W).1 ⟨W,(m _ W).2⟩
def Uv(a:Nat)(P:b<M)(w:WD):cP 117 #[wv a,wv b] w (rT (wv<|Qu a b) w):=by
 cases l:iX a 256
 .rw[PV l b];have R:Hd _:=l;clear l;go_enter func117,ntmps117;go_wp2_with fail
  refine(oe a 256 wq _).mono ?_;rintro e u⟨rfl,c⟩;rw[R.aa];have C:=cY (de (n:=w.heap.size+1+1+1) (λ_=>0) K2 W W W W) c;have E:=cY (de (n:=w.heap.size+1+1) (λ_=>0) K2 W W W W |>.alloc _) c;have D:=eB (ai (ai (ai (ai (dO _ _) _) _) _) _) c;obtain⟨q,q,q,r3⟩:=cW C;let⟨⟨y,p,m,z3⟩,h,q⟩:=qN 0 E D;go_wp2;exact gY (q _ W).1 ⟨W,(q _ W).2⟩
 let⟨s,z,I,J⟩:=Uc l b;rw[J];have R:Hd _:=l;have V:Hd _:=P;have Z:Hd _:=I;clear J l I;go_enter func117,ntmps117;go_wp2_with fail
 refine(oe a 256 wq _).mono ?_;rintro e u⟨rfl,c⟩;rw[R.aa];have O:=cY (de _ W W W W W |>.alloc _ |>.alloc _ |>.alloc _) c;have G:=cY (de (n:=w.heap.size+1) _ K2 W W W W |>.alloc _ |>.alloc _) c;have C:=cY (de (n:=w.heap.size+1+1+1) (λ_=>0) K2 W W W W) c;have E:=cY (de (n:=w.heap.size+1+1) (λ_=>0) K2 W W W W |>.alloc _) c;have D:=eB (ai (ai (ai (ai (dO _ _) _) _) _) _) c;have X:=O.cell (i:=0) wq;simp only[dz]at X;rw[Z.aa]at X;go_wp2;go_quiet (fail);go_wp2;go_loopw[8] (λU wr=>∃k:Nat,s/64<=k/\k<=4/\U=iI k/\wr.rowIs (w.heap.size+1) 24 4 (dz<|cX b)/\wr.rowIs (w.heap.size+1+1) 24 4 (dz λ_=>0)/\
  wr.rowIs (w.heap.size+1+1+1) 24 4 (dz λi=>if i<k-s/64 then cX (b/2^s) i else 0)/\bW w wr)
  (λU _=>4-nI U)
 case atStart=>refine⟨s/64,wq,wq,N1,kg G,kg E,kg<|C.congr λi c=>?_,A2 D _⟩;simp
 obtain⟨k,H,d,rfl,G,E,C,D⟩:=hrel;by_cases Y:k<4
 .have cb:=G.cell wq;have o:=C.cell (i:=k-s/64) wq;have l:=C.frozen<|k-s/64;simp only[dz,Yg,Zw]at cb o;by_cases j:k+1<4
  .have Q:=G.cell wq;simp only[dz]at Q;have L:=(C.set (k-s/64)<|iU<|cX b k/2^(s%64)).cell (i:=k-s/64) wq;simp at L;go_wp2;go_region;go_wp2;go_roundw;case rel=>refine⟨k+1,wq,wq,N1,((G.setOther K2 _).setOther K2 _).drew,((E.setOther K2 _).setOther K2 _).drew,?_,((D.setCell K9 _).setCell K9 _).drew⟩;rw[(wq:k+1-s/64=k-s/64+1)];exact(Aj C<|UI b s k H).drew
   grind[nI]
  go_wp2;go_roundw;case rel=>refine⟨k+1,wq,wq,N1,G.setOther K2 _,E.setOther K2 _,?_,D.setCell K9 _⟩;rw[(wq:k+1-s/64=k-s/64+1)];exact lG C<|Pj b s k V.aa H wq
  grind[nI]
 cases(wq:k=4)
 have C:=C.congr (g:=dz _) λi c=>by
  simp only[dz];by_cases c:i<4-s/64
  .rw[At c]
  rw[iF c,TF b s i V.aa wq]
 let⟨c,c1,c2,c3⟩:=cW C;let⟨⟨y,p,m,z3⟩,h,q⟩:=qN (b/2^s) E D;go_wp2;refine gY (q _ W).1 ⟨W,(q _ W).2⟩
theorem OV(y:Nat)(h:y<Lib.len8tab.size):(Lib.len8tab[y].toNat)=Lib.bitLen y:=by
 have C:y<256:=by grind[Lib.len8tab_size]
 have e:=Lib.len8_of y wq wq;unfold Lib.len8 at e;grind
def la(s:Int)(C:Nat){y:Int}(x:Int){h:y.toNat<Lib.len8tab.size}(H:s=C)(E:C<=56)(G:Lib.bitLen x.toNat=C+Lib.bitLen y.toNat):wrap64 (s+wrap64 ((Lib.len8tab[y.toNat].toNat:Nat):Int))=(Lib.bitLen x.toNat:Int):=by
 have D:y.toNat<256:=by grind[Lib.len8tab_size]
 have H:=Lib.bitLen_le8 ⟨_,D⟩;grind[OV,wrap64]
theorem FY(x:Int)(h:x.toNat<Lib.len8tab.size):wrap64 (wrap64 ((Lib.len8tab[x.toNat].toNat:Nat):Int))=(Lib.bitLen x.toNat:Int):=by
 have C:x.toNat<256:=by grind[Lib.len8tab_size]
 have D:=Lib.bitLen_le8 ⟨_,C⟩;grind[OV,wrap64]
def Kc{x:Int}(G:0<=x)(E:x<=18446744073709551615):cP 211 #[iU x] w λe C=>e=.returned (iI<|Lib.bitLen x.toNat)/\C=w:=by
 have D:Lib.len8tab.size=256:=R5
 go_enter func211,ntmps211;go_wp2;all_goals(go_ret;refine⟨Xl Ending.returned<|Xl (Value.int IntKind.i64) ?_,W⟩)
 .exact la 56 56 x W wq (by rw[Lib.bitLen_shift56 _ wq wq,show(x/4294967296/65536/256).toNat=x.toNat/72057594037927936 by omega])
 .exact la 48 48 x W wq (by rw[Lib.bitLen_shift48 _ wq wq,show(x/4294967296/65536).toNat=x.toNat/281474976710656 by omega])
 .exact la 40 40 x W wq (by rw[Lib.bitLen_shift40 _ wq wq,show(x/4294967296/256).toNat=x.toNat/1099511627776 by omega])
 .exact la 32 32 x W wq (by grind[Lib.bitLen_shift32])
 .exact la 24 24 x W wq (by rw[Lib.bitLen_shift24 _ wq wq,show(x/65536/256).toNat=x.toNat/16777216 by omega])
 .exact la 16 16 x W wq (by grind[Lib.bitLen_shift16])
 .exact la 8 8 x W wq (by grind[Lib.bitLen_shift8])
 grind[FY]
theorem yE:∀(f x:Nat),x<2^f->x<2^Lib.bitLenAux f x
 |0,x,h=>by grind[Lib.bitLenAux]
 |f+1,x,h=>by
  unfold Lib.bitLenAux;split
  .omega
  have:=yE f (x/2) wq;grind
def RX{x:Nat}(h:x<18446744073709551616):bits .and .u64 (x:Int) 1=((x%2:Nat):Int):=by have e:=bits_and_u64_nat x 1 h wq;rwa[Nat.and_one_is_mod]at e
def EL(N i:Nat):eW N (i/64)/2^(i%64)%2=N/2^i%2:=by
 have E:(eW N (i/64)/2^(i%64)%2=1)↔(N/2^i%2=1):=by
  have C:=Y4 (x:=eW N<|i/64) (i:=i%64);have G:=Y4 (x:=N) (i:=i);have D:(eW N<|i/64).testBit (i%64)=N.testBit i:=by unfold eW;rw[Ba,XQ,XZ,(wq:i%64+64*(i/64)=i)];simp[Xs i _]
  grind
 omega
def M1(N i:Nat)(k:Nat):(cX N i)/2^k=((eW N i/2^k:Nat):Int):=R5
def Lz(N n i b:Nat)(t:Vr)(w:WD)(hi:i<64*n)(hn:n<=8)(D:w.rowIs b t n<|dz<|cX N):cP 170 #[sL b n n,iI (i:Int)] w λe C=>e=.returned (iU ((N/2^i%2:Nat):Int))/\C=w:=by have c:=D.cell (i:=i/64) wq;simp only[dz]at c;go_enter func170,ntmps170;go_wp2;go_ret;refine⟨Xl _<|Xl (Value.int _) ?_,W⟩;rw[M1,RX<|YD (YW _ _)<|kM _ _,EL]
def TQ{k:IntKind}{a b:Int}(h:a=b):Ending.returned (.int k a)=.returned (.int k b):=by rw[h]
def M9(hz:cX N k=0)(h:N<2^(64*(k+1))):N<2^(64*k):=by rw[fL]at hz;have e:=tU N k;rw[WZ h,(wq:eW N k=0),YB,Ye]at e;omega
def len_up(h:N<2^(64*(k+1))):∃L:Nat,Lib.bitLen (cX N k).toNat=L/\L<=64/\N<2^(64*k+L):=by
 refine⟨_,W,Lib.bitLen_le _ 64 wq ?_,?_⟩
 .have:=ud N k;omega
 rw[fL,Int.toNat_natCast];have e:=tU N k;rw[WZ h]at e;rw[Yw];have C:(eW N k+1)*2^(64*k)<=2^Lib.bitLen _*2^(64*k):=Yx (yE 64 _<|kM N k)<|DO _;rw[YO,YC<|2^Lib.bitLen _]at C;omega
def rx(N n:Nat)(t:Vr)(hn:n<=8)(J:N<2^(64*n))(U:w.rowIs b t n<|dz<|cX N):cP 169 #[sL b n n] w λe E=>∃L:Nat,L<=64*n/\N<2^L/\e=.returned (iI (L:Int))/\E=w:=by
 go_enter func169,ntmps169;go_wp2
 go_loop [3] (λt3=>∃k:Nat,k<=n/\t3=iI ((k:Int)-1)/\N<2^(64*k)) (λt3=>(intOf t3+1).toNat)
 case atStart=>exact⟨n,DO _,N1,J⟩
 obtain⟨k,V,rfl,C⟩:=hrel;rcases Nat.eq_zero_or_pos k with rfl|G
 .go_wp2;go_ret;exact⟨0,wq,wq,W,W⟩
 obtain⟨k,rfl⟩:∃I,k=I+1:=⟨k-1,wq⟩
 rw[(show((k+1:Nat):Int)-1=k by omega)];have c:=U.cell (i:=k) wq;have Q:=ud N k;simp only[dz]at c;by_cases V:cX N k=0
 .have U:(cX N k !=0)=false:=K9
  have P:Hd _:=V;go_wp2
  go_round
  case rel=>exact⟨k,wq,N1,M9 P C⟩
  simp_all[intOf]
 have U:(cX N k !=0)=true:=K9
 go_wp2_with fail
 refine(Kc (qP N k) wq).mono ?_;rintro e E⟨rfl,rfl⟩;let⟨L,H,O,D⟩:=len_up C;rw[H];go_wp2;go_ret;exact⟨_,wq,D,TQ wq,W⟩
def Nx:prog.cellsOf 22=1:=N0
def V6(x0 x1 x2 x3:Int)(w:WD):(part 22 #[iU x0,iU x1,iU x2,iU x3] 0).run prog w=.ok (iU x0) w:=by simp_all[part,isAgg]
def V8(x0 x1 x2 x3:Int)(w:WD):(part 22 #[iU x0,iU x1,iU x2,iU x3] 1).run prog w=.ok (iU x1) w:=by simp_all[part,isAgg]
def WO(x0 x1 x2 x3:Int)(w:WD):(part 22 #[iU x0,iU x1,iU x2,iU x3] 2).run prog w=.ok (iU x2) w:=by simp_all[part,isAgg]
def WK(x0 x1 x2 x3:Int)(w:WD):(part 22 #[iU x0,iU x1,iU x2,iU x3] 3).run prog w=.ok (iU x3) w:=by simp_all[part,isAgg]
def eqInt(x y:Int)(w:WD):(Op.equalIn 9999 22 (iU x)<|iU y).run prog w=.ok (x==y) w:=run_equalIn_int w 9998 22 .u64 .u64 x y underlying22
def eq4(x0 x1 x2 x3 C G E D:Int)(w:WD):(Op.equalIn 10000 24 (.agg #[iU x0,iU x1,iU x2,iU x3])<|.agg #[iU C,iU G,iU E,iU D]).run prog w=.ok (x0==C&&(x1==G&&(x2==E&&x3==D))) w:=by obtain⟨i,H, -⟩:=Y1.1 (show(prog.info? 22).map (λi=>i.size)=some 1 by kernel_rfl);rw[run_equalIn_array w _ _ _ underlying24 H,show List.range 4=[0,1,2,3] from W,Nx];simp only[Op.eqItems,ZU,ZO,V6,V8,WO,WK,Y2,eqInt,Sem.run_ite,ZV];grind
def gN(a b:Nat):Bool:=decide (a%M=b%M)
theorem uE(a b:Nat):(cX a 0==cX b 0&&(cX a 1==cX b 1&&(cX a 2==cX b 2&&cX a 3==cX b 3)))=gN a b:=by unfold gN M;grind[cX]
def ig(a b:Nat)(w:WD):(Op.equalIn 10000 24 (wv a)<|wv b).run prog w=.ok (gN a b) w:=by rw[eq4,uE]
def pJ(a:Nat)(w:WD):(Op.equalIn 10000 24 (wv a)<|.agg #[iU 0,iU 0,iU 0,iU 0]).run prog w=.ok (gN a 0) w:=by have e:=ig a 0 w;unfold wv at e⊢;grind[dK]
theorem jg(h:a=b):gN a b=true:=by grind[gN]
def J5(ha:a<M)(C:b<M)(h:a≠b):gN a b=false:=by grind[gN]
def Qk(a b k:Nat):Nat:=a/2^k/b*2^k
def Rk(a b k:Nat):Nat:=a/2^k%b
def oH(a i:Nat):Nat:=a/2^i%2
def dk(a b i:Nat):Nat:=2*Rk a b (i+1)+oH a i
def AP(a i:Nat):oH a i<=1:=by grind[oH]
def qv(a i:Nat):a/2^i=2*(a/2^(i+1))+oH a i:=by unfold oH;rw[ZY,<-ZZ];omega
def Ww(a b k:Nat)(_hb:b≠0):Rk a b k<b:=Xs _ wq
theorem div_lo(a b i:Nat)(C:b≠0)(h:dk a b i<b):Rk a b i=dk a b i/\Qk a b i=Qk a b (i+1):=by
 unfold Rk Qk dk at*;unfold Rk at*;rw[qv a i];generalize C:a/2^(i+1)=n at*;have e:2*n+oH a i=b*(2*(n/b))+(2*(n%b)+oH a i):=by grind[Zu,Nat.mul_left_comm]
 rw[e,Nat.mul_add_mod,WZ h];refine⟨W,?_⟩;rw[Nat.mul_add_div wq,Yc h,ZY,Ye,YC 2,ZC,YC 2]
theorem div_hi(a b i:Nat)(E:b≠0)(h:¬dk a b i<b):Rk a b i=dk a b i-b/\Qk a b i=Qk a b (i+1)+2^i:=by
 have G:=Ww a b (i+1) E;have D:=AP a i;unfold Rk Qk dk at*;unfold Rk at*;rw[qv a i];generalize E:a/2^(i+1)=n at*;have e:2*n+oH a i=b*(2*(n/b)+1)+(2*(n%b)+oH a i-b):=by grind[Zu,Nat.mul_add,Nat.mul_left_comm]
 have C:2*(n%b)+oH a i-b<b:=wq
 rw[e,Nat.mul_add_mod,WZ C];refine⟨W,?_⟩;rw[Nat.mul_add_div wq,Yc C,ZY,Ye,YO,Nat.one_mul,YC 2,ZC,YC 2]
theorem Dz(x:Nat):2*x ||| 1=2*x+1:=by have:=Nat.two_pow_add_eq_or_of_lt (i:=1) (b:=1) wq x;grind
def twice0(R:Nat){C:Nat}(h:C<=1):bits .or .u64 (cX (R+R) 0) (C:Int)=cX (2*R+C) 0:=by
 rw[fL,fL,Zv _ _ (kM _ _) wq];congr 1;unfold eW;rw[Je,qah,qah];rw[(show(R+R)%18446744073709551616=2*(R%9223372036854775808) by omega)];have D:C=0\/C=1:=wq
 grind[Dz]
def Br(R C j:Nat)(h:C<=1)(D:j<4)(E:j≠0:=by omega):cX (R+R) j=cX (2*R+C) j:=by
 unfold cX;rcases k4 D with rfl|rfl|rfl|rfl
 .omega
 all_goals omega
def GE(R b:Nat){C:Nat}(h:C<=1)(D:R<b)(E:b<M):((cy R R 4:Int)==0&&(bw (2*R+C) b 4:Int)==1)=decide (2*R+C<b):=by unfold cy bw M at*;grind
def ka(d b j:Nat)(D:b<M)(h:¬d<b)(C:j<4:=by omega):cX (tW d b) j=cX (d-b) j:=by unfold cX tW M at*;rcases k4 C with rfl|rfl|rfl|rfl<;>simp only[Je,LP,Li,Ij]<;>omega
def q_limb(Q i j:Nat)(E:Q%2^(i+1)=0):eW (Q+2^i) j=if j=i/64 then eW Q j ||| 2^(i%64)else eW Q j:=by
 have e:Q+2^i=Q ||| 2^i:=by let⟨c,D⟩:=Nat.dvd_of_mod_eq_zero E;grind[Nat.two_pow_add_eq_or_of_lt,Nat.pow_lt_pow_right]
 rw[e];apply XY;intro t;rw[jS,ZM,Nat.testBit_two_pow];split
 .rename_i C;rw[ZM,jS,Nat.testBit_two_pow];grind
 grind[jS]
def Pi(a b:Nat):Qk a b k%2^k=0:=by simp_all[Qk]
def TK(a b:Nat):Qk a b 0=a/b:=by grind[Qk]
def Th(a b:Nat):Rk a b 0=a%b:=by grind[Rk]
def Qk_top(a b L:Nat)(h:a<2^L):Qk a b L=0:=by unfold Qk;rw[Yc h,Nat.zero_div,YB]
def Rk_top(a b L:Nat)(h:a<2^L):Rk a b L=0:=by grind[Rk,Yc,ZS]
def Ex(a b:Nat)(D:gN b 0=true)(w:WD):cP 164 #[kj a,wv b] w (rT (.tuple #[kj 0,wv 0]) w):=by
 have C:=pJ b;rw[D]at C;go_enter func164,ntmps164;go_wp2;go_region;all_goals go_wp2
 all_goals(refine sp (by simp[results,results164,go_sem,dK]) W ⟨W,?_⟩;exact Below.drew<|ai (ai (ai (ai (dO _ _) _) _) _) _)
def eC{t:Vr}(h:w.rowIs b t n f)(v0 v1 v2 v3:VL)(hne:b≠c:=by omega):(sC (sC (sC (sC w c 0 v0) c 1 v1) c 2 v2) c 3 v3).rowIs b t n f:=(((h.setOther hne _).setOther hne _).setOther hne _).setOther hne _
def li{t:Vr}(h:w.rowIs b t n f)(hne:b≠c)(v0 v1 v2 v3 v4 v5 C D:VL):(sC (sC (sC (sC (sC (sC (sC (sC w c 0 v0) c 1 v1) c 2 v2) c 3 v3) c 4 v4) c 5 v5) c 6 C) c 7 D).rowIs b t n f:=(((((((h.setOther hne _).setOther hne _).setOther hne _).setOther hne _).setOther hne _).setOther hne _).setOther hne _).setOther hne _
def mG{t:Vr}{g:Vp}(h:w.rowIs b t 8 g)(f:Nat->Int):(sC (sC (sC (sC (sC (sC (sC (sC w b 0<|iU<|f 0) b 1<|iU<|f 1) b 2<|iU<|f 2) b 3<|iU<|f 3) b 4<|iU<|f 4) b 5<|iU<|f 5) b 6<|iU<|f 6) b 7<|iU<|f 7).rowIs b t 8 (dz f):=by refine(DG h _ _ _ _ _ _ _ _).congr λi C=>?_;rcases k8 C with rfl|rfl|rfl|rfl|rfl|rfl|rfl|rfl<;>rfl
def GC(h:bW w w')(C:w.heap.size<=c){v4 v5 D E:VL}:bW w (sC (sC (sC (sC (sC (sC (sC (sC w' c 0 v0) c 1 v1) c 2 v2) c 3 v3) c 4 v4) c 5 v5) c 6 D) c 7 E):=(((((((h.setCell C _).setCell C _).setCell C _).setCell C _).setCell C _).setCell C _).setCell C _).setCell C _
def A5{W:WD}{Q R':Nat}(hi:i<=512)(H:W.rowIs w.heap.size 224 8<|dz<|cX a)(D:W.rowIs (w.heap.size+1) 24 4<|dz<|cX b)(E:W.rowIs (w.heap.size+1+1) 224 8<|dz<|cX Q)(G:W.rowIs (w.heap.size+1+1+1) 24 4<|dz<|cX R')(C:bW w W)(h:Rk a b i=R'/\Qk a b i=Q):∃k:Nat,k<=512/\iI ((i:Int)-1)=iI ((k:Int)-1)/\W.rowIs w.heap.size 224 8 (dz<|cX a)/\W.rowIs (w.heap.size+1) 24 4 (dz<|cX b)/\W.rowIs (w.heap.size+1+1) 224 8 (dz<|cX<|Qk a b k)/\W.rowIs (w.heap.size+1+1+1) 24 4 (dz<|cX<|Rk a b k)/\bW w W:=K9
def Wg{R:Nat}(D:d=2*R+oH a i)(C:Rk a b (i+1)=R):dk a b i=d:=by grind[dk]
def Vg{R:Nat}(D:b≠0)(D:d=2*R+oH a i)(C:Rk a b (i+1)=R)(h:d<b):Rk a b i=d/\Qk a b i=Qk a b (i+1):=by have e:=Wg D C;grind[div_lo]
def Ji{R:Nat}(D:b≠0)(D:d=2*R+oH a i)(C:Rk a b (i+1)=R)(h:¬d<b):Rk a b i=d-b/\Qk a b i=Qk a b (i+1)+2^i:=by have e:=Wg D C;grind[div_hi]
def Mq(h:e<64):IntKind.u64.wrap (2^e)=((2^e:Nat):Int):=by have C:2^e<2^64:=Nat.pow_lt_pow_right wq h;grind[IntKind.wrap_u64,Int.natCast_pow]
def zG{t:Vr}{Q:Nat}(h:w.rowIs b t n<|dz<|cX Q)(E:Q%2^(i+1)=0):(w.setCell ⟨b,i/64,none⟩<|iU<|bits .or .u64 (cX Q<|i/64)<|IntKind.u64.wrap<|2^(i%64)).rowIs b t n (dz<|cX<|Q+2^i):=by
 refine(h.set _ _).congr λj _=>?_;have D:2^(i%64)<2^64:=Nat.pow_lt_pow_right wq wq;have e:=q_limb Q i j E;rw[Mq wq,fL,Zv _ _ (kM _ _) D];simp only[dz];by_cases C:j=i/64
 .rw[At C,fL,e,At C,C]
 rw[iF C,fL,fL,e,iF C]
def pO(a b:Nat):cP 160 #[wv a,wv b] w λe w'=>∃s c:Nat,Hd (s=a+b)/\Hd (c=cy a b 4)/\e=.returned (.tuple #[wv s,iU (c:Int)])/\bW w w':=(Cq a b w).mono λ_ _ h=>⟨_,_,W,W,h.1,h.2⟩
def tM(a b:Nat):cP 163 #[wv a,wv b] w λe w'=>∃s c:Nat,Hd (s=tW a b)/\Hd (c=bw a b 4)/\e=.returned (.tuple #[wv s,iU (c:Int)])/\bW w w':=(rC a b w).mono λ_ _ h=>⟨_,_,W,W,h.1,h.2⟩
def I9(N n i:Nat)(t:Vr)(hi:i<64*n)(hn:n<=8)(C:w.rowIs b t n<|dz<|cX N):cP 170 #[sL b n n,iI (i:Int)] w λe w'=>e=.returned (iU (oH N i:Int))/\w'=w:=Lz N n i b t w hi hn C
def Hl(a b:Nat)(ha:a<2^(64*8))(l:b<M)(K:b≠0)(w:WD):cP 164 #[kj a,wv b] w (rT (.tuple #[kj<|a/b,wv<|a%b]) w):=by
 have u:=pJ b;rw[J5 l wq K]at u;have h:Hd _:=l;have g:Hd (b≠0):=K;have l:Hd _:=ha;go_enter func164,ntmps164;go_wp2_with fail
 refine(rx a 8 224 wq l.aa ?_).mono ?_
 .exact lF _ W W W W W W W W W |>.alloc _ |>.alloc _ |>.alloc _
 rintro e w'⟨L,l,t,rfl,rfl⟩;have l:Hd _:=t;go_wp2;go_loopw[6] (λN wr=>∃k:Nat,k<=512/\N=iI ((k:Int)-1)/\wr.rowIs w.heap.size 224 8 (dz<|cX a)/\wr.rowIs (w.heap.size+1) 24 4 (dz<|cX b)/\
   wr.rowIs (w.heap.size+1+1) 224 8 (dz<|cX<|Qk a b k)/\wr.rowIs (w.heap.size+1+1+1) 24 4 (dz<|cX<|Rk a b k)/\bW w wr)
   (λN _=>(intOf N+1).toNat)
 case atStart=>
  refine⟨L,wq,N1,?_,?_,?_,?_,?_⟩
  .exact lF _ W W W W W W W W W |>.alloc _ |>.alloc _ |>.alloc _
  .exact de _ K2 W W W W |>.alloc _ |>.alloc _
  .rw[Qk_top a b L l.aa];exact lF _ K2 (dK _).symm (dK _).symm (dK _).symm (dK _).symm (dK _).symm (dK _).symm (dK _).symm (dK _).symm |>.alloc _
  .rw[Rk_top a b L l.aa];exact de _ K2 (dK _).symm (dK _).symm (dK _).symm (dK _).symm
  grind[ai,dO]
 obtain⟨k,l,rfl,Z,Y,G,E,O⟩:=hrel;rcases Nat.eq_zero_or_pos k with rfl|l
 .rw[TK]at G;rw[Th]at E;obtain⟨q,j⟩:∃q,Hd (a/b=q):=⟨_,W⟩
  obtain⟨r,y⟩:∃r,Hd (a%b=r):=⟨_,W⟩
  rw[j.aa]at G;rw[y.aa]at E;let⟨r0,r1,r2,r3⟩:=cW E;obtain⟨l,l,l,l,l,l,l,l⟩:=iE G;have x:=E.frozen;have v:=G.frozen;go_wp2;go_region;all_goals go_wp2
  let⟨s0,s1,s2,s3⟩:=cW<|di (li E (c:=w.heap.size+1+1) wq (lu q 0) (lu q 1) (lu q 2) (lu q 3) (lu q 4) (lu q 5) (lu q 6)<|lu q 7) (cX r) W W W W;let⟨l,u,p2,p3,p4,p5,p6,p7⟩:=iE<|eC (mG G<|cX q) (c:=w.heap.size+1+1+1) (lu r 0) (lu r 1) (lu r 2)<|lu r 3;rw[j.aa,y.aa];refine sp (by simp[results,results164,go_sem,s0,s1,s2,s3,l,u,p2,p3,p4,p5,p6,p7]) W ⟨W,?_⟩;exact(bd (GC O wq) wq).drew
 obtain⟨i,rfl⟩:∃i,k=i+1:=⟨k-1,wq⟩
 rw[(show((i+1:Nat):Int)-1=i by omega)];generalize l:Rk a b (i+1)=R at*;have y:Hd _:=l;generalize l:Qk a b (i+1)=Q at*;have j:Hd _:=l;let⟨r0,r1,r2,r3⟩:=cW E;go_wp2_with fail
 refine(pO R R).mono ?_;rintro e l⟨s,c,F,u,rfl,l⟩;replace Z:=cY Z l;replace Y:=cY Y l;replace G:=cY G l;replace E:=cY E l;replace O:=eB O l;let⟨z,p⟩:=dP<|oH a i;let⟨d,A⟩:=dP<|2*R+z;have V:z<=1:=by rw[p.aa];exact AP a i
 have l:bits .or .u64 (cX s 0) z=cX d 0:=by rw[A.aa,F.aa];exact twice0 R V
 have l:cX s 1=cX d 1:=by rw[A.aa,F.aa];exact Br R _ 1 V wq
 have l:cX s 2=cX d 2:=by rw[A.aa,F.aa];exact Br R _ 2 V wq
 have l:cX s 3=cX d 3:=by rw[A.aa,F.aa];exact Br R _ 3 V wq
 obtain⟨l,l,b2,b3⟩:=cW Y;have l:=Y.lt;go_wp2
 go_region_with (go_at_call 170;refine(I9 a 8 i 224 wq wq ?_).mono ?_;exact(Z.alloc _);rintro e w'⟨rfl,rfl⟩;rw[<-p.aa])
 all_goals
  go_wp2_with fail
  refine(tM d b).mono ?_;rintro e l⟨r,c2,H,l,rfl,P⟩;have S:=cY (de _ W W W W W).drew P;have U:=cY (Z.alloc _).drew P;have X:=cY (Y.alloc _).drew P;have D:=cY (G.alloc _).drew P;have I:=cY (E.alloc _).drew P;have J:=eB (ai O _).drew P;have T:=GE R b V (by rw[<-y.aa];exact Ww a b _ g.aa) h.aa;rw[<-A.aa,<-u.aa,<-l.aa]at T;have m:Hd _:=T;have o:Hd (d=2*R+oH a i):=by rwa[<-p.aa]
  obtain⟨l,l,l,t3⟩:=cW S;obtain⟨⟨x0,l,l,l⟩,x⟩:=Fa I;have l:=S.lt;have z3:=I.lt;have z4:=D.lt;by_cases C:d<b
  .have g1:((c:Int)==0)=true:=by have:=m.aa;simp[C]at this;simp[this]
   have g2:((c2:Int)==1)=true:=by have:=m.aa;simp[C]at this;simp[this]
   go_wp2;go_roundw;case rel=>exact A5 wq ((eC U _ _ _ _).alloc _) ((eC X _ _ _ _).alloc _) ((eC D _ _ _ _).alloc _) ((di I _ W W W W).alloc _) (ai (bd J wq) _) (by rw[<-j.aa];exact Vg g.aa o.aa y.aa C)
   simp[intOf]
  have l:=D.cell (i:=i/64) wq;have v:=D.frozen<|i/64;simp only[dz]at l;cases l:((c:Int)==0)
  .go_wp2;go_region;go_wp2;go_roundw;case rel=>exact A5 wq (((eC U _ _ _ _).setOther N3 _).alloc _).drew (((eC X _ _ _ _).setOther K2 _).alloc _).drew ((zG (eC D _ _ _ _) (by rw[<-j.aa];exact Pi a b)).alloc _).drew (((di I (cX<|d-b) (by rw[H.aa];exact ka d b 0 h.aa C) (by rw[H.aa];exact ka d b 1 h.aa C) (by rw[H.aa];exact ka d b 2 h.aa C) (by rw[H.aa];exact ka d b 3 h.aa C)).setOther K2 _).alloc _).drew (ai ((bd J wq).setCell N3 _) _).drew (by rw[<-j.aa];exact Ji g.aa o.aa y.aa C)
   simp[intOf]
  have g2:((c2:Int)==1)=false:=by have:=m.aa;rw[l]at this;simpa[C]using this
  go_wp2;go_region;go_wp2;go_roundw;case rel=>exact A5 wq (((eC U _ _ _ _).setOther N3 _).alloc _).drew (((eC X _ _ _ _).setOther K2 _).alloc _).drew ((zG (eC D _ _ _ _) (by rw[<-j.aa];exact Pi a b)).alloc _).drew (((di I (cX<|d-b) (by rw[H.aa];exact ka d b 0 h.aa C) (by rw[H.aa];exact ka d b 1 h.aa C) (by rw[H.aa];exact ka d b 2 h.aa C) (by rw[H.aa];exact ka d b 3 h.aa C)).setOther K2 _).alloc _).drew (ai ((bd J wq).setCell N3 _) _).drew (by rw[<-j.aa];exact Ji g.aa o.aa y.aa C)
  simp[intOf]
theorem MT(n i:Nat)(hi:i<4):cX (n%M) i=cX n i:=by unfold cX M;rcases k4 hi with rfl|rfl|rfl|rfl<;>simp only[Je,LP,Li,Ij]<;>omega
def jJ(n:Nat):wv (n%M)=wv n:=by unfold wv;grind[MT]
def iL(h:m%M=n%M):wv m=wv n:=by rw[<-jJ m,<-jJ n,h]
def kQ(a b:Nat):Nat:=(a+b)%M
def ku(a b:Nat):Nat:=(a+(M-b))%M
def sr(a b:Nat):Nat:=a*b%M
def ui(a b:Nat):Nat:=a/b
def lM(a b:Nat):Nat:=if b=0 then 0 else a%b
def mV(a:Nat):Nat:=(M-a)%M
def gL(a:Nat):Nat:=if neg a then mV a else a
def nQ(a b:Nat):Nat:=if neg a !=neg b then mV (ui (gL a)<|gL b)else ui (gL a)<|gL b
def od(a b:Nat):Nat:=if neg a then mV (lM (gL a)<|gL b)else lM (gL a)<|gL b
def tA(a b c:Nat):Nat:=lM (a+b) c
def sE(a b c:Nat):Nat:=lM (a*b) c
def vL(a b:Nat):Nat:=a^b%M
def zbA(a:Nat):Nat:=M-1-a
def mX(a b:Nat):Nat:=if a<256 then b*2^a%M else 0
def tV(a b:Nat):Nat:=if a<256 then b/2^a else 0
def vN(a b:Nat):Nat:=if neg b then zbA (tV a<|zbA b)else tV a b
def ni(a b:Nat):Nat:=if a<31 then vN (248-8*a) (mX (248-8*a) b)else b
def nj(a b:Nat):Nat:=if a<32 then tV (8*(31-a)) b%256 else 0
def vh(a b:Nat):Bool:=if neg a !=neg b then neg a else decide (a<b)
def jM(h:Bool):Nat:=if h then 1 else 0
def jm:0<M:=K2
def Rw:kQ a b<M:=Xs _ jm
def TN:ku a b<M:=Xs _ jm
theorem Sr(a:Nat):mV a<M:=Xs _ jm
def IZ(ha:a<M):ui a b<M:=YD (YW _ _) ha
def Tg(C:b<M):lM a b<M:=by
 unfold lM;split
 .omega
 exact Nat.lt_trans (Xs _ wq) C
def qQ(ha:a<M):gL a<M:=by grind[gL,Sr]
def VP(a b:Nat):vL a b<M:=Xs _ jm
theorem wE(a:Nat):zbA a<M:=by unfold zbA M;omega
theorem Cg:mX a b<M:=by grind[mX]
theorem wo(a:Nat)(C:b<M):tV a b<M:=by
 unfold tV;split
 .exact YD (YW _ _) C
 omega
theorem JO(C:b<M):vN a b<M:=by grind[vN,wE,wo]
def MC(a b:Nat)(C:b<M):ni a b<M:=by grind[ni,JO,Cg]
def Pv:nj a b<M:=by unfold nj M;grind
def UP(b:Nat)(ha:a<M):D1 a b%M=mX a b:=by grind[D1,mX]
def zdj(ha:a<M):a &&& b<M:=YD Nat.and_le_left ha
def vF:M=2^256:=rfl
def or_lt(ha:a<M)(C:b<M):a ||| b<M:=by rw[vF]at*;exact Nat.or_lt_two_pow ha C
def xor_lt(ha:a<M)(C:b<M):a ^^^ b<M:=by rw[vF]at*;exact Nat.xor_lt_two_pow ha C
def lI(w:WD)(n:Nat)(e:Ending)(w':WD):=∃r:Nat,Hd (r=n)/\e=.returned (wv r)/\bW w w'
theorem dZ(h:r%M=n%M)(C:bW w w'):lI w n (.returned<|wv r) w':=⟨n,W,Xl Ending.returned<|iL h,C⟩
def sF:Value.agg #[iU 0,iU 0,iU 0,iU 0]=wv 0:=R5
def wv_one:Value.agg #[iU 1,iU 0,iU 0,iU 0]=wv 1:=xQ 1 wq
def wU(a b:Nat)(w:WD):cP 161 #[wv a,wv b] w λe w'=>∃p:Nat,Hd (p=lQ a b)/\e=.returned (kj p)/\bW w w':=(C8 a b w).mono λ_ _ h=>⟨_,W,h.1,h.2⟩
theorem OX(a j:Nat)(ha:a<M)(C:4<=j):cX a j=0:=by
 rw[fL];unfold eW;rw[Yc]
 .rfl
 refine Xg ha ?_;show 2^256<=_;exact Yh wq wq
def KU(ha:a<M):Value.agg #[lu a 0,lu a 1,lu a 2,lu a 3,iU 0,iU 0,iU 0,iU 0]=kj a:=by unfold kj;grind[OX]
def Jq(a:Nat)(w:WD):cP 165 #[wv a] w λe w'=>∃r:Nat,Hd (r=a%M)/\e=.returned (kj r)/\bW w w':=by rw[<-jJ a];refine(Af w).mono ?_;rintro e w'⟨rfl,C⟩;exact⟨_,W,Xl _<|KU<|Xs _ jm,C⟩
def qz(a b:Nat)(ha:a<2^(64*8))(w:WD):cP 164 #[kj a,wv b] w λe w'=>∃q r:Nat,Hd (q=a/(b%M))/\Hd (r=lM a (b%M))/\e=.returned (.tuple #[kj q,wv r])/\bW w w':=by
 rw[<-jJ b];have D:=Xs b jm;generalize b%M=b at*;by_cases C:b=0
 .subst C;refine(Ex a 0 (jg W) w).mono ?_;rintro e w'⟨rfl,D⟩;exact⟨0,0,by show _=_;omega,W,W,D⟩
 refine(Hl a b ha D C w).mono ?_;rintro e w'⟨rfl,D⟩;exact⟨_,_,W,by show _=_;grind[lM],W,D⟩
def WM(p:Nat):cP 162 #[kj p] w (rT (wv p) w):=TW w
theorem Eg(n:Nat)(h:256<=n):M<=2^n:=by rw[vF];exact Yh wq h
def WR(a:Nat):a%M<2^(64*8):=K9
def QW(a b:Nat):tW a b%M=ku a (b%M)%M:=by grind[tW,ku]
def RD(a:Nat):ku 0 (a%M)%M=mV (a%M)%M:=by grind[ku,mV]
def gn(a:Nat):neg (a%M)=neg a:=by grind[neg]
def RO(a b:Nat):lQ a b%M=sr a b%M:=by simp_all[lQ,sr]
theorem Vb(a b:Nat)(w:WD):cP 97 #[wv a,wv b] w (lI w<|kQ a b):=by
 go_enter func97,ntmps97;go_wp2_with fail
 refine(pO a b).mono ?_;rintro e I⟨s,c,H,O,rfl,U⟩;have C:=cY (de (n:=w.heap.size+1+1) (λ_=>0) K2 W W W W) U;have D:=eB (ai (ai (ai (dO _ _) _) _) _) U;have z:=C.lt;obtain⟨⟨x0,Q,P,J⟩,L⟩:=Fa C;go_wp2;obtain⟨E,U,V,G⟩:=cW<|di C<|cX s;refine sp (v:=wv s) (by simp[results,results97,go_sem,E,U,V,G,z]) W (dZ (by rw[H.aa];grind[kQ]) ?_);grind[ai,bd]
theorem I3(a b:Nat):cP 99 #[wv a,wv b] w (lI w<|ku a<|b%M):=by
 go_enter func99,ntmps99;go_wp2_with fail
 refine(tM a b).mono ?_;rintro e I⟨s,c,H,O,rfl,U⟩;have C:=cY (de (n:=w.heap.size+1+1) (λ_=>0) K2 W W W W) U;have D:=eB (ai (ai (ai (dO _ _) _) _) _) U;have z:=C.lt;obtain⟨⟨x0,Q,P,J⟩,L⟩:=Fa C;go_wp2;obtain⟨E,U,V,G⟩:=cW<|di C<|cX s;refine sp (v:=wv s) (by simp[results,results99,go_sem,E,U,V,G,z]) W (dZ (by rw[H.aa];exact QW a b) ?_);grind[ai,bd]
def oZ(a:Nat):cP 168 #[wv a] w (lI w<|mV<|a%M):=by
 go_enter func168,ntmps168;go_wp2_with fail
 rw[sF];refine(I3 0 a).mono ?_;rintro e H⟨s,E,rfl,O⟩;have C:=cY (de (n:=w.heap.size+1) (λ_=>0) K2 W W W W) O;have D:=eB (ai (ai (dO _ _) _) _) O;let⟨⟨x0,I,L,J⟩,G⟩:=Fa C;go_wp2;refine gY (di C<|cX s) (dZ (by rw[E.aa];exact RD a) ?_);grind[bd]
def lx(a:Nat)(w:WD):cP 166 #[wv a] w (lI w<|gL<|a%M):=by
 go_enter func166,ntmps166;go_wp2_with fail
 refine(ol a _).mono ?_;rintro e P⟨rfl,Z⟩;have E:=cY (de _ W W W W W |>.alloc _) Z;have C:=cY (de (n:=w.heap.size+1) (λ_=>0) K2 W W W W) Z;have D:=eB (ai (ai (dO _ _) _) _) Z;let⟨⟨x0,O,L,H⟩,I⟩:=Fa C;let⟨V,R,Y,U⟩:=cW E;cases b:neg a
 .have G:Hd _:=b;go_wp2;refine gY (di C<|cX a) (dZ (by unfold gL;rw[gn,G.aa,iF K3,Yu]) ?_);grind[bd]
 have G:Hd _:=b;go_wp2_with fail
 refine(oZ a).mono ?_;rintro e X⟨s,J,rfl,Z⟩;replace C:=cY C Z;replace D:=eB D Z;replace z:=C.lt;replace Q:=D.size;let⟨⟨x0,O,L,H⟩,I⟩:=Fa C;go_wp2;refine gY (di C<|cX s) (dZ (by rw[J.aa];unfold gL;rw[gn,G.aa,At W]) ?_);grind[bd]
theorem AK(a b:Nat):cP 98 #[wv a,wv b] w (lI w<|sr a b):=by
 go_enter func98,ntmps98;go_wp2_with fail
 refine(wU a b _).mono ?_;rintro e J⟨p,I,rfl,P⟩;have C:=cY (de (n:=w.heap.size+1+1) (λ_=>0) K2 W W W W) P;have D:=eB (ai (ai (ai (dO _ _) _) _) _) P;let⟨x0,E,H,G⟩:=cW C;go_wp2_with fail
 refine(WM p).mono ?_;rintro e L⟨rfl,P⟩;replace C:=cY C P;replace D:=eB D P;replace z:=C.lt;replace O:=D.size;clear x0 E H G P;let⟨x0,E,H,G⟩:=cW C;have C.frozen:=C.frozen;go_wp2;refine gY (di C<|cX p) (dZ (by rw[I.aa];exact RO a b) ?_);grind[bd]
variable {es:Es}
theorem tY(h:∀t c,env t=some c->s.tmps.getD t undef=c):pG env s=s.eval:=by
 funext q;cases q with
 |tmp t=>
  show(env t).getD _=_;cases C:env t with
  |none=>rfl
  |some c=>exact(h t c C).symm
 |const v=>rfl
 |global g=>rfl
 |func f=>rfl
def o6{o:Oper}{Q:Y6}{f:FuncId}(C:∀t c,env t=some c->s.tmps.getD t undef=c)(E:cP f args x Post)(G:∀v x',Post (.returned v) x'->K (s.put o.dst v) x')(G:∀l x',Post (.panicked l) x'->Q (.panic l) s x')(hn:∀x',¬Post .outgrown x')(he:(execOp (pG env s) o).run prog x=.ok (.enter f args) x:=by kernel_rfl):Oper.wp prog o s x K Q:=by rw[tY C]at he;unfold Oper.wp;rw[he,Oper.upon_enter];refine E.mono λe x' h=>?_;grind
abbrev Bl(x x':WD):=bW x x'
abbrev L2(v:VL)(x:WD)(e:Ending)(x':WD):=e=.returned v/\Bl x x'
def rv{f:FuncId}(h:∀x,cP f args x<|lI x n)(E:Hd<|q=n)(x:WD):cP f args x (L2 (wv q) x):=(h x).mono λe y h=>by obtain⟨r,G,rfl,C⟩:=h;exact⟨by rw[E.aa,G.aa],C⟩
def rvg{f:FuncId}(v:Vp)(h:∀x,cP f args x λe y=>∃r:Nat,Hd (r=n)/\e=.returned (v r)/\Bl x y)(E:Hd<|q=n)(x:WD):cP f args x (L2 (v q) x):=(h x).mono λe y h=>by obtain⟨r,G,rfl,C⟩:=h;exact⟨by rw[E.aa,G.aa],C⟩
def rv2(ha:a<2^(64*8))(L:Hd<|q=a/(b%M))(O:Hd<|r=lM a (b%M))(x:WD):cP 164 #[kj a,wv b] x (L2 (.tuple #[kj q,wv r]) x):=(qz a b ha x).mono λe y h=>by obtain⟨H,G,E,C,rfl,J⟩:=h;exact⟨by rw[L.aa,O.aa,E.aa,C.aa],J⟩
section
variable {D:Td}{P:Tl}{l:Tl}
abbrev NO(I:Vm)(D:Td)(es:Es)(P:Tl)(Ph:Nat->X4)(df:List Deferred)(Q:Y6)(p:Nat)(l:Tl):=AllOb I es (λ_=>H6 Bl I D es P Ph df Q) p l
abbrev LO(I:Vm)(D:Td)(es:Es)(P:Tl)(Ph:Nat->X4)(df:List Deferred)(Q:Y6)(p:Nat)(l:Tl):=AllOb I es (λ_=>Hs Bl I D es P Ph df Q) p l
def tu(J:I[i]?=some ⟨some d,.load 24<|.tmp t,ty,pos,af,gd⟩)(he:es[i]?=some (some d,.v<|wv n))(H:pg I D es ⟨some d,.load 24<|.tmp t,ty,pos,af,gd⟩ t=some (pt b))(O:∀k x,Ph k x->x.rowIs b 24 4 (dz<|cX n))(L:LO I D es P Ph df Q (p+1) l):LO I D es P Ph df Q p (i::l):=oz J he (@λk s x _ _ C _ K _ E hv G=>by clear C;have e:=@hv t _ H;let⟨U,c1,c2,c3⟩:=cW<|O k x E;replace G:=kx G;go_simp;exact G) L
def cv{f:FuncId}{o:Oper}(E:I[i]?=some o)(he:es[i]?=some (some d,.v v))(L:o.dst=some d)(H:∀x,cP f args x<|L2 v x)(O:LO I D es P Ph df Q (p+1) l)(G:∀s x,(execOp (pG (pg I D es o) s) o).run prog x=.ok (.enter f args) x:=by intros;kernel_rfl):LO I D es P Ph df Q p (i::l):=oz E he (@λk s x _ _ _ _ K _ _ hv C=>o6 @hv (H x) (he:=G s x) (λu x' h=>by let⟨e,J⟩:=h;cases ZH e;rw[L];exact C _ _ J nn1 W) (λl x' h=>by cases h.1)<|λx' h=>by cases h.1) O
def o0(T z N c q:Nat):Kp:=λp v x=>∃b f,v=pt b/\N<b/\x.rowIs b T z (dz f)/\(c<p->f=cX q)
def Uf(J:I[i]?=some ⟨some d,.alloc 24,ty,pos,af,gd⟩)(he:es[i]?=some (some d,.l<|o0 24 4 N c q))(L:P[c]?=some j)(O:∀k x,Ph k x->N<x.heap.size)(U:NO I D es P Ph df Q (p+1) l)(ha:qU I 3 j i=true:=by kernel_rfl):NO I D es P Ph df Q p (i::l):=oz J he (@λk s x _ _ C _ K H E R G=>by clear C;have V:=H c j L ha;replace G:=G _ _ (ai (dO _ x)<|.cells #[iU 0,iU 0,iU 0,iU 0] 24) nn1 ⟨_,W,DO _,K2⟩ ⟨_,λ_=>0,W,O k x E,de _ W W W W W,λh=>wq⟩;go_simp;exact G) U
def al8(J:I[i]?=some ⟨some d,.alloc 224,ty,pos,af,gd⟩)(he:es[i]?=some (some d,.l<|o0 224 8 N c q))(L:P[c]?=some j)(ha:qU I 3 j i=true)(O:∀k x,Ph k x->N<x.heap.size)(U:NO I D es P Ph df Q (p+1) l):NO I D es P Ph df Q p (i::l):=oz J he (@λk s x _ _ C _ K H E R G=>by clear C;have V:=H c j L ha;replace G:=G _ _ (ai (dO _ x)<|.cells #[iU 0,iU 0,iU 0,iU 0,iU 0,iU 0,iU 0,iU 0] 224) nn1 ⟨_,W,DO _,K2⟩ ⟨_,λ_=>0,W,O k x E,lF _ W W W W W W W W W,λh=>wq⟩;go_simp;exact G) U
abbrev Sl:=List<|Nat×Vr×Nat×Nat
def CJ(N:Nat)(sl:Sl)(p:Nat)(s:Act)(x x':WD):=x.heap.size<=x'.heap.size/\∀d T z q,sl[p]?=some (d,T,z,q)->∃b f,s.tmps.getD d undef=pt b/\x.rowIs b T z f/\x'.rowIs b T z (dz<|cX q)/\(∀c Uq9 n g,c≠b->x.rowIs c Uq9 n g->x'.rowIs c Uq9 n g)/\∀e∈sl,e.1≠d->s.tmps.getD e.1 undef≠pt b
def H9{T p:Nat}{sl:Sl}(J:decide (sl.map Prod.fst).Nodup=true)(C:sl[c]?=some (d,T,z,q))(S:p<sl.length)(hr:CJ N sl p s x x')(h:o0 T z N c q p (iY s<|some d) x):o0 T z N c q (p+1) (iY s<|some d) x':=by
 let⟨b,f,e,L,F,hf⟩:=h;obtain⟨⟨Y,g,R,m⟩,E⟩:∃e,sl[p]?=some e:=⟨_,iN S⟩
 let⟨b',y,X,o,O,Z,V⟩:=hr.2 _ _ _ _ E;by_cases A:d=Y
 .subst A;cases((List.getElem?_inj (l:=sl.map Prod.fst) (by simpa using S)<|Xd J).1 (by rw[Xu,Xu,E,C];rfl):p=c);obtain⟨_,rfl,rfl,rfl⟩:d=d/\g=T/\R=z/\m=q:=by simpa using E.symm.trans C
  obtain rfl:b=b':=by have U:=e.symm.trans X;simpa using U
  exact⟨b,_,e,L,O,λ_=>W⟩
 refine⟨b,f,e,L,Z b _ _ _ (λH=>V _ (Xe C) A (by rw[<-H];exact e)) F,λh=>hf ?_⟩;have:c≠p:=λG=>A (by subst G;rw[E]at C;exact(Xi<|hV C).1.symm);omega
def AIQ{T p:Nat}(h:o0 T z N c q p v x)(E:Bl x x'):o0 T z N c q p v x':=by let⟨b,f,e,C,H,G⟩:=h;exact⟨b,f,e,C,cY H E,G⟩
def ixB(I:Vm)(es:Es)(sl:Sl)(news:Tl)(i:Nat):Bool:=sl.length==news.length&&(sl.zip news).all λp=>lL I i p.2&&(match es[p.2]? with|some (some d,_)=>d==p.1.1|_=>false)
def N6{sl:Sl}(h:ixB I es sl news i=true){e:Nat×Vr×Nat×Nat}(he:e∈sl):∃j∈news,lL I i j=true/\∃T,es[j]?=some (some e.1,T):=by
 unfold ixB at h;rw[Xo]at h;let⟨k,J⟩:=XM he;have L:sl.length=news.length:=by simpa using h.1
 obtain⟨j,G⟩:∃j,news[k]?=some j:=⟨_,iN (by rw[<-L];exact(Do.1 J).1)⟩
 have C:=Xp.1 h.2 (e,j) (Xe (i:=k) (by rw[List.getElem?_zip_eq_some];exact⟨J,G⟩));rw[Xo]at C;refine⟨j,Xe G,C.1,?_⟩;have E:=C.2;split at E
 .rename_i d T H;exact⟨T,by rw[H,(by simpa using E:d=e.1)]⟩
 cases E
def Lr{sl:Sl}{T:Vr}(h:ixB I es sl news i=true)(m:(d,T,z,q)∈sl)(e:tG s d<|pt b)(hne:∀j∈news,∀C∈news,j≠C->lL I i j=true->lL I i C=true->∀(d J:Nat)(T Y:En),es[j]?=some (some d,T)->es[C]?=some (some J,Y)->s.tmps.getD d undef≠s.tmps.getD J undef):∀e∈sl,e.1≠d->s.tmps.getD e.1 undef≠pt b:=λf H V=>by let⟨j,U,R,Z,L⟩:=N6 h H;let⟨k,O,X,g,G⟩:=N6 h m;rw[<-e];refine hne j U k O (λE=>?_) R X _ _ _ _ L G;subst E;rw[L]at G;exact V<|by simpa using (Xi<|hV G).1
abbrev CO(news:Tl)(I:Vm)(D:Td)(es:Es)(Jq9:X4)(N:Nat)(sl:Sl)(df:List Deferred)(Q:Y6)(p:Nat)(l:Tl):=AllOb I es (λp i=>G6 news I D es (λ_=>Jq9) (CJ N sl) df Q p i) p l
def L1{sl:Sl}(X:I[i]?=some ⟨none,.store 24 (.tmp t)<|.tmp u,ty,pos,af,gd⟩)(he:es[i]?=some (none,.v undef))(U:zz I es ⟨none,.store 24 (.tmp t)<|.tmp u,ty,pos,af,gd⟩ t=some (o0 24 4 N p q))(Y:pg I D es ⟨none,.store 24 (.tmp t)<|.tmp u,ty,pos,af,gd⟩ u=some (wv q))(hs:sl[p]?=some (t,24,4,q))(H:ixB I es sl news i=true)(E:∀x a v,N<a.block->Jq9 x->Jq9 (x.setCell a v))(hl:CO news I D es Jq9 N sl df Q (p+1) l):CO news I D es Jq9 N sl df Q p (i::l):=
 oz X he (λs x L J R hl hne K O=>by
  clear J;let⟨b,f,e,G,hr,_⟩:=hl t _ U;have S:=R u _ Y;let⟨⟨F,o,W,A⟩,y⟩:=Fa hr;have C:=Lr H (Xe hs) e hne;clear hne;have Z:=O undef _ (E _ ⟨b,3,none⟩ (lu q 3) G<|E _ ⟨b,2,none⟩ (lu q 2) G<|E _ ⟨b,1,none⟩ (lu q 1) G<|E _ ⟨b,0,none⟩ (lu q 0) G L) ⟨K2,λd T z q' h=>by
   rw[hs]at h;obtain⟨rfl,rfl,rfl,rfl⟩:t=d/\_=T/\4=z/\q=q':=by simpa using h
   exact⟨b,_,e,hr,di hr (cX q) rfl rfl rfl rfl,λc V n g m h=>eC h (hne:=m) _ _ _ _,C⟩⟩ (λ_=>rfl) rfl
  clear O R hl C;go_simp;exact Z) hl
def sw8{sl:Sl}(Y:I[i]?=some ⟨none,.store 224 (.tmp t)<|.tmp u,ty,pos,af,gd⟩)(he:es[i]?=some (none,.v undef))(V:zz I es ⟨none,.store 224 (.tmp t)<|.tmp u,ty,pos,af,gd⟩ t=some (o0 224 8 N p q))(Z:pg I D es ⟨none,.store 224 (.tmp t)<|.tmp u,ty,pos,af,gd⟩ u=some (kj q))(hs:sl[p]?=some (t,224,8,q))(J:ixB I es sl news i=true)(C:∀x a v,N<a.block->Jq9 x->Jq9 (x.setCell a v))(hl:CO news I D es Jq9 N sl df Q (p+1) l):CO news I D es Jq9 N sl df Q p (i::l):=
 oz Y he (λs x O L U hl H K R=>by
  clear L;let⟨b,f,e,E,hr,_⟩:=hl t _ V;have W:=U u _ Z;let⟨y0,A,y2,F,y4,y5,y6,y⟩:=iE hr;have S:=hr.frozen;have G:=Lr J (Xe hs) e H;clear H;have m:=R undef _ (C _ ⟨b,7,none⟩ (lu q 7) E<|C _ ⟨b,6,none⟩ (lu q 6) E<|C _ ⟨b,5,none⟩ (lu q 5) E<|C _ ⟨b,4,none⟩ (lu q 4) E<|C _ ⟨b,3,none⟩ (lu q 3) E<|C _ ⟨b,2,none⟩ (lu q 2) E<|C _ ⟨b,1,none⟩ (lu q 1) E<|C _ ⟨b,0,none⟩ (lu q 0) E O) ⟨K2,λd T z q' h=>by
   rw[hs]at h;obtain⟨rfl,rfl,rfl,rfl⟩:t=d/\_=T/\8=z/\q=q':=by simpa using h
   exact⟨b,_,e,hr,mG hr<|cX q,λc X n g o h=>li h o _ _ _ _ _ _ _ _,G⟩⟩ (λ_=>rfl) rfl
  clear R U hl G;go_simp;exact m) hl
def ma:Es->Nat->Tl
 |[],_=>[]
 |(_,.inl _)::r,i=>ma r<|i+1
 |(_,.inr _)::r,i=>i::ma r (i+1)
theorem am:∀(es:Es)(k i:Nat)(d:Yt)(T:Kp),es[i]?=some (d,.l T)->k+i∈ma es k
 |[],k,i,d,T,h=>by simp at h
 |(_,.inl _)::r,k,0,d,T,h=>by simp at h
 |(_,.inr _)::r,k,0,d,T,h=>by simp[ma]
 |(_,.inl _)::r,k,i+1,d,T,h=>by have:=am r (k+1) i d T h;rw[(wq:k+1+i=k+(i+1))]at this;exact this
 |(_,.inr _)::r,k,i+1,d,T,h=>by have:=am r (k+1) i d T h;rw[(wq:k+1+i=k+(i+1))]at this;exact IN _ this
def lo1{R:Nat->Yt->Kp->Prop}{d:Yt}{T:Kp}(h:ma es 0=[j])(he:es[j]?=some (d,.l T))(H:R j d T):Tw es R:=λi G E C=>by have:=am es 0 i G E C;rw[h,XF,BY]at this;subst this;grind
def lo2{R:Nat->Yt->Kp->Prop}{d e:Yt}{T C:Kp}(h:ma es 0=[j,k])(he:es[j]?=some (d,.l T))(O:es[k]?=some (e,.l C))(J:R j d T)(L:R k e C):Tw es R:=λi H G E=>by have:=am es 0 i H G E;rw[h,XF,IF,BY]at this;rcases this with rfl|rfl<;>grind
def Wy{T:Nat}{sl:Sl}(C:decide (sl.map Prod.fst).Nodup=true)(E:sl[c]?=some (d,T,z,q)):(∀p s x x',p<sl.length->CJ N sl p s x x'->o0 T z N c q p (iY s<|some d) x->o0 T z N c q (p+1) (iY s<|some d) x')/\∀p v x x',Bl x x'->o0 T z N c q p v x->o0 T z N c q p v x':=⟨λ_ _ _ _ G H h=>H9 C E G H h,λ_ _ _ _ G h=>AIQ h G⟩
def qq{id:Nat}{a:Act}{loads:Tl}(sl:Sl)(O:P.length=sl.length)(J:(news.all λi=> !P.contains i&&decide (i<I.size))=true)(V:Jq9 w)(U:∀x y,Jq9 x->Bl x y->Jq9 y)(E:CO news I D es Jq9 N sl a.defers Q 0 P)(C:LO I D es P (λ_=>Jq9) a.defers Q 0 loads)(H:NO I D es P (λ_=>Jq9) a.defers Q 0 news)(Z:Tw es λ_ d T=>(∀p s x x',p<sl.length->CJ N sl p s x x'->T p (iY s d) x->T (p+1) (iY s d) x')/\∀p v x x',Bl x x'->T p v x->T p v x')(G:∀(g:Vp) x,Jq9 x->(Tw es λi _ T=>T sl.length (g i) x)->(∀j∈news,∀R∈news,j≠R->g j≠g R)->Q .normal (dQ a<|se g es 0) x)(ha:Gr I a D es P loads [] news:=by exact⟨N0,R5,R5,N0⟩):(Code.region id I true).wp prog Q a w:=
 nM news Bl (λx=>dO _ x) (λ_=>Jq9) (CJ N sl) D es P loads [] K2 K2 (λi Y=>by simpa using Xp.1 J i Y) (λ_=>⟨λ_ _ h=>h.size,λ_ _ _ _ h=>h.1⟩) (U _ _ V (dO _ _).drew) (λ_ _ _ h Y=>U _ _ h Y) E C H
  (λi d T L p s x x' _ f _ f h=>(Z i d T L).1 p s x x' wq f h) (λi d T L p v x x' _ Y h=>(Z i d T L).2 p v x x' Y h) (λg x X h=>G g x X (by rw[<-O];exact h)) ha
def swz{Zq9:Nat}(J:I[i]?=some ⟨none,.store 24 (.tmp t)<|.tmp u,ty,pos,af,gd⟩)(he:es[i]?=some (none,.v undef))(H:pg I D es ⟨none,.store 24 (.tmp t)<|.tmp u,ty,pos,af,gd⟩ t=some (pt Zq9))(L:pg I D es ⟨none,.store 24 (.tmp t)<|.tmp u,ty,pos,af,gd⟩ u=some (wv q))(O:∀x,Ph p x->∃f,x.rowIs Zq9 24 4<|dz f)(U:∀x y,Ph p x->y=sC (sC (sC (sC x Zq9 0<|lu q 0) Zq9 1<|lu q 1) Zq9 2<|lu q 2) Zq9 3 (lu q 3)->y.rowIs Zq9 24 4 (dz<|cX q)->Ph (p+1) y)(m:AllOb I es (λp _=>VO I D es Ph (λ_ _ _ _=>True) df Q p) (p+1) l):AllOb I es (λp _=>VO I D es Ph (λ_ _ _ _=>True) df Q p) p (i::l):=oz J he (@λs x E m K C hv G=>by clear E;let⟨f,o⟩:=O x C;have e:=@hv t _ H;have Z:=@hv u _ L;let⟨⟨g,V,h,Y⟩,X⟩:=Fa o;have R:=G undef _ (U x _ C W<|di o<|cX q) AF (λ_=>W) W;clear G hv m;go_simp;exact R) m
def sx{id:Nat}{a:Act}{Zq9:Nat}{loads:Tl}(J:(es.all λp=>p.2.bF)=true)(R:I[c]?=some ⟨none,.store 24 (.tmp t)<|.tmp u,ty,pos,af,gd⟩)(he:es[c]?=some (none,.v undef))(L:pg I D es ⟨none,.store 24 (.tmp t)<|.tmp u,ty,pos,af,gd⟩ t=some (pt Zq9))(U:pg I D es ⟨none,.store 24 (.tmp t)<|.tmp u,ty,pos,af,gd⟩ u=some (wv q))(O:Jq9 w)(G:∀x y,Jq9 x->Bl x y->Jq9 y)(V:∀x,Jq9 x->∃f,x.rowIs Zq9 24 4<|dz f)(X:∀x,Jq9 x->Jq9 (sC (sC (sC (sC x Zq9 0<|lu q 0) Zq9 1<|lu q 1) Zq9 2<|lu q 2) Zq9 3<|lu q 3))(C:LO I D es [c] (λk x=>Jq9 x/\(0<k->x.rowIs Zq9 24 4 (dz<|cX q))) a.defers Q 0 loads)(E:∀(g:Vp) x,Jq9 x->x.rowIs Zq9 24 4 (dz<|cX q)->Q .normal (dQ a<|se g es 0) x)(ha:Gr I a D es [c] loads [] []:=by exact⟨N0,R5,R5,N0⟩):(Code.region id I true).wp prog Q a w:=
 jB Bl (λx=>dO _ x) (λk x=>Jq9 x/\(0<k->x.rowIs Zq9 24 4 (dz<|cX q))) (λ_ _ _ _=>True) D es [c] loads [] K2 K2 ⟨G _ _ O (dO _ _).drew,λh=>absurd h<|Yg 0⟩ (λ_ _ _ h Y=>⟨G _ _ h.1 Y,λZ=>cY (h.2 Z) Y⟩)
  (swz R he L U (λx h=>V x h.1) (λx y h e Y=>⟨by subst e;exact X x h.1,λ_=>Y⟩) True.intro) C (nl J) (nl J) (λg x H _=>E g x H.1<|H.2 Nat.one_pos) ha
end
def Kl(x y:Int):Int:=if x<y then -1 else if y<x then 1 else 0
def sS{x y:Int}:cP 59 #[iU x,iU y] w λe E=>e=.returned (iI<|Kl x y)/\E=w:=by
 unfold Kl;by_cases D:x<y
 .rw[At D];go_enter func59,ntmps59;go_wp2;go_ret;simp
 rw[iF D];by_cases C:y<x
 .rw[At C];go_enter func59,ntmps59;go_wp2;go_ret;simp
 rw[iF C];go_enter func59,ntmps59;go_wp2;go_ret;simp
def gP(a b:Nat):Int:=if a%M<b%M then -1 else if b%M<a%M then 1 else 0
def qF(a b i:Nat)(hi:i<4)(he:∀j,i<j->j<4->cX a j=cX b j)(hn:cX a i≠cX b i\/i=0):Kl (cX a i) (cX b i)=gP a b:=by
 have E:=he 1;have D:=he 2;have C:=he 3;unfold Kl gP M;unfold cX at*;simp only[LP,Li,Ij]at*;rcases k4 hi with rfl|rfl|rfl|rfl
 .have E:=E wq wq;have D:=D wq wq;have C:=C wq wq;simp only[Je]at*;split<;>split<;>(try split)<;>(try split)<;>omega
 .have D:=D wq wq;have C:=C wq wq;simp only[LP]at*;split<;>split<;>(try split)<;>(try split)<;>omega
 .have C:=C wq wq;simp only[Li]at*;split<;>split<;>(try split)<;>(try split)<;>omega
 grind
def ke(a b:Nat)(w:WD):cP 33 #[wv a,wv b] w (rT (iI<|gP a b) w):=by
 go_enter func33,ntmps33;go_wp2;go_loopw[5] (λt5 wr=>∃k:Nat,k<=3/\t5=iI k/\Hd (∀j,k<j->j<4->cX a j=cX b j)/\
   wr.rowIs w.heap.size 24 4 (dz<|cX a)/\wr.rowIs (w.heap.size+1) 24 4 (dz<|cX b)/\bW w wr)
   (λt5 _=>nI t5)
 case atStart=>
  refine⟨3,wq,W,λj P I=>wq,?_,?_,ai (ai (dO _ _) _) _⟩
  .exact(de _ W W W W W).alloc _
  exact de _ K2 W W W W
 obtain⟨k,U,rfl,HE,D,E,C⟩:=hrel;have U:=D.cell (i:=0) wq;have Q:=E.cell (i:=0) wq;have c1:=D.cell (i:=k) wq;have c2:=E.cell (i:=k) wq;simp only[dz]at U Q c1 c2;by_cases O:0<k
 .by_cases G:cX a k=cX b k
  .have J:(cX a k !=cX b k)=false:=K9
   have R:Hd (∀j,k-1<j->j<4->cX a j=cX b j):=λj P I=>by
    by_cases e:j=k
    .grind
    exact HE j wq I
   go_wp2;go_region;all_goals go_wp2
   all_goals go_roundw
   case rel=>exact⟨_,wq,N1,R,D.drew,E.drew,C.drew⟩
   grind[nI]
  have J:(cX a k !=cX b k)=true:=K9
  have H:Hd _:=qF a b k wq HE<|LZ G;go_wp2;go_region;all_goals go_wp2
  all_goals go_region_with (go_at_call 59;refine(sS).mono ?_;rintro e L⟨rfl,rfl⟩)
  all_goals go_wp2
  all_goals go_ret
  all_goals exact⟨Xl (λz=>Ending.returned<|iI z) H,by repeat' (first|exact C|refine Below.drew ?_)⟩
 cases(wq:k=0)
 have H:Hd _:=qF a b 0 wq HE<|A4 W;go_wp2_with(go_at_call 59;refine(sS).mono ?_;rintro e L⟨rfl,rfl⟩);go_ret;exact⟨Xl (λz=>Ending.returned<|Value.int _ z) H,wq⟩
def zy(h:Bool):cP 108 #[.bool h] w (lI w<|jM h):=by
 cases h
 .go_enter func108,ntmps108;go_wp2;refine sp (v:=wv 0) (by simp[results,results108,go_sem,dK]) W<|dZ R5 ?_;grind[ai,dO]
 go_enter func108,ntmps108;go_wp2;refine sp (by rw[<-wv_one];simp[results,results108,go_sem]) W<|dZ R5 ?_;grind[ai,dO]
def Qn(a:Nat)(w:WD):cP 114 #[wv a] w (lI w<|zbA<|a%M):=by refine(TZ a w).mono ?_;grind[dZ,zk,zbA]
theorem WF(a b:Nat)(w:WD):cP 116 #[wv a,wv b] w (lI w<|mX (a%M) b):=by refine(T7 a b w).mono ?_;rintro e C⟨rfl,D⟩;refine dZ ?_ D;rw[<-UP b (Xs _ jm),Yu];simp_all[D1]
def Ju(a b:Nat)(w:WD):cP 117 #[wv a,wv b] w (lI w<|tV (a%M)<|b%M):=by rw[<-jJ b];refine(Uv a (Xs _ jm) w).mono ?_;rintro e C⟨rfl,D⟩;refine dZ ?_ D;rfl
def Bw(a b:Nat)(w:WD):cP 109 #[wv a,wv b] w λe w'=>∃r:Bool,Hd (r=decide (a%M<b%M))/\e=.returned (.bool r)/\bW w w':=(DY a b w).mono λ_ _ h=>⟨_,W,h.1,h.2⟩
def mL(a:Nat)(C:Bool)(h:Hd<|neg a=C)(w:WD):cP 167 #[wv a] w (rT (.bool C) w):=by have:=ol a w;rw[h.aa]at this;omega
structure S2(w:WD)(a b:Nat)(x:WD):Prop where
 ra:x.rowIs w.heap.size 24 4 (dz (cX a))
 rb:x.rowIs (w.heap.size+1) 24 4 (dz (cX b))
 be:Below w.heap.size w x
def S2.call(h:S2 w a b x)(C:bW x y):S2 w a b y:=⟨cY h.ra C,cY h.rb C,eB h.be C⟩
def S2.start(w:WD)(a b:Nat):S2 w a b ((w.alloc<|.cells (lW a) 24).alloc<|.cells (lW b) 24):=⟨de (cX a) W W W W W |>.alloc _,de (cX b) K2 rfl rfl rfl rfl,ai (ai (dO _ _) _) _⟩
structure S3(w:WD)(a b:Nat)(x:WD):Prop where
 ra:x.rowIs w.heap.size 24 4 (dz (cX a))
 rb:x.rowIs (w.heap.size+1) 24 4 (dz (cX b))
 rz:∃f:Nat->Int,x.rowIs (w.heap.size+1+1) 24 4 (dz f)
 be:Below w.heap.size w x
def S3.alloc(h:S3 w a b x)(o:Obj):S3 w a b (x.alloc o):=⟨h.ra.alloc _,h.rb.alloc _,h.rz.imp λ_ h=>h.alloc _,ai h.be _⟩
def S3.call(h:S3 w a b x)(C:bW x y):S3 w a b y:=⟨cY h.ra C,cY h.rb C,h.rz.imp λ_ h=>cY h C,eB h.be C⟩
theorem S3.put(h:S3 w a b x)(r:Nat):S3 w a b (sC (sC (sC (sC x (w.heap.size+1+1) 0<|lu r 0) (w.heap.size+1+1) 1<|lu r 1) (w.heap.size+1+1) 2<|lu r 2) (w.heap.size+1+1) 3<|lu r 3):=by let⟨f,C⟩:=h.rz;exact⟨eC h.ra _ _ _ _,eC h.rb _ _ _ _,⟨_,di C _ W W W W⟩,bd h.be wq⟩
def S3.start(w:WD)(a b:Nat):S3 w a b (aC (aC (aC w (lW a) 24) (lW b) 24) #[iU 0,iU 0,iU 0,iU 0] 24):=⟨de (cX a) W W W W W |>.alloc _ |>.alloc _,de (cX b) K2 W W W W |>.alloc _,⟨λ_=>0,de (λ_=>0) K2 rfl rfl rfl rfl⟩,ai (ai (ai (dO _ _) _) _) _⟩
def RP{nb C:Nat}(E:nb=zbA (b%M))(D:C=tV (a%M) (nb%M))(G:r=zbA (C%M))(hn:neg b=true):r%M=vN (a%M) (b%M)%M:=by unfold vN;rw[gn,hn,At W,G,D,E,WZ<|wE<|b%M,WZ<|wo _<|wE _]
def H8(a b:Nat)(w:WD):cP 118 #[wv a,wv b] w (lI w<|vN (a%M)<|b%M):=by
 let⟨nb,G⟩:=dP<|zbA<|b%M;let⟨I,E⟩:=dP<|tV (a%M)<|nb%M;let⟨r,L⟩:=dP<|zbA<|I%M;obtain⟨H,J⟩:∃H,Hd (neg b=H):=⟨_,W⟩
 have l:=S3.start w a b;go_enter func118,ntmps118;go_wp2_with fail
 refine(mL b H J _).mono ?_;rintro e V⟨rfl,p⟩;replace l:=l.call p;clear p;cases H
 .obtain⟨a0,R,U,a3⟩:=cW l.ra;let⟨P,O,b2,b3⟩:=cW l.rb;go_wp2_with fail
  refine(Ju a b _).mono ?_;rintro e j⟨s,Q,rfl,p⟩;replace l:=l.call p;clear p a0 R U a3 P O b2 b3;let⟨Y,C⟩:=l.rz;let⟨⟨f,X,o,d⟩,Z⟩:=Fa C;go_wp2;refine gY (di C<|cX s) (dZ (by rw[Q.aa];unfold vN;rw[gn,J.aa,iF K3]) ?_);exact(l.put s).be
 go_wp2;refine sx (Jq9:=S3 w a b) (Zq9:=w.heap.size+1+1) (q:=r) (D:=[(2,.pointer _),(3,.pointer _),(4,.pointer _)]) (es:=nV 7 [wv a,wv b,wv nb,wv I,wv r]++[(none,.v undef)]) (c:=5) (loads:=[0,1,2,3,4]) W W W W W l (λ_ _ h p=>h.call p) (λ_ h=>h.rz) (λ_ h=>h.put r)
  (tu W W W (λ_ _ h=>h.1.ra)<|tu W W W (λ_ _ h=>h.1.rb)<|cv W W W (rv (Qn b) G)<|cv W W W (rv (Ju a nb) E)<|cv W W W (rv (Qn I) L) True.intro) ?_
 intro g x l p;simp only[n8,sx9];go_wp2;exact gY p<|dZ (RP G E L J) l.be
def pZ(a b:Nat)(w:WD):cP 110 #[wv a,wv b] w λe w'=>∃r:Bool,Hd (r=vh (a%M) (b%M))/\e=.returned (.bool r)/\bW w w':=by
 obtain⟨C,E⟩:∃C,Hd (neg a=C):=⟨_,W⟩
 obtain⟨nb,G⟩:∃nb,Hd (neg b=nb):=⟨_,W⟩
 have I:=S2.start w a b;go_enter func110,ntmps110;go_wp2;refine qq (Jq9:=S2 w a b) (N:=0) (D:=[(2,.pointer _),(3,.pointer _)]) (es:=nV 5 [wv a,.bool C,wv b,.bool nb,.bool<|C !=nb]) (P:=[]) (loads:=[0,1,2,3]) (news:=[]) [] W W I (λ_ _ h V=>h.call V) True.intro
  (tu W W W (λ_ _ h=>h.ra)<|cv W W W (mL a C E)<|tu W W W (λ_ _ h=>h.rb)<|cv W W W (mL b nb G) True.intro) True.intro
  (nl W) ?_
 intro g x X _ _;simp only[n8,sx9];let⟨Y,R,U,a3⟩:=cW X.ra;let⟨Q,O,b2,b3⟩:=cW X.rb;have H:Hd (vh (a%M) (b%M)=if C !=nb then C else decide (a%M<b%M)):=by show vh _ _=_;unfold vh;rw[gn,gn,E.aa,G.aa]
 cases Y:C !=nb with
 |true=>
  go_wp2_with fail
  refine(mL a _ E _).mono ?_;rintro e J⟨rfl,V⟩;go_wp2;go_ret;exact⟨_,by show _=vh _ _;rw[H.aa,Y];rfl,W,eB X.be V⟩
 |false=>
  go_wp2_with fail
  refine(Bw a b _).mono ?_;rintro e J⟨t,L,rfl,V⟩;go_wp2;go_ret;exact⟨_,by show _=vh _ _;rw[H.aa,Y,L.aa];rfl,W,eB X.be V⟩
def L6(h:decide (a%M<31)=false):b%M=ni (a%M) (b%M)%M:=by grind[ni]
def UB{lf sl:Nat}(h:decide (a%M<31)=true)(E:lf=248-8*(a%M))(D:sl=mX (lf%M) b)(C:r=vN (lf%M) (sl%M)):r%M=ni (a%M) (b%M)%M:=by
 have e:lf%M=lf:=WZ K9;have G:mX lf b=mX lf (b%M):=by simp_all[mX,M]
 unfold ni;rw[At<|Xd h,<-E,C,D,e,WZ<|Cg,G]
def vo(D:k<=256)(h:decide (a%M<k)=true):∃s:Nat,s<k/\s=a%M/\cX a 0=(s:Int):=by have C:=Xd h;refine⟨_,C,W,?_⟩;unfold cX M at*;omega
def JS(a k:Nat)(D:k<18446744073709551616)(t:Bool)(C:Hd<|decide (a%M<k)=t):cP 171 #[wv a,iU (k:Int)] w (rT (.bool t) w):=by have:=oe a k D w;unfold iX at this;rw[WZ (K9:k<M),C.aa]at this;omega
def gc(n:Nat)(h:n<18446744073709551616:=by omega):cX n 0=(n:Int)/\cX n 1=0/\cX n 2=0/\cX n 3=0:=by grind[cX]
def yh(a b:Nat)(w:WD):cP 107 #[wv a,wv b] w (lI w<|ni (a%M)<|b%M):=by
 obtain⟨t,L⟩:∃t,Hd (decide (a%M<31)=t):=⟨_,W⟩
 have l:=S3.start w a b;go_enter func107,ntmps107;go_wp2_with fail
 refine(JS a 31 wq t L).mono ?_;rintro e Q⟨rfl,u⟩;replace l:=l.call u;clear u;cases t
 .obtain⟨S,o,b2,b3⟩:=cW l.rb;let⟨U,G⟩:=l.rz;let⟨⟨T,p,K,A⟩,z⟩:=Fa G;go_wp2;refine gY (di G<|cX b)<|dZ (L6 L) ?_;exact(l.put b).be
 let⟨s,X,J,H⟩:=vo (k:=31) wq L;have P:Hd (s=a%M):=J;let⟨F,d,f,a3⟩:=cW l.ra;rw[H]at F;clear J H d f a3;let⟨E,C⟩:=dP<|248-8*s;let⟨F,I⟩:=dP<|mX (E%M) b;let⟨r,R⟩:=dP<|vN (E%M)<|F%M;have O:w.heap.size+1+1<Q.heap.size:=by let⟨U,G⟩:=l.rz;exact G.lt
 have Y:Hd ((248-8*(s:Int))=cX E 0):=by show _=_;rw[(gc E (by rw[C.aa];omega)).1,C.aa];omega
 have j:Hd _:=(gc E (by rw[C.aa];omega)).2.1.symm;have Z:Hd _:=(gc E (by rw[C.aa];omega)).2.2.1.symm;have V:Hd _:=(gc E (by rw[C.aa];omega)).2.2.2.symm;go_wp2;refine sx (Jq9:=λy=>S3 w a b y/\y.rowIs Q.heap.size 24 4 (dz<|cX E)) (Zq9:=w.heap.size+1+1) (q:=r) (D:=[(3,.pointer _),(4,.pointer _),(5,.pointer _)]) (es:=nV 15 [wv E,wv E,wv b,wv F,wv r]++[(none,.v undef)]) (c:=5) (loads:=[0,1,2,3,4]) W W W W W ⟨l.alloc _,de (cX E) W Y.aa j.aa Z.aa V.aa⟩ (λ_ _ h u=>⟨h.1.call u,cY h.2 u⟩) (λ_ h=>h.1.rz) (λ_ h=>⟨h.1.put r,eC h.2 (hne:=Nat.ne_of_gt O) _ _ _ _⟩)
  (tu W W W (λ_ _ h=>h.1.2)<|tu W W W (λ_ _ h=>h.1.2)<|tu W W W (λ_ _ h=>h.1.1.rb)<|cv W W W (rv (WF E b) I)<|cv W W W (rv (H8 E F) R) True.intro) ?_
 intro g x l u;simp only[n8,sx9];go_wp2;exact gY u<|dZ (UB L (by rw[C.aa,P.aa]) I R) l.1.be
def NH(h:decide (a%M<32)=false):0%M=nj (a%M) (b%M)%M:=by grind[nj]
def Sg(h:decide (a%M<32)=true)(D:k=8*(31-a%M))(C:m=tV (k%M) (b%M)):m%256%M=nj (a%M) (b%M)%M:=by have e:k%M=k:=WZ K9;grind[nj]
def Vv(m:Nat):bits .and .u64 (cX m 0) 255=((m%256:Nat):Int):=by have h:=bits_and_u64_nat (eW m 0) 255 (kM _ _) wq;rw[(Nat.and_two_pow_sub_one_eq_mod _ 8:eW m 0 &&& 255=eW m 0%256)]at h;grind[fL,eW,Je]
def Fy(a b:Nat)(w:WD):cP 115 #[wv a,wv b] w (lI w<|nj (a%M)<|b%M):=by
 obtain⟨t,I⟩:∃t,Hd (decide (a%M<32)=t):=⟨_,W⟩
 have c:=S3.start w a b;go_enter func115,ntmps115;go_wp2_with fail
 refine(JS a 32 wq t I).mono ?_;rintro e A⟨rfl,l⟩;replace c:=c.call l;clear l;cases t
 .obtain⟨Y,C⟩:=c.rz;obtain⟨⟨h,X,p,d⟩,Z⟩:=Fa C;go_wp2;obtain⟨J,q,u,O⟩:=cW<|di C<|λ_=>0;refine sp (by rw[<-sF];simp[results,results115,go_sem,J,q,u,O]) W<|dZ (NH I) ?_;exact bd c.be wq
 obtain⟨s,g,H,E⟩:=vo wq I;have L:Hd _:=H;obtain⟨T,j,o,a3⟩:=cW c.ra;obtain⟨f,U,b2,b3⟩:=cW c.rb;rw[E]at T;clear H E j o a3;obtain⟨k,Q⟩:=dP<|8*(31-s);go_wp2_with fail
 rw[show(8*(31-(s:Int)))=k from by rw[Q.aa];omega,xQ k (by rw[Q.aa];omega)];refine(Ju k b _).mono ?_;rintro e S⟨m,V,rfl,l⟩;replace c:=c.call l;clear l T f U b2 b3;obtain⟨r,P⟩:=dP<|m%256;have R:bits .and .u64 (cX m 0) 255=r:=by rw[P.aa];exact Vv m
 have G:r<18446744073709551616:=by rw[P.aa];omega
 have D:Hd _:=G;clear G;obtain⟨Y,C⟩:=c.rz;obtain⟨⟨h,X,p,d⟩,Z⟩:=Fa C;have z:=C.lt;go_wp2;obtain⟨J,q,u,O⟩:=cW<|di C (cX r) (x0:=r) (x1:=0) (x2:=0) (x3:=0) (gc r D).1.symm (gc r D).2.1.symm (gc r D).2.2.1.symm (gc r D).2.2.2.symm;refine sp (v:=wv r) (by simp[results,results115,go_sem,J,q,u,O,z]) W (dZ (by rw[P.aa];exact Sg I (by rw[Q.aa,L.aa]) V) ?_);exact ai (bd c.be wq) _
def fk{p:Prop}(h:p):Hd p:=h
def fT(n:Nat)(hn:n<9223372036854775808)(w:WD):cP 262 #[iI (n:Int)] w (rT (wv n) w):=by let⟨G,C,g2,J⟩:=gc n;have H:Hd _:=G;have D:Hd _:=C;have E:Hd _:=g2;have I:Hd _:=J;go_enter func262,ntmps262;go_wp2;refine sp (by unfold wv;rw[H.aa,D.aa,E.aa,I.aa];simp[results,results262,go_sem]) W ⟨W,?_⟩;grind[ai,dO]
abbrev wc(n:Nat):Obj:=.cells #[lu n 0,lu n 1,lu n 2,lu n 3] 24
abbrev eI(x:WD)(b n:Nat):=x.rowIs b 24 4<|dz<|cX n
def jf(w:WD)(n:Nat):eI (w.alloc<|wc n) w.heap.size n:=de _ W W W W W
structure W1(w:WD)(a:Nat)(x:WD):Prop where
 ra:eI x w.heap.size a
 be:Below w.heap.size w x
def W1.start(w:WD)(a:Nat):W1 w a (w.alloc<|wc a):=⟨jf w a,ai (dO _ _) _⟩
def W1.alloc(h:W1 w a x)(o:Obj):W1 w a (x.alloc o):=⟨h.ra.alloc _,ai h.be _⟩
def W1.call(h:W1 w a x)(C:bW x y):W1 w a y:=⟨cY h.ra C,eB h.be C⟩
structure W2(w:WD)(a b:Nat)(x:WD):Prop where
 ra:eI x w.heap.size a
 rb:eI x (w.heap.size+1) b
 be:Below w.heap.size w x
def W2.start(w:WD)(a b:Nat):W2 w a b ((w.alloc<|wc a).alloc<|wc b):=⟨(jf w a).alloc _,de _ K2 W W W W,ai (ai (dO _ _) _) _⟩
def W2.call(h:W2 w a b x)(C:bW x y):W2 w a b y:=⟨cY h.ra C,cY h.rb C,eB h.be C⟩
structure W3(w:WD)(a b c:Nat)(x:WD):Prop where
 ra:eI x w.heap.size a
 rb:eI x (w.heap.size+1) b
 rc:eI x (w.heap.size+1+1) c
 be:Below w.heap.size w x
def W3.start(w:WD)(a b c:Nat):W3 w a b c (((w.alloc<|wc a).alloc<|wc b).alloc<|wc c):=⟨((jf w a).alloc _).alloc _,(de (cX b) K2 W W W W).alloc _,de _ K2 W W W W,ai (ai (ai (dO _ _) _) _) _⟩
theorem Jh(a b:Nat):decide (0<gP a b)=decide (b%M<a%M):=by unfold gP;grind
theorem Dw(h:n<9223372036854775808):n%M=n:=WZ K9
def PX(h:a%M<9223372036854775808):cX a 0=((a%M:Nat):Int):=by have h:=(gc<|a%M).1;simp_all[cX,M]
def nu(a n:Nat)(hn:n<9223372036854775808)(ha:a%M<=n)(w:WD):cP 284 #[wv a,iI (n:Int)] w λe w'=>∃m:Nat,Hd (m=a%M)/\e=.returned (.tuple #[iI (m:Int),.bool true])/\bW w w':=by
 have d:decide (0<gP a n)=false:=by grind[Jh,Dw,W8]
 have Z:cX a 0=((a%M:Nat)):=PX wq;obtain⟨m,H⟩:∃m:Nat,m=a%M:=⟨_,W⟩
 rw[<-H]at Z ha;have P:=fk Z;have G:=fk H;clear H Z;have c:(w.alloc _).rowIs _ 24 4 (dz<|cX a):=de _ W W W W W;have I:=fk<|fT n hn;go_enter func284,ntmps284;go_wp2_with fail
 go_region_with (first
  |(go_at_call 262;refine(I _).mono ?_;rintro e U⟨rfl,Z⟩;have D:=cY c.drew Z;let⟨Q,J,R,L⟩:=cW D)
  |(go_at_call 33;refine((fk<|ke a n).aa _).mono ?_;rintro e Y⟨rfl,C⟩))
 all_goals(
  have E:=cY D C;let⟨f,X,V,z3⟩:=cW E;have O:Hd _:=eB (eB (ai (dO _ w) _).drew Z) C;rw[P.aa]at f;clear E D Q J R L Z C c I;go_wp2;go_ret2;exact⟨m,G,W,O⟩)
theorem oh(a n:Nat)(hn:n<9223372036854775808)(ha:n<a%M)(w:WD):cP 284 #[wv a,iI (n:Int)] w (rT (.tuple #[iI 0,.bool false]) w):=by
 have d:decide (0<gP a n)=true:=by grind[Jh,Dw,OsQ]
 have U:(w.alloc _).rowIs _ 24 4 (dz<|cX a):=de _ W W W W W;have E:=fk<|fT n hn;go_enter func284,ntmps284;go_wp2_with fail
 go_region_with (first
  |(go_at_call 262;refine(E _).mono ?_;rintro e O⟨rfl,Q⟩;have D:=cY U.drew Q;let⟨J,G,L,H⟩:=cW D)
  |(go_at_call 33;refine((fk<|ke a n).aa _).mono ?_;rintro e P⟨rfl,C⟩))
 all_goals(
  have I:Hd _:=eB (eB (ai (dO _ w) _).drew Q) C;clear D J G L H Q C U E;go_wp2;go_ret2;exact⟨W,I⟩)
def mt(n:Nat)(hn:n<=200000)(w:WD):cP 287 #[iI (n:Int)] w λe C=>e=.returned (iI (((n+31)/32:Nat):Int))/\C=w:=by go_enter func287,ntmps287;go_wp2;go_ret;refine⟨Xl (λz=>Ending.returned<|Value.int _ z) ?_,W⟩;omega
abbrev jp(p n b:Nat):=p%M<=b/\n%M<=b/\p%M+n%M<=b
def Bq(p n b:Nat)(X:b<1000000)(h:jp p n b)(w:WD):cP 286 #[wv p,wv n,iI (b:Int)] w λe w'=>∃q m:Nat,Hd (q=p%M)/\Hd (m=n%M)/\e=.returned (.tuple #[iI (q:Int),iI (m:Int),.bool true])/\bW w w':=by
 let⟨H,D,I⟩:=h;have J:=fk<|nu p b wq H;have X:=W2.start w p n;go_enter func286,ntmps286;go_wp2_with fail
 refine(J _).mono ?_;rintro e P⟨q,G,rfl,Y⟩;replace X:=X.call Y;let⟨x0,U,R,Q⟩:=cW X.rb;go_wp2_with fail
 refine((fk<|nu n b wq D).aa _).mono ?_;rintro e V⟨m,E,rfl,C⟩;have O:q+m<=b:=by rwa[G.aa,E.aa]
 have d:=dF<|b<(q:Int)+m;have L:=fk<|eB X.be C;clear Y C H D I J;go_wp2
 go_ret3
 exact⟨q,m,G,E,W,L⟩
theorem yn(p n:Nat)(c:b<1000000)(h:¬jp p n b)(w:WD):cP 286 #[wv p,wv n,iI (b:Int)] w (rT (.tuple #[iI 0,iI 0,.bool false]) w):=by
 by_cases G:p%M<=b
 .have H:=fk<|nu p b wq G;by_cases D:n%M<=b
  .have c:=W2.start w p n;go_enter func286,ntmps286;go_wp2_with fail
   refine(H _).mono ?_;rintro e O⟨q,I,rfl,f⟩;replace c:=c.call f;let⟨x0,V,U,Q⟩:=cW c.rb;go_wp2_with fail
   refine((fk<|nu n b wq D).aa _).mono ?_;rintro e X⟨m,P,rfl,C⟩;have Y:b<q+m:=by rw[I.aa,P.aa];omega
   have g:q<=b:=by rwa[I.aa]
   have Z:m<=b:=by rwa[P.aa]
   have d:=dT<|b<(q:Int)+m;have E:=fk<|eB c.be C;clear f C G D h H;go_wp2
   go_ret3
   exact⟨W,E⟩
  have c:=W2.start w p n;go_enter func286,ntmps286;go_wp2_with fail
  refine(H _).mono ?_;rintro e O⟨q,I,rfl,f⟩;replace c:=c.call f;let⟨x0,V,U,Q⟩:=cW c.rb;go_wp2_with fail
  refine((fk<|oh n b wq wq).aa _).mono ?_;rintro e X⟨rfl,C⟩;have E:=fk<|eB c.be C;clear f C G D h H;go_wp2
  go_ret3
  exact⟨W,E⟩
 have R:Hd (∀w,Calls _ _ _ w λe g=>∃(m:Nat)(t:Bool),e=.returned (.tuple #[.int _ _,.bool t])/\Below _ w g):=λw=>by
  by_cases D:n%M<=b
  .exact(nu n b wq D w).mono λe g⟨m,_,L,J⟩=>⟨m,_,L,J⟩
  exact(oh n b wq wq w).mono λe g⟨L,J⟩=>⟨0,_,L,J⟩
 have c:=W2.start w p n;go_enter func286,ntmps286;go_wp2_with fail
 refine((fk<|oh p b wq wq).aa _).mono ?_;rintro e O⟨rfl,f⟩;replace c:=c.call f;let⟨x0,V,U,Q⟩:=cW c.rb;go_wp2_with fail
 refine(R _).mono ?_;rintro e X⟨m,t,rfl,C⟩;have E:=fk<|eB c.be C;clear f C G h R;go_wp2
 go_ret3
 exact⟨W,E⟩
def mS(s:BA)(i:Nat):Nat:=(s.get! i).toNat
theorem rU(s:BA)(i:Nat):mS s i<256:=(s.get! i).toNat_lt
def rW(s:BA)(i:Nat)(h:i<s.size):(s[i]'h).toNat=mS s i:=by
 unfold mS;have e:s.get! i=s[i]'h:=by simp[ByteArray.get!,Zj,h];rfl
 rw[e]
def nx(s:BA)(i:Nat):Nat:=if Utf8.decode s i=(65533,1)then 0 else(Utf8.decode s i).2

def bl(s:BA):Vf:=s.data.toList
theorem ik(s:BA):(bl s).length=s.size:=rfl
def AX(s:BA)(a b:Nat):bl (s.extract a b)=((bl s).drop a).take (b-a):=by simp_all[bl]
theorem xU(s:BA)(i:Nat):mS s i=((bl s).getD i 0).toNat:=by
 unfold mS bl;by_cases h:i<s.size
 .simp_all[ByteArray.get!]
 have e:s.get! i=0:=by exact getElem!_neg _ i<|h
 simp_all
def AH(s:BA):Nat->Nat->Nat->Nat×Bool
 |0,_,k=>(k,true)
 |f+1,p,k=>if p<s.size then(if nx s p=0 then(k,false)else AH s f (p+nx s p)<|k+1)else(k,true)
def bm(s:BA):Nat×Bool:=AH s s.size 0 0

structure SS(w:WD)(a b:Nat)(x:WD):Prop where
 ra:x.rowIs w.heap.size 24 4 (dz (cX a))
 rb:x.rowIs (w.heap.size+1) 24 4 (dz (cX b))
 rz:x.rowIs (w.heap.size+1+1) 24 4 (dz λ_=>0)
 be:Below w.heap.size w x
def SS.call(h:SS w a b x)(C:bW x y):SS w a b y:=⟨cY h.ra C,cY h.rb C,cY h.rz C,eB h.be C⟩
theorem SS.set(h:SS w a b x){p:Addr}(C:w.heap.size+1+1<p.block)(v:VL):SS w a b (x.setCell p v):=⟨h.ra.setOther wq _,h.rb.setOther wq _,h.rz.setOther wq _,h.be.setCell wq _⟩
def SS.start(w:WD)(a b:Nat):SS w a b (aC (aC (aC w (lW a) 24) (lW b) 24) #[iU 0,iU 0,iU 0,iU 0] 24):=⟨de (cX a) W W W W W |>.alloc _ |>.alloc _,de (cX b) K2 W W W W |>.alloc _,de (λ_=>0) K2 rfl rfl rfl rfl,ai (ai (ai (dO _ _) _) _) _⟩
def JM(a b:Nat)(w:WD):cP 100 #[wv a,wv b] w (lI w<|ui (a%M)<|b%M):=by
 let⟨C,E⟩:=dP<|a%M;let⟨q,G⟩:=dP<|C/(b%M);let⟨r,I⟩:=dP<|lM C<|b%M;have H:=SS.start w a b;go_enter func100,ntmps100;go_wp2;refine qq (Jq9:=SS w a b) (N:=w.heap.size+1+1) (D:=[(2,.pointer _),(3,.pointer _)]) (es:=nV 8 [wv a,kj C,wv b,.tuple #[kj q,wv r]]++[(some 7,.v<|.tuple #[kj q,wv r]),(some 12,.v<|kj q),(some 13,.v<|wv r),(some 5,.l<|o0 224 8 (w.heap.size+1+1) 0 q),(some 6,.l<|o0 24 4 (w.heap.size+1+1) 1 r),(none,.v undef),(none,.v undef)]) (P:=[9,10]) (loads:=[0,1,2,3]) (news:=[7,8]) [(5,224,8,q),(6,24,4,r)] W W H (λ_ _ h c=>h.call c)
  (sw8 W W W W W N0 (λ_ _ _ o h=>h.set o _)<|L1 W W W W W N0 (λ_ _ _ o h=>h.set o _) True.intro)
  (tu W W W (λ_ _ h=>h.ra)<|cv W W W (rvg kj (Jq a) E)<|tu W W W (λ_ _ h=>h.rb)<|cv W W W (rv2 (by rw[E.aa];exact WR a) G I) True.intro)
  (al8 W W W N0 (λ_ _ h=>h.rz.lt)<|Uf W W W (λ_ _ h=>h.rz.lt) True.intro)
  (lo2 W W W (Wy W W)<|Wy W W) ?_
 intro g x z o _;obtain⟨p,f,e,u,A,u⟩:=o 7 _ _ W;cases u Nat.two_pos;simp only[n8,sx9];rw[e];clear H o u e;let⟨Z,O,m,R,X,U,V,J⟩:=iE A;go_wp2_with fail
 refine(WM q).mono ?_;rintro e j⟨rfl,c⟩;let⟨⟨x0,d,Y,L⟩,Q,o⟩:=qN q (cY z.rz c)<|eB z.be c;clear c;go_wp2;exact gY (o _ W).1<|dZ (by rw[G.aa,E.aa];rfl) (o _ W).2
def Jn(a b:Nat)(w:WD):cP 102 #[wv a,wv b] w (lI w<|lM (a%M)<|b%M):=by
 let⟨C,E⟩:=dP<|a%M;let⟨q,I⟩:=dP<|C/(b%M);let⟨r,G⟩:=dP<|lM C<|b%M;have H:=SS.start w a b;go_enter func102,ntmps102;go_wp2;refine qq (Jq9:=SS w a b) (N:=w.heap.size+1+1) (D:=[(2,.pointer _),(3,.pointer _)]) (es:=nV 8 [wv a,kj C,wv b,.tuple #[kj q,wv r]]++[(some 7,.v<|.tuple #[kj q,wv r]),(some 12,.v<|kj q),(some 13,.v<|wv r),(some 5,.l<|o0 224 8 (w.heap.size+1+1) 0 q),(some 6,.l<|o0 24 4 (w.heap.size+1+1) 1 r),(none,.v undef),(none,.v undef)]) (P:=[9,10]) (loads:=[0,1,2,3]) (news:=[7,8]) [(5,224,8,q),(6,24,4,r)] W W H (λ_ _ h Y=>h.call Y)
  (sw8 W W W W W N0 (λ_ _ _ Y h=>h.set Y _)<|L1 W W W W W N0 (λ_ _ _ Y h=>h.set Y _) True.intro)
  (tu W W W (λ_ _ h=>h.ra)<|cv W W W (rvg kj (Jq a) E)<|tu W W W (λ_ _ h=>h.rb)<|cv W W W (rv2 (by rw[E.aa];exact WR a) I G) True.intro)
  (al8 W W W N0 (λ_ _ h=>h.rz.lt)<|Uf W W W (λ_ _ h=>h.rz.lt) True.intro)
  (lo2 W W W (Wy W W)<|Wy W W) ?_
 intro g x c Y _;obtain⟨p,f,e,Z,d,Z⟩:=Y 8 _ _ W;cases Z (YS 1);simp only[n8,sx9];rw[e];clear H Y Z e;let⟨U,L,X,Q⟩:=cW d;let⟨⟨x0,V,R,J⟩,O,Y⟩:=qN r c.rz c.be;go_wp2;exact gY (Y _ W).1<|dZ (by rw[G.aa,E.aa]) (Y _ W).2
def rQ(a:Nat)(C:Bool)(h:Hd<|neg a=C)(w:WD):cP 167 #[wv a] w (rT (.bool C) w):=by have:=ol a w;rw[h.aa]at this;omega
def tn{C:Nat}(G:C=gL (a%M))(D:mb=gL (b%M))(E:qd=ui (C%M) (mb%M)):ui (gL<|a%M) (gL<|b%M)=qd:=by rw[E,G,D,WZ<|qQ<|Xs _ jm,WZ<|qQ<|Xs _ jm]
def Ef{C:Nat}(G:C=gL (a%M))(D:mb=gL (b%M))(E:qd=lM (C%M) (mb%M)):lM (gL<|a%M) (gL<|b%M)=qd:=by rw[E,G,D,WZ<|qQ<|Xs _ jm,WZ<|qQ<|Xs _ jm]
def Fc{s:Nat}(h:ui (gL<|a%M) (gL<|b%M)=qd)(hn:(neg a !=neg b)=true)(D:s=mV (qd%M))(C:qd<M):s%M=nQ (a%M) (b%M)%M:=by unfold nQ;rw[gn,gn,hn,At W,h,D,WZ C]
def GV(h:ui (gL<|a%M) (gL<|b%M)=qd)(hn:(neg a !=neg b)=false):qd%M=nQ (a%M) (b%M)%M:=by unfold nQ;rw[gn,gn,hn,iF K3,h]
def Ql{s:Nat}(h:lM (gL<|a%M) (gL<|b%M)=qd)(hn:neg a=true)(D:s=mV (qd%M))(C:qd<M):s%M=od (a%M) (b%M)%M:=by unfold od;rw[gn,hn,At W,h,D,WZ C]
def Pw(h:lM (gL<|a%M) (gL<|b%M)=qd)(hn:neg a=false):qd%M=od (a%M) (b%M)%M:=by unfold od;rw[gn,hn,iF K3,h]
def Ov(a b:Nat)(w:WD):cP 101 #[wv a,wv b] w (lI w<|nQ (a%M)<|b%M):=by
 let⟨O,H⟩:=dP<|gL<|a%M;let⟨mb,G⟩:=dP<|gL<|b%M;let⟨qd,C⟩:=dP<|ui (O%M)<|mb%M;obtain⟨E,J⟩:∃E,Hd (neg a=E):=⟨_,W⟩
 obtain⟨nb,I⟩:∃nb,Hd (neg b=nb):=⟨_,W⟩
 have U:=SS.start w a b;go_enter func101,ntmps101;go_wp2;refine qq (Jq9:=SS w a b) (N:=w.heap.size+1+1) (D:=[(2,.pointer _),(3,.pointer _)]) (es:=nV 6 [wv a,wv O,wv b,wv mb,wv qd]++[(some 5,.l<|o0 24 4 (w.heap.size+1+1) 0 qd),(none,.v undef)]) (P:=[6]) (loads:=[0,1,2,3,4]) (news:=[5]) [(5,24,4,qd)] W W U (λ_ _ h c=>h.call c)
  (L1 W W W W W N0 (λ_ _ _ q h=>h.set q _) True.intro)
  (tu W W W (λ_ _ h=>h.ra)<|cv W W W (rv (lx a) H)<|tu W W W (λ_ _ h=>h.rb)<|cv W W W (rv (lx b) G)<|cv W W W (rv (JM O mb) C) True.intro)
  (Uf W W W (λ_ _ h=>h.rz.lt) True.intro)
  (lo1 W W<|Wy W W) ?_
 intro g x q A _;obtain⟨p,f,e,u,u,S⟩:=A 5 _ _ W;cases S Nat.one_pos;simp only[n8,sx9];rw[e];clear U A S e;go_wp2;refine qq (Jq9:=λy=>SS w a b y/\y.rowIs p 24 4 (dz<|cX qd)) (N:=0) (D:=[(2,.pointer _),(3,.pointer _)]) (es:=nV 11 [wv a,.bool E,wv b,.bool nb,.bool<|E !=nb]) (P:=[]) (loads:=[0,1,2,3]) (news:=[]) [] W W ⟨q,u⟩ (λ_ _ h c=>⟨h.1.call c,cY h.2 c⟩) True.intro
  (tu W W W (λ_ _ h=>h.1.ra)<|cv W W W (rQ a E J)<|tu W W W (λ_ _ h=>h.1.rb)<|cv W W W (rQ b nb I) True.intro) True.intro
  (nl W) ?_
 clear q u;rintro-x ⟨q,u⟩ - -;simp only[n8,sx9];let⟨m,d,z,j⟩:=cW u;have Q:Hd _:=tn H G C;have R:Hd ((neg a !=neg b)=(E !=nb)):=by rw[J.aa,I.aa];rfl
 cases A:E !=nb with
 |false=>let⟨⟨x0,Z,Y,V⟩,X,u⟩:=qN qd q.rz q.be;go_wp2;exact gY (u _ W).1<|dZ (GV Q<|R.trans A) (u _ W).2
 |true=>
  go_wp2_with fail
  refine(oZ qd).mono ?_;rintro e o⟨s,L,rfl,c⟩;let⟨⟨x0,Z,Y,V⟩,X,u⟩:=qN s (cY q.rz c)<|eB q.be c;clear c;go_wp2;exact gY (u _ W).1<|dZ (Fc Q (R.trans A) L (by rw[C.aa];exact IZ<|Xs _ jm)) (u _ W).2
def NJ(a b:Nat)(w:WD):cP 103 #[wv a,wv b] w (lI w<|od (a%M)<|b%M):=by
 let⟨L,H⟩:=dP<|gL<|a%M;let⟨mb,G⟩:=dP<|gL<|b%M;let⟨qd,C⟩:=dP<|lM (L%M)<|mb%M;obtain⟨I,E⟩:∃I,Hd (neg a=I):=⟨_,W⟩
 have V:=SS.start w a b;go_enter func103,ntmps103;go_wp2;refine qq (Jq9:=SS w a b) (N:=w.heap.size+1+1) (D:=[(2,.pointer _),(3,.pointer _)]) (es:=nV 6 [wv a,wv L,wv b,wv mb,wv qd]++[(some 5,.l<|o0 24 4 (w.heap.size+1+1) 0 qd),(none,.v undef)]) (P:=[6]) (loads:=[0,1,2,3,4]) (news:=[5]) [(5,24,4,qd)] W W V (λ_ _ h c=>h.call c)
  (L1 W W W W W N0 (λ_ _ _ q h=>h.set q _) True.intro)
  (tu W W W (λ_ _ h=>h.ra)<|cv W W W (rv (lx a) H)<|tu W W W (λ_ _ h=>h.rb)<|cv W W W (rv (lx b) G)<|cv W W W (rv (Jn L mb) C) True.intro)
  (Uf W W W (λ_ _ h=>h.rz.lt) True.intro)
  (lo1 W W<|Wy W W) ?_
 intro g x q y _;obtain⟨p,f,e,u,u,z⟩:=y 5 _ _ W;cases z Nat.one_pos;simp only[n8,sx9];rw[e];clear V y z e;let⟨U,O,X,Q⟩:=cW q.ra;have R:Hd _:=Ef H G C;go_wp2_with fail
 refine(rQ a I E _).mono ?_;rintro e m⟨rfl,c⟩;replace q:=q.call c;replace u:=cY u c;clear U O X Q c;let⟨U,O,X,Q⟩:=cW u;cases I with
 |false=>let⟨⟨x0,j,d,Y⟩,Z,u⟩:=qN qd q.rz q.be;go_wp2;exact gY (u _ W).1<|dZ (Pw R E) (u _ W).2
 |true=>
  go_wp2_with fail
  refine(oZ qd).mono ?_;rintro e o⟨s,J,rfl,c⟩;let⟨⟨x0,j,d,Y⟩,Z,u⟩:=qN s (cY q.rz c)<|eB q.be c;clear c;go_wp2;exact gY (u _ W).1<|dZ (Ql R E J (by rw[C.aa];exact Tg<|Xs _ jm)) (u _ W).2
def Pk(a b k:Nat):Nat:=a^(b/2^k)%M
def Pk_top(a b L:Nat)(h:b<2^L):Pk a b L=1%M:=by unfold Pk;rw[Yc h,Z7]
def SX(a b:Nat):Pk a b 0=vL a b:=by grind[Pk,vL]
theorem pow_mod(a n:Nat):a^n%M=(a%M)^n%M:=Nat.pow_mod a n M
def Pk_sq(h:p%M=Pk a b (i+1))(C:oH b i=0)(D:r=sr p p):r%M=Pk a b i:=by unfold Pk at*;rw[qv b i,C,Ye,Nat.two_mul,Yw,D];grind[sr,Yu,Nat.mul_mod]
def Pk_mul{s:Nat}(h:p%M=Pk a b (i+1))(C:oH b i=1)(D:r=sr p p)(E:s=sr r a):s%M=Pk a b i:=by
 unfold Pk at*;rw[qv b i,C,Nat.two_mul,Yw,Yw,Nat.pow_one,E,D];unfold sr;have e:p*p%M=a^(b/2^(i+1))*a^(b/2^(i+1))%M:=by grind[Nat.mul_mod]
 simp_all
structure EX(w:WD)(a b:Nat)(x:WD):Prop where
 ra:x.rowIs w.heap.size 24 4 (dz (cX a))
 rb:x.rowIs (w.heap.size+1) 24 4 (dz (cX b))
 rz:x.rowIs (w.heap.size+1+1) 24 4 (dz λ_=>0)
 be:Below w.heap.size w x
def EX.call(h:EX w a b x)(C:bW x y):EX w a b y:=⟨cY h.ra C,cY h.rb C,cY h.rz C,eB h.be C⟩
theorem EX.put(h:EX w a b x)(E D C v3:VL):EX w a b (sC (sC (sC (sC x (w.heap.size+1+1+1) 0 E) (w.heap.size+1+1+1) 1 D) (w.heap.size+1+1+1) 2 C) (w.heap.size+1+1+1) 3 v3):=⟨eC h.ra _ _ _ _,eC h.rb _ _ _ _,eC h.rz _ _ _ _,bd h.be wq⟩
def EX.start(w:WD)(a b:Nat){o:Obj}:EX w a b ((aC (aC (aC w (lW a) 24) (lW b) 24) #[iU 0,iU 0,iU 0,iU 0] 24).alloc o):=⟨de (cX a) W W W W W |>.alloc _ |>.alloc _ |>.alloc _,de (cX b) K2 rfl rfl rfl rfl |>.alloc _ |>.alloc _,de (λ_=>0) K2 rfl rfl rfl rfl |>.alloc _,ai (ai (ai (ai (dO _ _) _) _) _) _⟩
def KL:(1:Int)=cX 1 0/\(0:Int)=cX 1 1/\(0:Int)=cX 1 2/\(0:Int)=cX 1 3:=by grind[cX]
def exp_lt(a:Nat)(t:b<2^(64*4))(w:WD):cP 106 #[wv a,wv b] w (lI w<|vL a b):=by
 have U:Hd _:=t;go_enter func106,ntmps106;go_wp2_with fail
 refine(rx b 4 24 wq U ?_).mono ?_
 .exact de _ K2 W W W W |>.alloc _ |>.alloc _
 rintro e j⟨L,A,I,rfl,rfl⟩;have d:Hd _:=I;go_wp2;go_loopw[6] (λH wr=>∃(k p:Nat),k<=256/\H=iI ((k:Int)-1)/\EX w a b wr/\wr.rowIs (w.heap.size+1+1+1) 24 4 (dz<|cX p)/\Hd (p%M=Pk a b k))
   (λH _=>(intOf H+1).toNat)
 case atStart=>let⟨g,Y,X,Z⟩:=KL;exact⟨L,1,wq,N1,EX.start w a b,de _ K2 g Y X Z,(Pk_top a b L d).symm⟩
 obtain⟨k,p,hk,rfl,C,c,O⟩:=hrel;rcases Nat.eq_zero_or_pos k with rfl|P
 .obtain⟨l,q,u,r3⟩:=cW c;let⟨⟨x0,F,S,o⟩,z⟩:=Fa C.rz;go_wp2;refine gY (di C.rz<|cX p) (dZ (by rw[O.aa,SX,WZ<|VP a b]) ?_);exact bd C.be wq
 obtain⟨i,rfl⟩:∃i,k=i+1:=⟨k-1,wq⟩
 rw[(show((i+1:Nat):Int)-1=i by omega)];let⟨l,q,u,r3⟩:=cW c;go_wp2_with fail
 refine(AK p p).mono ?_;rintro e h⟨r,Q,rfl,n⟩;replace C:=C.call n;replace c:=cY c n;let⟨⟨l,q,u,r3⟩,R⟩:=Fa c;let⟨J,D⟩:=dP<|oH b i;go_wp2_with fail
 replace C:=C.put (iU<|cX r 0) (iU<|cX r 1) (iU<|cX r 2)<|iU<|cX r 3;replace c:=di c (cX r) W W W W;refine(I9 b 4 i 24 wq wq C.rb).mono ?_;rintro e N⟨rfl,rfl⟩;rw[<-D.aa];have V:J<=1:=by rw[D.aa];exact AP b i
 have E:J=0\/J=1:=wq
 rcases E with rfl|rfl
 .go_wp2;go_roundw;case rel=>exact⟨i,r,wq,W,C,c,Pk_sq O D.symm Q⟩
  simp_all[intOf]
 let⟨l,q,u,r3⟩:=cW c;let⟨v,T,K,a3⟩:=cW C.ra;go_wp2_with fail
 refine(AK r a).mono ?_;rintro e m⟨s,f,rfl,G⟩;replace C:=C.call G;replace c:=cY c G;let⟨⟨l,q,u,r3⟩,R⟩:=Fa c;go_wp2;go_roundw;case rel=>exact⟨i,s,wq,W,C.put _ _ _ _,di c _ W W W W,Pk_mul O D.symm Q f⟩
 simp_all[intOf]
def MV(a b:Nat):vL a b=vL (a%M) b:=by grind[vL,pow_mod]
def UV(a b:Nat)(w:WD):cP 106 #[wv a,wv b] w (lI w<|vL (a%M)<|b%M):=by rw[<-jJ b,<-MV];exact exp_lt a (Xs _ jm) w
structure S4(w:WD)(a b c:Nat)(x:WD):Prop where
 ra:x.rowIs w.heap.size 24 4 (dz (cX a))
 rb:x.rowIs (w.heap.size+1) 24 4 (dz (cX b))
 rc:x.rowIs (w.heap.size+1+1) 24 4 (dz (cX c))
 rz:x.rowIs (w.heap.size+1+1+1) 24 4 (dz λ_=>0)
 be:Below w.heap.size w x
def S4.alloc(h:S4 w a b c x)(o:Obj):S4 w a b c (x.alloc o):=⟨h.ra.alloc _,h.rb.alloc _,h.rc.alloc _,h.rz.alloc _,ai h.be _⟩
def S4.call(h:S4 w a b c x)(C:bW x y):S4 w a b c y:=⟨cY h.ra C,cY h.rb C,cY h.rc C,cY h.rz C,eB h.be C⟩
theorem S4.set(h:S4 w a b c x){p:Addr}(C:w.heap.size+1+1+1<p.block)(v:VL):S4 w a b c (x.setCell p v):=⟨h.ra.setOther wq _,h.rb.setOther wq _,h.rc.setOther wq _,h.rz.setOther wq _,h.be.setCell wq _⟩
def S4.start(w:WD)(a b c:Nat):S4 w a b c (aC (aC (aC (aC w (lW a) 24) (lW b) 24) (lW c) 24) #[iU 0,iU 0,iU 0,iU 0] 24):=⟨de (cX a) W W W W W |>.alloc _ |>.alloc _ |>.alloc _,de (cX b) K2 rfl rfl rfl rfl |>.alloc _ |>.alloc _,de (cX c) K2 rfl rfl rfl rfl |>.alloc _,de (λ_=>0) K2 W W W W,ai (ai (ai (ai (dO _ _) _) _) _) _⟩
def Mr(a b:Nat):lQ a b<2^(64*8):=by have C:a%M*(b%M)<M*M:=Nat.mul_lt_mul'' (Xs _ jm)<|Xs _ jm;grind[lQ]
def FzQ(a b c:Nat)(w:WD):cP 105 #[wv a,wv b,wv c] w (lI w<|sE (a%M) (b%M)<|c%M):=by
 let⟨pr,C⟩:=dP<|lQ a b;let⟨q,H⟩:=dP<|pr/(c%M);let⟨r,E⟩:=dP<|lM pr<|c%M;have G:=S4.start w a b c;go_enter func105,ntmps105;go_wp2;refine qq (Jq9:=S4 w a b c) (N:=w.heap.size+1+1+1) (D:=[(3,.pointer _),(4,.pointer _),(5,.pointer _)]) (es:=nV 10 [wv a,wv b,kj pr,wv c,.tuple #[kj q,wv r]]++[(some 9,.v<|.tuple #[kj q,wv r]),(some 15,.v<|kj q),(some 16,.v<|wv r),(some 7,.l<|o0 224 8 (w.heap.size+1+1+1) 0 q),(some 8,.l<|o0 24 4 (w.heap.size+1+1+1) 1 r),(none,.v undef),(none,.v undef)]) (P:=[10,11]) (loads:=[0,1,2,3,4]) (news:=[8,9]) [(7,224,8,q),(8,24,4,r)] W W G (λ_ _ h X=>h.call X)
  (sw8 W W W W W N0 (λ_ _ _ X h=>h.set X _)<|L1 W W W W W N0 (λ_ _ _ X h=>h.set X _) True.intro)
  (tu W W W (λ_ _ h=>h.ra)<|tu W W W (λ_ _ h=>h.rb)<|cv W W W (rvg kj (wU a b) C)<|tu W W W (λ_ _ h=>h.rc)<|cv W W W (rv2 (by rw[C.aa];exact Mr a b) H E) True.intro)
  (al8 W W W N0 (λ_ _ h=>h.rz.lt)<|Uf W W W (λ_ _ h=>h.rz.lt) True.intro)
  (lo2 W W W (Wy W W)<|Wy W W) ?_
 intro g x Z X _;obtain⟨p,f,e,Y,d,Y⟩:=X 9 _ _ W;cases Y (YS 1);simp only[n8,sx9];rw[e];clear G X Y e;let⟨R,J,V,O⟩:=cW d;let⟨⟨x0,U,Q,I⟩,L,X⟩:=qN r Z.rz Z.be;go_wp2;exact gY (X _ W).1<|dZ (by rw[E.aa,C.aa];rfl) (X _ W).2
def sum_le(x:Nat)(hn:257<=n)(h:x<2*M):x<2^n:=by
 have e:2*2^(n-1)=2^n:=by rw[YC,<-ZY];grind
 grind[Eg]
def sum_lt(a b:Nat):a%M+b%M<2^(64*8):=K9
def xl(n j:Nat)(h:n<2*M)(C:5<=j:=by omega):cX n j=0:=by rw[fL];unfold eW;rw[Yc<|sum_le n wq h];rfl
def Md(a b s k:Nat)(G:s=a+b)(E:k=cy a b 4):cX s 0=cX (a%M+b%M) 0/\cX s 1=cX (a%M+b%M) 1/\cX s 2=cX (a%M+b%M) 2/\cX s 3=cX (a%M+b%M) 3/\(k:Int)=cX (a%M+b%M) 4/\(0:Int)=cX (a%M+b%M) 5/\(0:Int)=cX (a%M+b%M) 6/\(0:Int)=cX (a%M+b%M) 7:=by
 have D:=Xs a jm;have C:=Xs b jm;subst G E;refine⟨?_,?_,?_,?_,?_,(xl _ 5 wq).symm,(xl _ 6 wq).symm,(xl _ 7 wq).symm⟩
 .unfold cX M;omega
 .unfold cX M;omega
 .unfold cX M;omega
 .unfold cX M;omega
 unfold cX cy M at*;omega
def Hg(a b c:Nat)(w:WD):Calls prog 104 #[wv a,wv b,wv c] w (lI w<|tA (a%M) (b%M)<|c%M):=by
 have l:=S4.start w a b c;go_enter func104,ntmps104;go_wp2_with fail
 refine(pO a b).mono ?_;rintro e p⟨s,k,j,m,rfl,u⟩;replace l:=l.call u;clear u;go_wp2_with fail
 refine(Af _).mono ?_;rintro e N⟨rfl,u⟩;replace l:=(l.alloc _).call u;clear u;obtain⟨n,D⟩:∃n,Hd (n=a%M+b%M):=⟨_,W⟩
 obtain⟨G,I,g2,O,t,J,E,H⟩:cX s 0=cX n 0/\cX s 1=cX n 1/\cX s 2=cX n 2/\cX s 3=cX n 3/\k=cX n 4/\0=cX n 5/\0=cX n 6/\0=cX n 7:=by
  rw[D.aa];exact Md a b s k j.aa m.aa
 have Y:Hd _:=G;have o:Hd _:=I;have h:Hd _:=g2;have d:Hd _:=O;have R:Hd _:=t;have g:Hd _:=J;have V:Hd _:=E;have X:Hd _:=H;clear G I g2 O t J E H;obtain⟨c0,c1,c2,c3⟩:=cW l.rc;have zc:=l.rc.lt;go_wp2_with fail
 have i:Value.agg #[.int .u64<|cX s 0,.int .u64<|cX s 1,.int .u64<|cX s 2,.int .u64<|cX s 3,.int .u64 k,.int .u64 0,.int .u64 0,.int .u64 0]=kj n:=by
  unfold kj;rw[Y.aa,o.aa,h.aa,d.aa,R.aa,<-g.aa,<-V.aa,<-X.aa]
 rw[i];refine(qz n c (by rw[D.aa];grind) _).mono ?_;rintro e Q⟨q,r,S,f,rfl,u⟩;replace l:=(l.alloc _).call u;clear u i c0 c1 c2 c3 zc;have C:=l.rz;have L:=l.be;have z:=C.lt;have U:w.heap.size+1+1+1<Q.heap.size+1:=Nat.lt_succ_of_lt z;obtain⟨⟨x0,F,K,A⟩,T⟩:=Fa C;go_wp2;obtain⟨P,q1,q2,Z⟩:=cW<|di C<|cX r;refine sp (v:=wv r) (by simp[results,results104,go_sem,P,q1,q2,Z,z,U]) W<|dZ (by rw[f.aa,D.aa];rfl) ?_
 grind[ai,bd]
def ep(J a b c:Nat):Nat:=
 if J=1 then kQ a b else if J=2 then sr a b else if J=3 then ku a b else if J=4 then ui a b else if J=5 then nQ a b else if J=6 then lM a b else if J=7 then od a b
 else if J=8 then tA a b c else if J=9 then sE a b c else if J=10 then vL a b else if J=11 then ni a b
 else if J=16 then jM (decide (a<b))else if J=17 then jM (decide (b<a))else if J=18 then jM (vh a b)else if J=19 then jM (vh b a)else if J=20 then jM (decide (a=b))else if J=21 then jM<|decide (a=0)
 else if J=22 then a &&& b else if J=23 then a ||| b else if J=24 then a ^^^ b else if J=25 then zbA a else if J=26 then nj a b else if J=27 then mX a b else if J=28 then tV a b else if J=29 then vN a b else 0
def ny(J:Nat):Int:=if 1<=J/\J<=11\/16<=J/\J<=29 then 0 else 1
def lN(w:WD)(n:Nat)(k:Int)(e:Ending)(w':WD):=∃r:Nat,Hd (r=n)/\e=.returned (.tuple #[wv r,.int .i64 k])/\bW w w'
def fV{k:Int}(h:r%M=n%M)(C:bW w w'):lN w n k (.returned<|.tuple #[wv r,iI k]) w':=⟨n,W,Xl Ending.returned<|by rw[iL h],C⟩
theorem Ut(a b:Nat):(a &&& b)%M=(a%M &&& b%M)%M:=by rw[vF];apply XY;intro i;simp only[XQ,Nat.testBit_and];cases decide (i<256)<;>simp
theorem or_mod(a b:Nat):(a ||| b)%M=(a%M ||| b%M)%M:=by rw[vF];apply XY;intro i;simp only[XQ,ZM];cases decide (i<256)<;>simp
theorem Vu(a b:Nat):(a ^^^ b)%M=(a%M ^^^ b%M)%M:=by rw[vF];apply XY;intro i;simp only[XQ,Nat.testBit_xor];cases decide (i<256)<;>simp
def U0(a b:Nat):kQ a b=kQ (a%M) (b%M):=by grind[kQ]
def Vx(a b:Nat):sr a b=sr (a%M) (b%M):=by simp_all[sr]
def VD(a b:Nat):ku a b=ku (a%M) b:=by simp_all[ku,M]
def UA(a b:Nat):mX a b=mX a (b%M):=by simp_all[mX,M]
def ah{p q:Prop}(h:q)(e:p):p/\Hd q:=⟨e,h⟩
def add_w(a b:Nat)(w:WD):cP 97 #[wv a,wv b] w (lI w<|kQ (a%M)<|b%M):=by rw[<-U0];grind[Vb]
def mul_w(a b:Nat)(w:WD):cP 98 #[wv a,wv b] w (lI w<|sr (a%M)<|b%M):=by rw[<-Vx];grind[AK]
def sub_w(a b:Nat)(w:WD):cP 99 #[wv a,wv b] w (lI w<|ku (a%M)<|b%M):=by rw[<-VD];grind[I3]
def shl_v(a b:Nat)(w:WD):cP 116 #[wv a,wv b] w (lI w<|mX (a%M)<|b%M):=by rw[<-UA];grind[WF]
def and_w(a b:Nat)(w:WD):cP 111 #[wv a,wv b] w (lI w<|a%M &&& b%M):=by refine(iO a b (.inl ⟨W,zf a b⟩) w).mono ?_;grind[dZ,Ut]
def or_w(a b:Nat)(w:WD):cP 112 #[wv a,wv b] w (lI w (a%M ||| b%M)):=by refine(iO a b (.inr<|.inl ⟨W,tz a b⟩) w).mono ?_;grind[dZ,or_mod]
def xor_w(a b:Nat)(w:WD):cP 113 #[wv a,wv b] w (lI w<|a%M ^^^ b%M):=by refine(iO a b (.inr<|.inr ⟨W,zo a b⟩) w).mono ?_;grind[dZ,Vu]
theorem ar_all(J:Nat)(h:J=1\/J=2\/J=3\/J=4\/J=5\/J=6\/J=7\/J=8\/J=9\/J=10\/J=11)(a b c:Nat)(w:WD):cP 62 #[iB (J:Int),wv a,wv b,wv c] w (lN w (ep J (a%M) (b%M)<|c%M) 0):=by
 rcases h.imp (ah λw=>add_w a b w) (Z5 (ah λw=>mul_w a b w)<|Z5 (ah λw=>sub_w a b w)<|Z5 (ah λw=>JM a b w)<|Z5 (ah λw=>Ov a b w)<|Z5 (ah λw=>Jn a b w)<|Z5 (ah λw=>NJ a b w)<|Z5 (ah λw=>Hg a b c w)<|Z5 (ah λw=>FzQ a b c w)<|Z5 (ah λw=>UV a b w)<|ah λw=>yh a b w)with⟨rfl,P⟩|⟨rfl,P⟩|⟨rfl,P⟩|⟨rfl,P⟩|⟨rfl,P⟩|⟨rfl,P⟩|⟨rfl,P⟩|⟨rfl,P⟩|⟨rfl,P⟩|⟨rfl,P⟩|⟨rfl,P⟩;all_goals
  have Q:=S4.start w a b c;go_enter func62,ntmps62;go_wp2_with fail
  refine(P _).mono ?_;rintro e G⟨s,E,rfl,P⟩;replace Q:=Q.call P;have C:=Q.rz;have D:=Q.be;let⟨⟨x0,O,L,H⟩,I⟩:=Fa C;go_wp2;refine nr (di C<|cX s)<|fV (by rw[E.aa];rfl)<|bd D wq
theorem bi_all(J:Nat)(h:J=22\/J=23\/J=24\/J=25\/J=26\/J=27\/J=28\/J=29)(a b c:Nat)(w:WD):cP 64 #[iB (J:Int),wv a,wv b] w (lN w (ep J (a%M) (b%M)<|c%M) 0):=by
 rcases h.imp (ah λw=>and_w a b w) (Z5 (ah λw=>or_w a b w)<|Z5 (ah λw=>xor_w a b w)<|Z5 (ah λw=>Qn a w)<|Z5 (ah λw=>Fy a b w)<|Z5 (ah λw=>shl_v a b w)<|Z5 (ah λw=>Ju a b w)<|ah λw=>H8 a b w)with⟨rfl,P⟩|⟨rfl,P⟩|⟨rfl,P⟩|⟨rfl,P⟩|⟨rfl,P⟩|⟨rfl,P⟩|⟨rfl,P⟩|⟨rfl,P⟩;all_goals
  have Q:=SS.start w a b;go_enter func64,ntmps64;go_wp2_with fail
  refine(P _).mono ?_;rintro e G⟨s,E,rfl,P⟩;replace Q:=Q.call P;have C:=Q.rz;have D:=Q.be;let⟨⟨x0,O,L,H⟩,I⟩:=Fa C;go_wp2;refine nr (di C<|cX s)<|fV (by rw[E.aa];rfl)<|bd D wq
theorem co_all(J:Nat)(h:J=16\/J=17\/J=18\/J=19)(a b c:Nat)(w:WD):cP 63 #[iB (J:Int),wv a,wv b] w (lN w (ep J (a%M) (b%M)<|c%M) 0):=by
 rcases h.imp (ah λw=>Bw a b w) (Z5 (ah λw=>Bw b a w)<|Z5 (ah λw=>pZ a b w)<|ah λw=>pZ b a w)with⟨rfl,V⟩|⟨rfl,V⟩|⟨rfl,V⟩|⟨rfl,V⟩;all_goals
  have U:=SS.start w a b;go_enter func63,ntmps63;go_wp2_with fail
  refine(V _).mono ?_;rintro e H⟨t,G,rfl,V⟩;replace U:=U.call V;go_wp2_with fail
  refine(zy t).mono ?_;rintro e Q⟨s,E,rfl,V⟩;replace U:=U.call V;have C:=U.rz;have D:=U.be;let⟨⟨x0,P,O,I⟩,L⟩:=Fa C;go_wp2;refine nr (di C<|cX s)<|fV (by rw[E.aa,G.aa];rfl)<|bd D wq
theorem co_eq(J:Nat)(h:J=20\/J=21)(a b c:Nat)(w:WD):cP 63 #[iB (J:Int),wv a,wv b] w (lN w (ep J (a%M) (b%M)<|c%M) 0):=by
 rcases h.imp (λe:J=20=>(⟨_,e,rfl,λw=>by rw[ig];rfl⟩:∃t:Bool,J=20/\Hd (t=decide (a%M=b%M))/\∀w,(Op.equalIn 10000 24 (wv a)<|wv b).run prog w=.ok t w)) (λe:J=21=>(⟨_,e,rfl,λw=>by rw[pJ];rfl⟩:∃t:Bool,J=21/\Hd (t=decide (a%M=0))/\∀w,(Op.equalIn _ 24 _ _).run _ w=.ok t w))with⟨t,rfl,HT,he⟩|⟨t,rfl,HT,he⟩;all_goals
  have O:=SS.start w a b;go_enter func63,ntmps63;go_wp2_with fail
  refine(zy t).mono ?_;rintro e L⟨s,D,rfl,P⟩;replace O:=O.call P;have C:=O.rz;let⟨⟨x0,I,H,E⟩,G⟩:=Fa C;go_wp2;refine nr (di C<|cX s)<|fV (by rw[D.aa,HT.aa];rfl)<|bd O.be wq
def ar_no(J:Nat)(h:J=0)(a b c:Nat)(w:WD):cP 62 #[iB (J:Int),wv a,wv b,wv c] w (lN w 0 1):=by subst h;go_enter func62,ntmps62;go_wp2;exact sp (by rw[<-sF];simp[results,results62,go_sem]) W<|fV W (S4.start w a b c).be
def co_no(J:Nat)(h:J=12\/J=13\/J=14\/J=15)(a b c:Nat)(w:WD):cP 63 #[iB (J:Int),wv a,wv b] w (lN w 0 1):=by
 rcases h with rfl|rfl|rfl|rfl;all_goals
  have C:=SS.start w a b;go_enter func63,ntmps63;go_wp2;exact sp (v:=.tuple #[wv 0,iI 1]) (by rw[<-sF];simp[results,results63,go_sem]) W<|fV W C.be
def bi_no(J:Nat)(h:30<=J/\J<=255)(a b c:Nat)(w:WD):cP 64 #[iB (J:Int),wv a,wv b] w (lN w 0 1):=by let⟨D,C⟩:=h;go_enter func64,ntmps64;go_wp2;exact sp (by rw[<-sF];simp[results,results64,go_sem]) W<|fV W (SS.start w a b).be
def hidw{p:Prop}(h:p):Hd p:=h
def ar_any(J:Nat)(C:J<=11)(a b c:Nat)(w:WD):cP 62 #[iB (J:Int),wv a,wv b,wv c] w (lN w (ep J (a%M) (b%M)<|c%M)<|ny J):=by
 by_cases h:J=0
 .subst h;exact ar_no 0 W a b c w
 rw[show ny J=0 from At wq];grind[ar_all]
def co_any(J:Nat)(C:12<=J)(D:J<=21)(a b c:Nat)(w:WD):cP 63 #[iB (J:Int),wv a,wv b] w (lN w (ep J (a%M) (b%M)<|c%M)<|ny J):=by
 by_cases h:J<=15
 .rw[(by unfold ep;repeat rw[AQ]:ep J _ _ _=0),show ny J=1 from iF wq];exact co_no J wq a b c w
 rw[show ny J=0 from At wq];grind[co_all,co_eq]
def bi_any(J:Nat)(C:22<=J)(D:J<=255)(a b c:Nat)(w:WD):cP 64 #[iB (J:Int),wv a,wv b] w (lN w (ep J (a%M) (b%M)<|c%M)<|ny J):=by
 by_cases h:J<=29
 .rw[show ny J=0 from At wq];grind[bi_all]
 rw[(by unfold ep;repeat rw[AQ]:ep J _ _ _=0),show ny J=1 from iF wq];exact bi_no J wq a b c w
def tR(J:Nat)(E:J<=255)(a b c:Nat)(w:WD):cP 36 #[iB (J:Int),wv a,wv b,wv c] w (lN w (ep J (a%M) (b%M)<|c%M)<|ny J):=by
 rcases(wq:J<=11\/(12<=J/\J<=21)\/22<=J).imp (λh=>aIn h<|hidw λw=>ar_any J h a b c w) (Z5 (λh=>aIn h<|hidw λw=>co_any J h.1 h.2 a b c w)<|λh=>aIn h<|hidw λw=>bi_any J h E a b c w)with⟨h,D⟩|⟨⟨h,I⟩,D⟩|⟨h,D⟩;all_goals
  have U:=S4.start w a b c;go_enter func36,ntmps36;go_wp2_with fail
  refine(D _).mono ?_;rintro e H⟨s,G,rfl,V⟩;replace U:=U.call V;have C:=U.rz;let⟨⟨x0,Q,P,L⟩,O⟩:=Fa C;go_wp2;refine nr (di C<|cX s)<|fV (by rw[G.aa])<|bd U.be wq

def eo(t d:Nat)(he:tG s t<|pt b)(I:x.rowIs b 24 4<|dz<|cX n)(C:K (Wb s d<|wv n) x):Oper.wp prog ⟨some d,.load 24<|.tmp t,24,pos,af,gd⟩ s x K Q:=by let⟨D,G,H,E⟩:=cW I;go_simp;exact C
def gW(he:s.tmps.getD t undef=v)(C:K (Wb s d v) x){D:Vr}:Oper.wp prog ⟨some d,.move<|.tmp t,D,pos,af,gd⟩ s x K Q:=by go_simp;rw[he] at*;exact C
def nY(t d:Nat)(he:s.tmps.getD t undef=v)(C:K (Wb s d v) x){D:Vr}:Oper.wp prog ⟨some d,.assign<|.tmp t,D,pos,af,gd⟩ s x K Q:=by go_simp;rw[he] at*;exact C

def GN(z:Int)(D:0<=z)(C:z<=20000):IntKind.i64.wrap z=z:=by rw[IntKind.wrap_i64];omega
def JD(k c:Nat)(E:k<200)(D:c<100)(he:tG s t<|iI (k:Int))(C:K (Wb s d<|iI ((k+c:Nat):Int)) x){E:Vr}:Oper.wp prog ⟨some d,.binOp .add 3 (.tmp t) (.const<|iI (c:Int)) 3,E,pos,af,gd⟩ s x K Q:=by rw[Int.natCast_add]at C;have E:=GN (k+c) wq wq;go_simp;exact C

def sf(t suf:BA):Bool:=decide (suf.size<=t.size)&&((t.extract (t.size-suf.size) t.size).toList==suf.toList)
def x0:BA:=⟨#[48,120]⟩
section
open Go.RowKit Go.Lib
end
section
variable {P:Program}
end
theorem qy(n j:Nat):n.testBit j=decide (n/2^j%2=1):=K9
def lb(n i:Nat):Nat:=n/2^(64*i)%18446744073709551616
def wA(n i:Nat):cX n i=(lb n i:Int):=rfl
theorem lb_bit(n i k:Nat)(E:k<64):lb n i/2^k%2=n/2^(64*i+k)%2:=by
 have D:=Y4 (x:=lb n i) (i:=k);have C:=Y4 (x:=n) (i:=64*i+k);have h:(lb n i).testBit k=n.testBit (64*i+k):=by unfold lb;rw[Ba,XQ,XZ,OsQ E,YG];congr 1;omega
 grind
def wZ(n i k:Nat)(C:k<64):decide (lb n i/2^k%2=1)=n.testBit (64*i+k):=by grind[qy,lb_bit]
theorem Bb(x k:Nat):x/2^k/2=x/2^(k+1):=by rw[ZZ,ZY]
theorem my(x k:Nat):x/2^k=2*(x/2^(k+1))+(if x.testBit k then 1 else 0):=by grind[qy,Bb,Nat.mod_two_eq_zero_or_one]
def IOQ(n i:Nat):lb n i<18446744073709551616:=Xs _ K3
def lb_top(n i:Nat):lb n i/2^64=0:=Yc<|IOQ n i
def Sv(n i k:Nat)(C:k<64):lb n i/2^k=2*(lb n i/2^(k+1))+(if n.testBit (64*i+k)then 1 else 0):=by rw[my,qy,wZ n i k C]
def oo{L:Nat}(h:n<2^L)(C:L<=j):n.testBit j=false:=Nat.testBit_lt_two_pow<|Xg h<|Yh K3 C
def cb(x y i:Nat):Bool:=decide (2^i<=x%2^i+y%2^i)
theorem cb0(x y:Nat):cb x y 0=false:=by grind[cb]
theorem vk(x i:Nat):x%2^(i+1)=x%2^i+(if x.testBit i then 2^i else 0):=by
 have C:x%2^(i+1)=x%2^i+2^i*(x/2^i%2):=by rw[ZY,Nat.mod_mul]
 grind
theorem Mf(x y i:Nat):(x+y)/2^i=x/2^i+y/2^i+(if cb x y i then 1 else 0):=by
 have H:=Yq i;have D:=Zu x<|2^i;have C:=Zu y<|2^i;have G:=Xs x H;have E:=Xs y H;unfold cb;rw[(K9:x+y=2^i*(x/2^i+y/2^i)+(x%2^i+y%2^i)),Nat.mul_add_div H];clear D C;by_cases h:2^i<=x%2^i+y%2^i
 .rw[OsQ h,At W];have:(x%2^i+y%2^i)/2^i=1:=by rw[Nat.div_eq_iff H];omega
  omega
 grind[W8,Yc,Zc]
theorem xt(x y i:Nat):(x+y).testBit i=((x.testBit i !=y.testBit i) !=cb x y i):=by grind[Mf,qy,Nat.mod_two_eq_zero_or_one,cb]
def Cf(x y i:Nat):cb x y (i+1)=((x.testBit i&&y.testBit i)||(x.testBit i&&cb x y i)||(y.testBit i&&cb x y i)):=by have E:=Yq i;have C:=Xs x E;have D:=Xs y E;grind[cb,vk,ZY]
def cb_top{x y:Nat}(C:x<2^i)(D:y<2^i):cb x y i=(x+y).testBit i:=by rw[xt,oo C<|DO _,oo D<|DO _];simp
def sv(o x:Nat)(j:Nat)(D:x<2^p)(C:cb o x p=false)(E:p<=j):(o+x).testBit j=o.testBit j:=by have h:=Mf o x p;rw[C,Yc D]at h;have t:=Xl (λn=>Nat.testBit n<|j-p) (show(o+x)/2^p=o/2^p by simpa using h);simp only[XZ]at t;rwa[(wq:j-p+p=j)]at t
def QR(n b i:Nat)(G:0<b):let r:=2*(n/2^(i+1)%b)+(if n.testBit i then 1 else 0)
  (n/b).testBit i=decide (b<=r)/\n/2^i%b=(if b<=r then r-b else r)/\r<2*b:=by
 intro r;have H:=my n i;have D:n/2^(i+1)%b<b:=Xs _ G;have H:=Zu (n/2^(i+1)) b;obtain⟨t,E,C⟩:∃t,t=(if n.testBit i then 1 else 0)/\t<=1:=⟨_,W,K9⟩
 have e:n/2^i=b*(2*(n/2^(i+1)/b))+r:=K9
 have q:(n/b)/2^i=2*(n/2^(i+1)/b)+r/b:=by grind[ZZ,YC,Nat.mul_add_div]
 refine⟨?_,?_,(wq:r<2*b)⟩
 .rw[qy,q];by_cases h:b<=r
  .have:r/b=1:=by rw[Nat.div_eq_iff G];omega
   rw[this,OsQ h];simp
  rw[Yc<|Zc h,W8 h];simp
 rw[(by rw[e,Nat.mul_add_mod]:n/2^i%b=r%b)];by_cases h:b<=r
 .rw[At h,Nat.mod_eq_sub_mod h,WZ wq]
 rw[iF h,WZ<|Zc h]
theorem JJ(a b i:Nat):a^(b/2^i)=(a^(b/2^(i+1))*a^(b/2^(i+1)))*(if b.testBit i then a else 1):=by
 rw[my b i];cases b.testBit i
 .simp[Nat.two_mul,Yw]
 simp[Nat.two_mul,Yw,ZY]
def dY(f:Nat->Bool):Vp:=λi=>.bool<|f i
def jQ{t:Vr}{f g:Nat->Bool}(h:w.rowIs b t n<|dY λi=>if i<k then f i else g i){x:Bool}(C:x=f k):(w.setCell ⟨b,k,none⟩<|.bool x).rowIs b t n (dY λi=>if i<k+1 then f i else g i):=by subst C;refine(h.set k _).congr λi _=>?_;grind[dY]
def OJ{t:Vr}{f g:Nat->Int}(h:w.rowIs b t n<|dz λi=>if k+1<=i then f i else g i){x:Int}(C:x=f k):(w.setCell ⟨b,k,none⟩<|iU x).rowIs b t n (dz λi=>if k<=i then f i else g i):=by subst C;refine(h.set k _).congr λi _=>?_;grind[dz]
def KM{t:Vr}{f g:Nat->Bool}(h:w.rowIs b t n<|dY λi=>if k+1<=i then f i else g i){x:Bool}(C:x=f k):(w.setCell ⟨b,k,none⟩<|.bool x).rowIs b t n (dY λi=>if k<=i then f i else g i):=by subst C;refine(h.set k _).congr λi _=>?_;grind[dY]
theorem bR{t:Vr}{f:Nat->Bool}(D:b=w.heap.size)(h:∀j,j<n->f j=false):(w.alloc<|.cells (madeCells #[.bool false] n) t).rowIs b t n (dY f):=by subst D;exact(World.rowIs_made w _ n t).congr λj C=>by grind[dY]
def SN{v:Nat}{t:Bool}(h:decide (v%2=1)=t):((v:Int)%2==1)=t:=by rw[<-h];grind
def jA(n:Nat)(hn:n<=281474976710656)(w:WD):(Instr.makeSlice 233 (iI (n:Int))<|iI (n:Int)).run prog w=.ok (sL w.heap.size n n) (w.alloc<|.cells (madeCells #[.bool false] n) 4):=run_make_row' 233 4 (.bool false) 1 N0 N0 W .i64 .i64 n wq wq w
def gw(n:Nat)(w:WD):cP 174 #[wv n] w λe w'=>∃b,e=.returned (sL b 256 256)/\w.heap.size<=b/\w'.rowIs b 4 256 (dY n.testBit)/\bW w w':=by
 go_enter func174,ntmps174;have O:=jA 256 wq;simp at O;go_wp2;go_loopw[4] (λt4 wr=>∃i:Nat,i<=4/\t4=iI i/\wr.rowIs w.heap.size 24 4 (dz<|cX n)/\
   wr.rowIs (w.heap.size+1) 4 256 (dY λj=>if j<64*i then n.testBit j else false)/\bW w wr)
   (λt4 _=>4-(intOf t4).toNat)
 case atStart=>
  refine⟨0,wq,W,?_,?_,?_⟩
  .exact(de _ W W W W W).alloc _
  .exact bR K2 λj _=>K2
  grind[ai,dO]
 obtain⟨i,Y,rfl,E,D,C⟩:=hrel;by_cases I:i<4
 .have U:decide ((i:Int)<4)=true:=K9
  have R:=E.cell I;simp only[dz,wA]at R;go_wp2;go_loopw[5,6] (λt5 J Y=>∃k:Nat,k<=64/\J=iI k/\t5=iU ((lb n i/2^k:Nat):Int)/\Y.rowIs w.heap.size 24 4 (dz<|cX n)/\
    Y.rowIs (w.heap.size+1) 4 256 (dY λj=>if j<64*i+k then n.testBit j else false)/\bW w Y)
    (λ_ J _=>64-(intOf J).toNat)
  case atStart=>exact⟨0,wq,W,K2,E,D,C⟩
  obtain⟨k,Y,rfl,rfl,E,D,C⟩:=hrel;by_cases P:k<64
  .have V:decide ((k:Int)<64)=true:=K9
   have G:=wZ n i k P;have L:lb n i/2^k/2=lb n i/2^(k+1):=Bb _ _;have Q:lb n i/2^k<18446744073709551616:=YD (YW _ _)<|IOQ _ _;generalize lb n i/2^k=v at*;have cb:=D.cell (i:=64*i+k) wq;have H:=D.frozen<|64*i+k;go_wp2;go_roundw;case rel=>exact⟨k+1,wq,N1,by rw[<-L];go_num,E.setOther K2 _,jQ D<|SN G,kr C K2⟩
   grind[intOf]
  cases(wq:k=64)
  go_wp2;go_roundw;case rel=>exact⟨i+1,wq,N1,E,D,C⟩
  simp[intOf];omega
 cases(wq:i=4)
 go_wp2;refine IE W W ⟨_,W,wq,D.congr λj X=>by grind[dY],C⟩
def lS(n L b c:Nat)(Y:L<=100000)(hn:Hd (∀j,L<=j->n.testBit j=false))(w:WD)(h:w.rowIs b 4 L<|dY n.testBit):cP 175 #[sL b L c] w (rT (wv n) w):=by
 go_enter func175,ntmps175;go_wp2;go_loopw[4] (λt4 wr=>∃i:Nat,i<=4/\t4=iI ((i:Int)-1)/\wr.rowIs w.heap.size 24 4 (dz λ_=>0)/\
   wr.rowIs (w.heap.size+1) 24 4 (dz λj=>if i<=j then cX n j else 0)/\bW w wr)
   (λt4 _=>(intOf t4+1).toNat)
 case atStart=>
  refine⟨4,wq,W,?_,?_,?_⟩
  .exact(de (λ_=>0) W W W W W).alloc _
  .exact de _ K2 W W W W
  grind[ai,dO]
 obtain⟨i,g,rfl,G,E,C⟩:=hrel;by_cases H:i=0
 .subst H;let⟨g,c1,c2,c3⟩:=cW E;obtain⟨⟨g,V,U,z3⟩,R,g⟩:=qN n G C;go_wp2;refine gY (g _ W).1 ⟨W,(g _ W).2⟩
 obtain⟨m,rfl⟩:∃m,i=m+1:=⟨i-1,wq⟩
 rw[show(((m+1:Nat):Int)-1)=m by omega];go_wp2;go_loopw[5,6] (λt5 I g=>∃k:Nat,k<=64/\I=iI ((k:Int)-1)/\t5=iU ((lb n m/2^k:Nat):Int)/\g.rowIs w.heap.size 24 4 (dz λ_=>0)/\
   g.rowIs (w.heap.size+1) 24 4 (dz λj=>if m+1<=j then cX n j else 0)/\bW w g)
   (λ_ I _=>(intOf I+1).toNat)
 case atStart=>exact⟨64,wq,W,by rw[lb_top];rfl,G,E,C⟩
 obtain⟨k,g,rfl,rfl,G,E,C⟩:=hrel;by_cases O:k=0
 .subst O;have f:=E.frozen m;have Z:=E.cell (i:=m) wq;simp only[Z7,qah];go_wp2;go_roundw;case rel=>refine⟨m,wq,N1,G.setOther K2 _,?_,kr C K2⟩;exact OJ E (wA n m).symm
  simp_all[intOf]
 obtain⟨q,rfl⟩:∃q,k=q+1:=⟨k-1,wq⟩
 rw[show(((q+1:Nat):Int)-1)=q by omega];have D:=Sv n m q wq;have P:lb n m/2^(q+1)<9223372036854775808:=by have X:=IOQ n m;have Q:=Bb (lb n m) q;have d:lb n m/2^q<=lb n m:=YW _ _;omega
 generalize lb n m/2^(q+1)=v at*;by_cases J:64*m+q<L
 .have cl:=(cY h C).cell J;simp only[dY]at cl;generalize n.testBit (64*m+q)=t at*;cases t
  .replace D:lb n m/2^q=2*v:=D;go_wp2;go_roundw;case rel=>exact⟨q,wq,W,by rw[D];go_num,G,E,C⟩
   simp_all[intOf]
  replace D:lb n m/2^q=2*v+1:=D;go_wp2;go_roundw;case rel=>exact⟨q,wq,W,by rw[D];go_num,G,E,C⟩
  simp_all[intOf]
 rw[hn.aa _ wq]at D;replace D:lb n m/2^q=2*v:=D;go_wp2;go_roundw;case rel=>exact⟨q,wq,W,by rw[D];go_num,G,E,C⟩
 simp_all[intOf]
end
end cin
end Go.Proofs.YtohoajjdoihekaaGreatDoor
