import Derived.Test.YtohoajjdoihekaaGreatDoorTp
import Derived.Deep.RegionLaw
import Derived.ArgAppend
set_option linter.unusedVariables false
set_option linter.unusedSimpArgs false
namespace Go.Proofs.YtohoajjdoihekaaGreatDoor
namespace cin
open Go.RowKit Go.Proofs.Tryz Tryz
set_option maxRecDepth 100000
set_option maxHeartbeats 8000000
theorem zml (z i z' i' b0 b1 b2 b3 c1 c2 c3 n:Nat) (h0:b0<256) (h1:b1<256) (h2:b2<256) (h3:b3<256) (k1:c1<256) (k2:c2<256) (k3:c3<256)
  (h:wid z i b0 b1 b2 b3=n) (hn:n≠0) (hz:i'+n<=z') (e1:2<=n->c1=b1) (e2:3<=n->c2=b2) (e3:4<=n->c3=b3):wid z' i' b0 c1 c2 c3=n:=by
 by_cases hA:b0<128
 ·rw[wid_a _ _ _ _ _ _ hA] at h⊢;exact h
 ·by_cases hZ:b0<194\/245<=b0
  ·rw[wid_z _ _ _ _ _ _ (by omega) h0 hZ h1 h2 h3] at h;exact absurd h.symm hn
  ·have t2:b0<224->wid z' i' b0 c1 c2 c3=n:=fun hb=>by
    rw[wid_2 _ _ _ _ _ _ (by omega) hb h1] at h;rw[wid_2 _ _ _ _ _ _ (by omega) hb k1];split at h
    ·subst h;rw[if_pos];have:=e1 (by omega);omega
    ·exact absurd h.symm hn
   have t3:∀lo hi:Nat,((b0=224/\lo=160/\hi=191)\/(225<=b0/\b0<237/\lo=128/\hi=191)\/(b0=237/\lo=128/\hi=159)\/(238<=b0/\b0<240/\lo=128/\hi=191))->wid z' i' b0 c1 c2 c3=n:=fun lo hi hc=>by
    rw[wid_3 _ _ _ _ _ _ lo hi h1 h2 hc] at h;rw[wid_3 _ _ _ _ _ _ lo hi k1 k2 hc];split at h
    ·subst h;rw[if_pos];have:=e1 (by omega);have:=e2 (by omega);omega
    ·exact absurd h.symm hn
   have t4:∀lo hi:Nat,((b0=240/\lo=144/\hi=191)\/(241<=b0/\b0<244/\lo=128/\hi=191)\/(b0=244/\lo=128/\hi=143))->wid z' i' b0 c1 c2 c3=n:=fun lo hi hc=>by
    rw[wid_4 _ _ _ _ _ _ lo hi h1 h2 h3 hc] at h;rw[wid_4 _ _ _ _ _ _ lo hi k1 k2 k3 hc];split at h
    ·subst h;rw[if_pos];have:=e1 (by omega);have:=e2 (by omega);have:=e3 (by omega);omega
    ·exact absurd h.symm hn
   rcases(by omega:b0<224\/b0=224\/(225<=b0/\b0<237)\/b0=237\/(238<=b0/\b0<240)\/b0=240\/(241<=b0/\b0<244)\/b0=244) with h|h|h|h|h|h|h|h
   ·exact t2 h
   ·exact t3 160 191 (by omega)
   ·exact t3 128 191 (by omega)
   ·exact t3 128 159 (by omega)
   ·exact t3 128 191 (by omega)
   ·exact t4 144 191 (by omega)
   ·exact t4 128 191 (by omega)
   ·exact t4 128 143 (by omega)
theorem zgs (z i b0 b1 b2 b3 n:Nat) (h0:b0<256) (h1:b1<256) (h2:b2<256) (h3:b3<256) (h:wid z i b0 b1 b2 b3=n) (hn:n≠0):(n=1/\b0<128)\/(n=2/\128<=b0/\128<=b1)\/(n=3/\128<=b0/\128<=b2)\/(n=4/\128<=b0/\128<=b3):=by
 by_cases hA:b0<128
 ·rw[wid_a _ _ _ _ _ _ hA] at h;omega
 ·by_cases hZ:b0<194\/245<=b0
  ·rw[wid_z _ _ _ _ _ _ (by omega) h0 hZ h1 h2 h3] at h;exact absurd h.symm hn
  ·have t2:b0<224->(n=2/\128<=b0/\128<=b1):=fun hb=>by
    rw[wid_2 _ _ _ _ _ _ (by omega) hb h1] at h;split at h
    ·omega
    ·exact absurd h.symm hn
   have t3:∀lo hi:Nat,((b0=224/\lo=160/\hi=191)\/(225<=b0/\b0<237/\lo=128/\hi=191)\/(b0=237/\lo=128/\hi=159)\/(238<=b0/\b0<240/\lo=128/\hi=191))->(n=3/\128<=b0/\128<=b2):=fun lo hi hc=>by
    rw[wid_3 _ _ _ _ _ _ lo hi h1 h2 hc] at h;split at h
    ·omega
    ·exact absurd h.symm hn
   have t4:∀lo hi:Nat,((b0=240/\lo=144/\hi=191)\/(241<=b0/\b0<244/\lo=128/\hi=191)\/(b0=244/\lo=128/\hi=143))->(n=4/\128<=b0/\128<=b3):=fun lo hi hc=>by
    rw[wid_4 _ _ _ _ _ _ lo hi h1 h2 h3 hc] at h;split at h
    ·omega
    ·exact absurd h.symm hn
   rcases(by omega:b0<224\/b0=224\/(225<=b0/\b0<237)\/b0=237\/(238<=b0/\b0<240)\/b0=240\/(241<=b0/\b0<244)\/b0=244) with h|h|h|h|h|h|h|h
   ·exact Or.inr (Or.inl (t2 h))
   ·exact Or.inr (Or.inr (Or.inl (t3 160 191 (by omega))))
   ·exact Or.inr (Or.inr (Or.inl (t3 128 191 (by omega))))
   ·exact Or.inr (Or.inr (Or.inl (t3 128 159 (by omega))))
   ·exact Or.inr (Or.inr (Or.inl (t3 128 191 (by omega))))
   ·exact Or.inr (Or.inr (Or.inr (t4 144 191 (by omega))))
   ·exact Or.inr (Or.inr (Or.inr (t4 128 191 (by omega))))
   ·exact Or.inr (Or.inr (Or.inr (t4 128 143 (by omega))))
theorem zb3 (s:ByteArray) (b e p:Nat) (h:p<e - b):byt (s.extract b e) p=byt s (b+p):=by
 rw[ZO,ZO,yz,List.getD_eq_getElem?_getD,List.getD_eq_getElem?_getD,List.getElem?_take,if_pos h,List.getElem?_drop]
theorem nx_sub (s:ByteArray) (b e p:Nat) (he:e<=s.size) (h0:nx s (b+p)≠0) (h:b+p+nx s (b+p)<=e):nx (s.extract b e) p=nx s (b+p):=by
 rw[Ye,Ye];rw[Ye] at h0 h;have hs:(s.extract b e).size=e - b:=by rw[ByteArray.size_extract];omega
 have hl:=zgs _ _ _ _ _ _ _ (Zj _ _) (Zj _ _) (Zj _ _) (Zj _ _) (Eq.refl (wid s.size (b+p) (byt s (b+p)) (byt s (b+p+1)) (byt s (b+p+2)) (byt s (b+p+3)))) h0;have hb0:byt (s.extract b e) p=byt s (b+p):=zb3 s b e p (by omega);rw[hb0,hs];refine zml _ _ _ _ _ _ _ _ _ _ _ _ (Zj _ _) (Zj _ _) (Zj _ _) (Zj _ _) (Zj _ _) (Zj _ _) (Zj _ _) rfl h0 (by omega) (fun k=> ?_) (fun k=> ?_) (fun k=> ?_)
 ·rw[zb3 s b e (p+1) (by omega)];rfl
 ·rw[zb3 s b e (p+2) (by omega)];rfl
 ·rw[zb3 s b e (p+3) (by omega)];rfl
def RunN (s:ByteArray) (b:Nat):Nat->Nat->Prop
 |0,e=>e=b
 |n+1,e=>∃c,RunN s b n c/\c<s.size/\nx s c≠0/\e=c+nx s c
def Run (s:ByteArray) (b e:Nat):Prop:=∃n,RunN s b n e
theorem Run.here {s:ByteArray} {b:Nat}:Run s b b:=⟨0,rfl⟩
theorem Run.step {s:ByteArray} {b e:Nat} (h:Run s b e) (hp:e<s.size) (h0:nx s e≠0):Run s b (e+nx s e):=by
 obtain⟨n,h⟩:=h;exact⟨n+1,e,h,hp,h0,rfl⟩
theorem Run.rec' {s:ByteArray} {b:Nat} {C:Nat->Prop} (h0:C b) (h1:∀e,Run s b e->e<s.size->nx s e≠0->C e->C (e+nx s e)) {e:Nat} (h:Run s b e):C e:=by
 obtain⟨n,h⟩:=h
 induction n generalizing e with
 |zero=>rw[show e=b from h];exact h0
 |succ n ih=>
  obtain⟨c,hr,hp,hx,rfl⟩:=h;exact h1 c ⟨n,hr⟩ hp hx (ih hr)
theorem Run.le {s:ByteArray} {b e:Nat} (h:Run s b e):b<=e:=Run.rec' (C:=fun e=>b<=e) (Nat.le_refl _) (fun _ _ _ _ ih=>Nat.le_trans ih (Nat.le_add_right _ _)) h
theorem Run.sub {s:ByteArray} {b e c:Nat} (h:Run s b e) (hc:c<=s.size) (he:e<=c):Run (s.extract b c) 0 (e - b):=by
 refine Run.rec' (C:=fun e=>e<=c->Run (s.extract b c) 0 (e - b)) (fun _=>by rw[Nat.sub_self];exact Run.here) (fun e hr hp h0 ih he=> ?_) h he
 ·have hb:=hr.le;have hs:(s.extract b c).size=c - b:=by rw[ByteArray.size_extract];omega
  have e1:b+(e - b)=e:=by omega
  have hn:=nx_sub s b c (e - b) hc (by rw[e1];exact h0) (by rw[e1];exact he);rw[e1] at hn;have h2:=Run.step (ih (by omega)) (by omega) (by rw[hn];exact h0);rw[hn] at h2;rw[show e+nx s e - b=e - b+nx s e by omega];exact h2
theorem Run.cnt {s:ByteArray} {e:Nat} (h:Run s 0 e) (he:e<=s.size):∃f k:Nat,s.size<=e+f/\ZJ s f e k=cin.cnt s:=by
 refine Run.rec' (C:=fun e=>e<=s.size->∃f k:Nat,s.size<=e+f/\ZJ s f e k=cin.cnt s) (fun _=>⟨s.size,0,by omega,rfl⟩) (fun e hr hp h0 ih he=> ?_) h he
 ·obtain⟨f,k,h1,h2⟩:=ih (by omega);exact⟨f - 1,k+1,by omega,zcQ hp h0 (by omega) h2⟩
def Whole (s:ByteArray):Prop:=Run s 0 s.size
theorem Whole.cnt {s:ByteArray} (h:Whole s):(cin.cnt s).2=true:=by
 obtain⟨f,k,_,h2⟩:=Run.cnt h (Nat.le_refl _);rw[<-h2,zg3 s f s.size k (by omega)]
theorem Run.whole {s:ByteArray} {b e:Nat} (h:Run s b e) (he:e<=s.size):Whole (s.extract b e):=by
 have h2:=h.sub he (Nat.le_refl _);unfold Whole;rw[ByteArray.size_extract,Nat.min_eq_left he];exact h2
theorem Run.behind {s:ByteArray} {b e:Nat} (h:Run s b e):e=b\/Run s (b+nx s b) e:=by
 refine Run.rec' (C:=fun e=>e=b\/Run s (b+nx s b) e) (Or.inl rfl) (fun e hr hp h0 ih=> ?_) h;rcases ih with rfl|ih
 ·exact Or.inr Run.here
 ·exact Or.inr (ih.step hp h0)
theorem Run.last {s:ByteArray} {b e:Nat} (h:Run s b e):e=b\/∃c,Run s b c/\c<s.size/\nx s c≠0/\e=c+nx s c:=by
 obtain⟨n,h⟩:=h;cases n with
 |zero=>exact Or.inl h
 |succ n=>
  obtain⟨c,hr,hp,h0,e⟩:=h;exact Or.inr ⟨c,⟨n,hr⟩,hp,h0,e⟩
theorem Whole.butLast {s:ByteArray} (h:Whole s) (hs:0<s.size) (hc:byt s (s.size - 1)<128):Whole (s.extract 0 (s.size - 1)):=by
 rcases Run.last h with h0|⟨c,hr,hp,h0,he⟩
 ·omega
 ·have hl:=zgs _ _ _ _ _ _ _ (Zj _ _) (Zj _ _) (Zj _ _) (Zj _ _) (Ye s c).symm h0
  have h1:nx s c=1:=by
   rcases hl with⟨h,_⟩|⟨h,_,h2⟩|⟨h,_,h2⟩|⟨h,_,h2⟩
   ·exact h
   ·rw[show c+1=s.size - 1 by omega] at h2;omega
   ·rw[show c+2=s.size - 1 by omega] at h2;omega
   ·rw[show c+3=s.size - 1 by omega] at h2;omega
  obtain rfl:c=s.size - 1:=by omega
  exact hr.whole (by omega)
theorem YT (s:ByteArray) (p:Nat) (h:byt s p<128):nx s p=1:=by rw[Ye,wid_a _ _ _ _ _ _ h]
theorem Whole.butFirst {s:ByteArray} (h:Whole s) (hs:0<s.size) (hc:byt s 0<128):Whole (s.extract 1 s.size):=by
 rcases Run.behind h with h0|h1
 ·omega
 ·rw[YT s 0 hc] at h1;exact h1.whole (Nat.le_refl _)
theorem zfH {s:ByteArray}:∀(f p k:Nat),Run s 0 p->p<=s.size->s.size<=p+f->(ZJ s f p k).2=true->Whole s
 |0,p,k,hr,hp,hf,h=>by
  obtain rfl:p=s.size:=by omega
  exact hr
 |f+1,p,k,hr,hp,hf,h=>by
  by_cases hlt:p<s.size
  ·obtain⟨h0,h2⟩:=zbU hlt (by omega) h;have hle:=zch s p hlt h0;exact zfH f (p+nx s p) (k+1) (hr.step hlt h0) hle (by omega) h2
  ·obtain rfl:p=s.size:=by omega
   exact hr
theorem zjM {s:ByteArray} (h:(cin.cnt s).2=true):Whole s:=zfH s.size 0 0 Run.here (by omega) (by omega) h
-- names of instructions
theorem zjW (l:List UInt8) (h:l∉keys):ze5 l=none:=by
 have hd:∀j,j<16->l≠bl (dup j):=fun j hj e=>h (e▸dup_key j hj)
 have hsw:∀j,j<16->l≠bl (swp j):=fun j hj e=>h (e▸swp_key j hj)
 have hg:∀j,j<5->l≠bl (lgs j):=fun j hj e=>h (e▸lgs_key j hj)
 unfold ze5;rw[zaW tabRec (by kernel_rfl) l h,zaW tabCmp (by kernel_rfl) l h,zaW tabSur (by kernel_rfl) l h,zaW tabKee (by kernel_rfl) l h,zf9 l 16 0 (fun j _ hj=>⟨hd j (by omega),hsw j (by omega)⟩),zgp l 5 0 (fun j _ hj=>hg j (by omega))];rfl
def keyOk (l:List UInt8):Bool:=decide (65<=(l.getD 0 0).toNat)&&decide ((l.getD 0 0).toNat<=90)&&decide ((ze5 l).getD 0<256)
theorem keys_ok:(keys.all keyOk)=true:=by kernel_rfl
theorem zmi {s:ByteArray} {v:Nat} (h:YL s=some v):65<=byt s 0/\byt s 0<=90/\v<256:=by
 rw[named_l] at h
 have hk:bl s∈keys:=by
  refine Decidable.byContradiction fun hn=> ?_
  rw[zjW _ hn] at h;cases h
 have h2:=List.all_eq_true.1 keys_ok _ hk;unfold keyOk at h2;simp only[Bool.and_eq_true,decide_eq_true_eq] at h2;rw[h] at h2;rw[ZO];exact⟨h2.1.1,h2.1.2,h2.2⟩
-- an item
def col:ByteArray:=⟨#[58]⟩
def att:ByteArray:=⟨#[64]⟩
structure It where
 k:Nat
 nm:ByteArray
 cd:List UInt8
 fl:Nat
def itN (s:ByteArray):It:=match YL s with
 |some v=>⟨0,⟨#[]⟩,[UInt8.ofNat v],0⟩
 |none=>match zah (nt s) (nb s) with
  |none=>⟨0,⟨#[]⟩,[],2⟩
  |some (n,g)=>if g then⟨0,⟨#[]⟩,[],4⟩ else⟨0,⟨#[]⟩,zo n,0⟩
def isL (s:ByteArray):Bool:=sf s col&&nm (zaD s col)
def isA (s:ByteArray):Bool:=pf s att&&nm (Z5 s att)
def itm (s:ByteArray):It:=if isL s then⟨1,zaD s col,[91],0⟩ else if isA s then⟨2,Z5 s att,[97,0,0],0⟩ else itN s
theorem zlI (s:ByteArray):sf s col=(decide (1<=s.size)&&decide (byt s (s.size - 1)=58)):=by
 unfold sf;show(decide (1<=s.size)&&_)=_;by_cases h:1<=s.size
 ·rw[decide_eq_true h,Bool.true_and,Bool.true_and,Go.ByteArray.toList_eq,Go.ByteArray.toList_eq];show(bl (s.extract (s.size - 1) s.size)==[58])=_;have hl:(bl s).length=s.size:=rfl;rw[yz,ZO]
  have hd:(bl s).drop (s.size - 1)=[(bl s).getD (s.size - 1) 0]:=by
   rw[List.drop_eq_getElem_cons (by omega),List.drop_of_length_le (by omega),List.getD_eq_getElem?_getD,List.getElem?_eq_getElem (by omega)];rfl
  rw[hd,show s.size - (s.size - 1)=1 by omega,Bool.eq_iff_iff,beq_iff_eq,decide_eq_true_eq];generalize(bl s).getD (s.size - 1) 0=c;constructor
  ·intro e;have e2:c=58:=by injection e
   rw[e2];rfl
  ·intro e;have e2:c=58:=UInt8.toNat_inj.1 e;rw[e2];rfl
 ·rw[decide_eq_false h,Bool.false_and,Bool.false_and]
theorem zl3 (s:ByteArray) (h:0<s.size):pf s att=decide (byt s 0=64):=by
 obtain⟨c,r,e,hc⟩:=byt0 h;rw[zeB,e,<-hc];show(([64]:List UInt8).isPrefixOf (c::r))=_;rw[Bool.eq_iff_iff,decide_eq_true_eq];simp only[List.isPrefixOf,Bool.and_true,beq_iff_eq];constructor
 ·intro e;rw[<-e];rfl
 ·intro e;exact(UInt8.toNat_inj.1 e).symm
theorem cut_col {s:ByteArray} (h:sf s col=true):zaD s col=s.extract 0 (s.size - 1):=by unfold zaD;rw[h];rfl
theorem cut_att {s:ByteArray} (h:pf s att=true):Z5 s att=s.extract 1 s.size:=by unfold Z5;rw[h];rfl
theorem zlJ {s:ByteArray} {v:Nat} (h:YL s=some v):itN s=⟨0,⟨#[]⟩,[UInt8.ofNat v],0⟩:=by unfold itN;rw[h]
theorem zlT {s:ByteArray} (h:YL s=none):itN s=match zah (nt s) (nb s) with
  |none=>⟨0,⟨#[]⟩,[],2⟩
  |some (n,g)=>if g then⟨0,⟨#[]⟩,[],4⟩ else⟨0,⟨#[]⟩,zo n,0⟩:=by unfold itN;rw[h]
theorem yh (n:Nat):(zo n).length<=33:=by have:=zbr n 0;unfold zo pcs;rw[List.length_cons];omega
def yW (c:Nat):Bool:=decide (c=32\/c=9\/c=10\/c=59)
def rmk (rm:Bool) (c:Nat):Bool:=decide (c=59)||(rm&&decide (c≠10))
def fin (s:ByteArray) (p:Nat) (cur:Option (Nat×Nat)):List (ByteArray×Nat):=match cur with
 |some (b,a)=>[(s.extract b p,a)]
 |none=>[]
def ZY (s:ByteArray):Nat->Nat->Nat->Bool->Option (Nat×Nat)->List (ByteArray×Nat)
 |0,p,_,_,cur=>fin s p cur
 |f+1,p,k,rm,cur=>if p<s.size then
   (if (rm||yW (byt s p)) then fin s p cur++ZY s f (p+nx s p) (k+1) (rmk rm (byt s p)) none
    else ZY s f (p+nx s p) (k+1) (rmk rm (byt s p)) (some (cur.getD (p,k))))
  else fin s p cur
def spl (s:ByteArray):List (ByteArray×Nat):=ZY s s.size 0 0 false none
theorem spl_end (s:ByteArray) (f p k:Nat) (rm:Bool) (cur:Option (Nat×Nat)) (h:¬p<s.size):ZY s f p k rm cur=fin s p cur:=by
 cases f with
 |zero=>rfl
 |succ f=>rw[ZY,if_neg h]
theorem spl_out {s:ByteArray} {f p k:Nat} {rm:Bool} {cur:Option (Nat×Nat)} {acc T:List (ByteArray×Nat)} (hp:p<s.size) (hf:0<f) (ho:(rm||yW (byt s p))=true) (h:acc++ZY s f p k rm cur=T):
  (acc++fin s p cur)++ZY s (f - 1) (p+nx s p) (k+1) (rmk rm (byt s p)) none=T:=by
 obtain⟨g,rfl⟩:∃g,f=g+1:=⟨f - 1,by omega⟩;rw[ZY,if_pos hp,ho,if_pos rfl] at h;rw[List.append_assoc];exact h
theorem spl_in {s:ByteArray} {f p k:Nat} {rm:Bool} {cur:Option (Nat×Nat)} {acc T:List (ByteArray×Nat)} (hp:p<s.size) (hf:0<f) (ho:(rm||yW (byt s p))=false) (h:acc++ZY s f p k rm cur=T):
  acc++ZY s (f - 1) (p+nx s p) (k+1) (rmk rm (byt s p)) (some (cur.getD (p,k)))=T:=by
 obtain⟨g,rfl⟩:∃g,f=g+1:=⟨f - 1,by omega⟩;rw[ZY,if_pos hp,ho,if_neg (by decide)] at h;exact h
theorem zln {s:ByteArray} {b p:Nat} (hp:p<=s.size):(s.extract b p).size=p - b:=by rw[ByteArray.size_extract];omega
def Fit (s:ByteArray) (x:ByteArray×Nat):Prop:=Whole x.1/\0<x.1.size/\x.1.size<=s.size/\x.2<=s.size
theorem ze1 {s:ByteArray} {p:Nat} {cur:Option (Nat×Nat)} (hp:p<=s.size) (hc:∀b a,cur=some (b,a)->Run s b p/\b<p/\a<=s.size):∀x∈fin s p cur,Fit s x:=by
 intro x hx
 match cur with
 |none=>cases hx
 |some (b,a)=>
  obtain⟨h1,h2,h3⟩:=hc b a rfl;have:x=(s.extract b p,a):=List.mem_singleton.1 hx;subst this;have:=zln (b:=b) hp;exact⟨h1.whole hp,by show 0<(s.extract b p).size;omega,by show(s.extract b p).size<=_;omega,h3⟩
theorem zcP {s:ByteArray}:∀(f p k:Nat) (rm:Bool) (cur:Option (Nat×Nat)),p<=s.size->k<=p->s.size<=p+f->(ZJ s f p k).2=true->(∀b a,cur=some (b,a)->Run s b p/\b<p/\a<=s.size)->∀x∈ZY s f p k rm cur,Fit s x
 |0,p,k,rm,cur,hp,hk,hf,hv,hc=>ze1 hp hc
 |f+1,p,k,rm,cur,hp,hk,hf,hv,hc=>by
  intro x hx;rw[ZY] at hx;by_cases hlt:p<s.size
  ·rw[if_pos hlt] at hx;obtain⟨h0,hv2⟩:=zbU hlt (by omega) hv;have hle:=zch s p hlt h0;split at hx
   ·rcases List.mem_append.1 hx with h|h
    ·exact ze1 hp hc x h
    ·exact zcP f _ _ _ none hle (by omega) (by omega) hv2 (fun b a e=>by cases e) x h
   ·refine zcP f _ _ _ _ hle (by omega) (by omega) hv2 (fun b a e=> ?_) x hx
    match cur with
    |none=>
     have e2:(p,k)=(b,a):=by injection e
     injection e2 with h1 h2
     subst h1 h2;exact⟨Run.here.step hlt h0,by omega,by omega⟩
    |some (b',a')=>
     have e2:(b',a')=(b,a):=by injection e
     injection e2 with h1 h2
     subst h1 h2;obtain⟨g1,g2,g3⟩:=hc b' a' rfl;exact⟨g1.step hlt h0,by omega,g3⟩
  ·rw[if_neg hlt] at hx;exact ze1 hp hc x hx
theorem ziZ {s:ByteArray} (h:Whole s):∀x∈spl s,Fit s x:=zcP s.size 0 0 false none (by omega) (by omega) (by omega) h.cnt (fun b a e=>by cases e)
theorem zi5 (s:ByteArray) (p:Nat) (cur:Option (Nat×Nat)):(fin s p cur).length<=1:=by
 match cur with
 |none=>exact Nat.zero_le _
 |some (b,a)=>exact Nat.le_refl _
theorem zc9 (s:ByteArray):∀(f p k:Nat) (rm:Bool) (cur:Option (Nat×Nat)),(ZY s f p k rm cur).length<=f+1
 |0,p,k,rm,cur=>zi5 s p cur
 |f+1,p,k,rm,cur=>by
  have h1:=zi5 s p cur;rw[ZY];split
  ·split
   ·rw[List.length_append];have:=zc9 s f (p+nx s p) (k+1) (rmk rm (byt s p)) none;omega
   ·have:=zc9 s f (p+nx s p) (k+1) (rmk rm (byt s p)) (some (cur.getD (p,k)));omega
  ·omega
theorem zfg (s:ByteArray):(spl s).length<=s.size+1:=zc9 s _ _ _ _ _
-- one rune of a text
theorem zb0 (s:ByteArray) (p x:Nat) (hx:x<128) (h0:nx s p≠0):(Utf8.decode s p).1=x↔byt s p=x:=by
 obtain⟨h1,h2⟩:=zcq s p h0;constructor
 ·intro e;have h:=h1.1 (by omega);rw[<-h2 h,e]
 ·intro e;rw[h2 (YT s p (by omega)),e]
def yP (l:List (ByteArray×Nat)):List Value:=l.flatMap fun x=>[.string x.1,.int .i64 (x.2:Int)]
theorem Zp (l:List (ByteArray×Nat)) (t:ByteArray) (a:Nat):yP (l++[(t,a)])=yP l++[.string t,.int .i64 (a:Int)]:=by
 unfold yP;rw[List.flatMap_append];rfl
theorem zdY (l:List (ByteArray×Nat)) (i:Nat) (h:i<l.length):(yP l)[i*2]? =some (.string (l[i]).1)/\(yP l)[i*2+1]? =some (.int .i64 ((l[i]).2:Int)):=by
 induction l generalizing i with
 |nil=>exact absurd h (Nat.not_lt_zero _)
 |cons x r ih=>
  have e:yP (x::r)=.string x.1::.int .i64 (x.2:Int)::yP r:=by unfold yP;rw[List.flatMap_cons];rfl
  rw[e];cases i with
  |zero=>exact⟨rfl,rfl⟩
  |succ i=>
   have h2:=ih i (by simpa using h);rw[show(i+1)*2=i*2+2 by omega];exact h2
def laidV (i:It):Value:=.tuple #[.string ⟨i.cd.toArray⟩,.string (if i.k=1 then i.nm else⟨#[]⟩),.string (if i.k=2 then i.nm else⟨#[]⟩),.int .i64 (if i.fl=0 then 0 else if i.fl=2 then 1 else 2)]
def numN (o:Option (Nat×Bool)) (e:Ending):Prop:=match o with
 |none=>∃r g,e=.returned (.tuple #[wv r,.bool false,.bool g])
 |some (n,g)=>e=.returned (.tuple #[wv n,.bool true,.bool g])
def six (a b c d e f:Value):Nat->Value:=fun i=>if i=0 then a else if i=1 then b else if i=2 then c else if i=3 then d else if i=4 then e else f
theorem k6 {i:Nat} (h:i<6):i=0\/i=1\/i=2\/i=3\/i=4\/i=5:=by omega
theorem zcs {w:World} {n:Nat} {t:TypeId} (a b c d e f:Value) (hn:n=w.heap.size):(w.alloc (.cells #[a,b,c,d,e,f] t)).rowIs n t 6 (six a b c d e f):=by
 subst hn;refine World.rowIs_alloc w _ t _ fun i hi=> ?_
 rcases k6 hi with rfl|rfl|rfl|rfl|rfl|rfl<;>rfl
theorem zU {w:World} {p:Nat} {t:TypeId} {a b c d e f:Value} (h:w.rowIs p t 6 (six a b c d e f)):
  w.cell? ⟨p,0,none⟩=some a/\w.cell? ⟨p,1,none⟩=some b/\w.cell? ⟨p,2,none⟩=some c/\w.cell? ⟨p,3,none⟩=some d/\w.cell? ⟨p,4,none⟩=some e/\w.cell? ⟨p,5,none⟩=some f:=
 ⟨h.cell (i:=0) (by omega),h.cell (i:=1) (by omega),h.cell (i:=2) (by omega),h.cell (i:=3) (by omega),h.cell (i:=4) (by omega),h.cell (i:=5) (by omega)⟩
theorem YK {w:World} {p:Nat} {t:TypeId} {g:Nat->Value} (h:w.rowIs p t 6 g) (a b c d e f:Value):
  ((((((w.setCell ⟨p,0,none⟩ a).setCell ⟨p,1,none⟩ b).setCell ⟨p,2,none⟩ c).setCell ⟨p,3,none⟩ d).setCell ⟨p,4,none⟩ e).setCell ⟨p,5,none⟩ f).rowIs p t 6 (six a b c d e f):=by
 refine((((((h.set 0 _).set 1 _).set 2 _).set 3 _).set 4 _).set 5 _).congr fun i hi=> ?_
 rcases k6 hi with rfl|rfl|rfl|rfl|rfl|rfl<;>rfl
theorem yC {w w':World} (h:Below w.heap.size w w') {p:Nat} (hp:w.heap.size<=p) (a b c d e f:Value):
  Below w.heap.size w ((((((w'.setCell ⟨p,0,none⟩ a).setCell ⟨p,1,none⟩ b).setCell ⟨p,2,none⟩ c).setCell ⟨p,3,none⟩ d).setCell ⟨p,4,none⟩ e).setCell ⟨p,5,none⟩ f):=
 (((((h.setCell hp _).setCell hp _).setCell hp _).setCell hp _).setCell hp _).setCell hp _
theorem ZT {w:World} {base e size n:Nat} {v:Value} {xs:List Value} (h:w.ownsRow base e size v n xs) {p:Addr} (hp:p.block<base) (u:Value):(w.setCell p u).ownsRow base e size v n xs:=by
 refine⟨h.1,h.2.imp id fun⟨g,cap,cur,h1,h2,h3,h4⟩=>⟨g,cap,cur,h1,h2, ?_,h4⟩⟩;rw[Below.heap_setCell w p u g (by omega)];exact h3
theorem Bys.put6 {x:World} {base:Nat} {v:Value} {l:List UInt8} (h:Bys x base v l) {p:Nat} (hp:p<base) (a b c d e f:Value):
  Bys ((((((x.setCell ⟨p,0,none⟩ a).setCell ⟨p,1,none⟩ b).setCell ⟨p,2,none⟩ c).setCell ⟨p,3,none⟩ d).setCell ⟨p,4,none⟩ e).setCell ⟨p,5,none⟩ f) base v l:=
 ZT (ZT (ZT (ZT (ZT (ZT h hp _) hp _) hp _) hp _) hp _) hp _
theorem zA {w w':World} {base e size n:Nat} {v:Value} {xs:List Value} (h:w.ownsRow base e size v n xs) (hb:Below w.heap.size w w'):w'.ownsRow base e size v n xs:=by
 refine⟨h.1,h.2.imp id fun⟨g,cap,cur,h1,h2,h3,h4⟩=>⟨g,cap,cur,h1,h2, ?_,h4⟩⟩;rw[hb.block g (lt_of_block h3)];exact h3
theorem zb6 (w:World) (base:Nat) (hb:base<=w.heap.size) (l:List UInt8) (hl:l.length<=40):Bys (w.alloc (.cells (l.map u8v).toArray 5)) base (.slice (some ⟨w.heap.size,0,none⟩) l.length l.length) l:=by
 have h:=World.ownsRow_lit (base:=base) (e:=5) (size:=1) w (l.map u8v).toArray l.length hb (by unfold maxLen;omega) (by simp);have e:(l.map u8v).toArray.toList=l.map u8v:=rfl;rw[e] at h;exact h
def itV (i:It) (v:Value) (a p:Nat):Value:=.agg #[.int .i64 (i.k:Int),.string i.nm,v,.int .i64 (i.fl:Int),.int .i64 (a:Int),.int .i64 (p:Int)]
structure RI (w x:World):Prop where
 r:x.rowIs w.heap.size 122 6 (six (.int .i64 0) (.string ⟨#[]⟩) (.slice none 0 0) (.int .i64 0) (.int .i64 0) (.int .i64 0))
 be:Below w.heap.size w x
theorem RI.call {w x y:World} (h:RI w x) (hb:Below x.heap.size x y):RI w y:=⟨zf h.r hb,zD h.be hb⟩
def Got (s:ByteArray) (w:World) (e:Ending) (w':World):Prop:=∃v,e=.returned (itV (itm s) v 0 0)/\Bys w' w.heap.size v (itm s).cd/\Below w.heap.size w w'
theorem zex (s:ByteArray) (hs:s.size<=2000) (hv:Hid (Whole s)) (h0:0<s.size) (w:World):Calls prog 79 #[.string s] w fun e w'=>Got s w e w':=by
 obtain⟨t,HT⟩:∃t,Hid (t=zaD s col):=⟨_,rfl⟩;obtain⟨q,HQ⟩:∃q,Hid (q=sf s col):=⟨_,rfl⟩
 have HCS:Hid (∀w,Calls prog 140 #[.string s,.string ⟨#[58]⟩] w fun e w'=>e=.returned (.tuple #[.string t,.bool q])/\w'=w):=fun w=>by
  have h:=zdp s col hs (by decide) w;rw[<-HT.out,<-HQ.out] at h;exact h
 have HPN:Hid (q=true->∀w,Calls prog 141 #[.string t] w fun e w'=>e=.returned (.bool (isL s))/\Below w.heap.size w w'):=fun hq w=>by
  have hsf:sf s col=true:=by rw[<-HQ.out,hq]
  have ht:t=s.extract 0 (s.size - 1):=by rw[HT.out,cut_col hsf]
  have hb:byt s (s.size - 1)=58:=by
   rw[zlI,Bool.and_eq_true,decide_eq_true_eq,decide_eq_true_eq] at hsf;exact hsf.2
  have hw:Whole t:=by rw[ht];exact hv.out.butLast h0 (by omega)
  have h:=zbJ t (by rw[ht,ByteArray.size_extract];omega) hw.cnt w;have e:isL s=nm t:=by unfold isL;rw[hsf,Bool.true_and,HT.out]
  rw[e];exact h
 have HFL:Hid (q=false->isL s=false):=fun hq=>by unfold isL;rw[<-HQ.out,hq];rfl
 have hri:RI w (w.alloc (.cells #[.int .i64 0,.string ⟨#[]⟩,.slice none 0 0,.int .i64 0,.int .i64 0,.int .i64 0] 122)):=⟨zcs _ _ _ _ _ _ rfl,bal (Below.refl _ _) _⟩;go_enter func79,ntmps79;go_wp2_with fail
 refine(HCS.out _).mono ?_;rintro e w' ⟨rfl,rfl⟩
 go_upto_region 2 with fail
 go_cut [20] (fun t20 wx=>t20=.bool (isL s)/\RI w wx)
 case first=>
  cases q
  ·have E:=HFL.out rfl;go_wp2_with fail
   go_meet
   case rel=>exact⟨by rw[E],hri⟩
  ·have HP2:=ze (HPN.out rfl);clear HPN HFL;go_wp2_with fail
   refine(HP2.out _).mono ?_;rintro e w2 ⟨rfl,hb2⟩;go_wp2_with fail
   go_meet
   case rel=>exact⟨rfl,hri.call hb2⟩
 case rest=>
  clear HPN HFL hri;obtain⟨rfl,hri⟩:=hcut;cases hL:isL s
  ·obtain⟨t2,HT2⟩:∃t,Hid (t=Z5 s att):=⟨_,rfl⟩;obtain⟨q2,HQ2⟩:∃q,Hid (q=pf s att):=⟨_,rfl⟩
   have HCP:Hid (∀w,Calls prog 142 #[.string s,.string ⟨#[64]⟩] w fun e w'=>e=.returned (.tuple #[.string t2,.bool q2])/\w'=w):=fun w=>by
    have h:=zav s att hs (by decide) w;rw[<-HT2.out,<-HQ2.out] at h;exact h
   have HPN:Hid (q2=true->∀w,Calls prog 141 #[.string t2] w fun e w'=>e=.returned (.bool (isA s))/\Below w.heap.size w w'):=fun hq w=>by
    have hsf:pf s att=true:=by rw[<-HQ2.out,hq]
    have ht:t2=s.extract 1 s.size:=by rw[HT2.out,cut_att hsf]
    have hb:byt s 0=64:=by
     rw[zl3 s h0,decide_eq_true_eq] at hsf;exact hsf
    have hw:Whole t2:=by rw[ht];exact hv.out.butFirst h0 (by omega)
    have h:=zbJ t2 (by rw[ht,ByteArray.size_extract];omega) hw.cnt w;have e:isA s=nm t2:=by unfold isA;rw[hsf,Bool.true_and,HT2.out]
    rw[e];exact h
   have HFL:Hid (q2=false->isA s=false):=fun hq=>by unfold isA;rw[<-HQ2.out,hq];rfl
   go_wp2_with fail
   refine(HCP.out _).mono ?_;rintro e w' ⟨rfl,rfl⟩
   go_upto_region 5 with fail
   go_cut [33] (fun t33 wx=>t33=.bool (isA s)/\RI w wx)
   case first=>
    cases q2
    ·have E:=HFL.out rfl;go_wp2_with fail
     go_meet
     case rel=>exact⟨by rw[E],hri⟩
    ·have HP2:=ze (HPN.out rfl);clear HPN HFL;go_wp2_with fail
     refine(HP2.out _).mono ?_;rintro e w2 ⟨rfl,hb2⟩;go_wp2_with fail
     go_meet
     case rel=>exact⟨rfl,hri.call hb2⟩
   case rest=>
    clear HPN HFL hri;obtain⟨rfl,hri⟩:=hcut;cases hA:isA s
    ·have HIN:Hid (itm s=itN s):=by show _=_;unfold itm;rw[hL,hA];rfl
     clear hL hA;obtain⟨o,HO⟩:∃o,Hid (o=YL s):=⟨_,rfl⟩;go_wp2_with fail
     refine(zj7 s hs _).mono ?_;rintro e w' ⟨rfl,rfl⟩;rw[<-HO.out];cases o with
     |some b=>
      have HI:Hid (itm s=⟨0,⟨#[]⟩,[UInt8.ofNat b],0⟩):=by show _=_;rw[HIN.out,zlJ HO.out.symm]
      have hb256:=(zmi HO.out.symm).2.2;unfold pr;simp only[Option.getD_some,Option.isSome_some];have hr2:=hri.r.alloc (.cells #[.int .u8 (b:Int)] 5);have hlt:=hri.r.lt
      have hby:Bys (w'.alloc (.cells #[.int .u8 (b:Int)] 5)) (w.heap.size+1) (.slice (some ⟨w'.heap.size,0,none⟩) 1 1) [UInt8.ofNat b]:=by
       have h:=zb6 w' (w.heap.size+1) (by omega) [UInt8.ofNat b] (by show 1<=40;omega);have e:u8v (UInt8.ofNat b)=.int .u8 (b:Int):=by unfold u8v;rw[UInt8.toNat_ofNat_of_lt' hb256]
       rw[<-e];exact h
      have hbe2:=bal hri.be (.cells #[.int .u8 (b:Int)] 5);have HY:=ze hby;have HLT:=ze hlt;obtain⟨c0,c1,c2,c3,c4,c5⟩:=zU hr2;have fz:=hr2.frozen;clear hby hlt;go_wp2;have hby:=HY.out;obtain⟨q0,q1,q2,q3,q4,q5⟩:=zU (YK hr2 (.int .i64 0) (.string ⟨#[]⟩) ((.slice (some ⟨w'.heap.size,0,none⟩) 1 1)) (.int .i64 0) (.int .i64 0) (.int .i64 0));refine bodyPost_ret (v:=itV (itm s) ((.slice (some ⟨w'.heap.size,0,none⟩) 1 1)) 0 0) ?_ rfl ⟨_,rfl, ?_,yC hbe2 (Nat.le_refl _) _ _ _ _ _ _⟩
      ·rw[HI.out];simp[results,results79,go_sem,q0,q1,q2,q3,q4,q5];rfl
      ·rw[HI.out];exact(Bys.put6 hby (by have:=HLT.out;omega) _ _ _ _ _ _).mono (by have:=HLT.out;omega)
     |none=>
      have hnd:YL s=none:=HO.out.symm
      have HRN:ym s=match zah (nt s) (nb s) with
        |none=>(0,2)
        |some (n,g)=>if g then(0,4) else(n,0):=by unfold ym;rw[zkt,zig]<;>cases zah (Z5 s x0) (zaU s)<;>rfl
      have HIN2:=zlT hnd;rw[<-HIN.out] at HIN2;unfold pr;simp only[Option.getD_none,Option.isSome_none];clear HIN hnd
      have HX:Hid (∃(n:Nat) (k:Nat),ym s=(n,(k:Int))/\((k≠0/\(k=2\/k=4)/\itm s=⟨0,⟨#[]⟩,[],k⟩)\/(k=0/\itm s=⟨0,⟨#[]⟩,zo n,0⟩))):=by
       cases hr:zah (nt s) (nb s) with
       |none=>rw[hr] at HRN HIN2;exact⟨0,2,HRN,Or.inl ⟨by omega,Or.inl rfl,HIN2⟩⟩
       |some p=>
        obtain⟨n,g⟩:=p;rw[hr] at HRN HIN2;cases g
        ·exact⟨n,0,HRN,Or.inr ⟨rfl,HIN2⟩⟩
        ·exact⟨0,4,HRN,Or.inl ⟨by omega,Or.inr rfl,HIN2⟩⟩
      clear HRN HIN2;obtain⟨n,k,hrn,hX⟩:=HX.out;have HRN2:Hid (ym s=(n,(k:Int))):=hrn;clear hrn HX;have HX2:=ze hX;clear hX;have HRI:=ze hri;clear hri;go_wp2_with fail
      refine(zcv s hs _).mono ?_;rintro e w1 ⟨r,k2,HR,rfl,hb1⟩;have hrk:(r,k2)=(n,(k:Int)):=HR.out.trans HRN2.out;obtain⟨rfl,rfl⟩:r=n/\k2=(k:Int):=by injection hrk with h1 h2;exact⟨h1,h2⟩
      have hri1:=HRI.out.call hb1;have hri:RI w (w1.alloc (.cells #[.int .u64 (za r 0),.int .u64 (za r 1),.int .u64 (za r 2),.int .u64 (za r 3)] 24)):=⟨hri1.r.alloc _,bal hri1.be _⟩;have hlt:=hri1.r.lt;have HLT:=ze hlt;clear hrk HR HRN2 hb1 hri1 HRI hlt;rcases HX2.out with⟨hk0,hk24,hI⟩|⟨rfl,hI⟩
      ·have HI:=ze hI;clear HX2 hI;have hd:((k:Int) !=0)=true:=by simp;omega
       have hr2:=hri.r;have hbe2:=hri.be;have HY:Hid (Bys (w1.alloc (.cells #[.int .u64 (za r 0),.int .u64 (za r 1),.int .u64 (za r 2),.int .u64 (za r 3)] 24)) (w.heap.size+1) (.slice none 0 0) []):=World.ownsRow_nil _ _ _ _;obtain⟨c0,c1,c2,c3,c4,c5⟩:=zU hr2;have fz:=hr2.frozen;go_wp2;have hby:=HY.out;obtain⟨q0,q1,q2,q3,q4,q5⟩:=zU (YK hr2 (.int .i64 0) (.string ⟨#[]⟩) (.slice none 0 0) (.int .i64 (k:Int)) (.int .i64 0) (.int .i64 0));refine bodyPost_ret (v:=itV (itm s) (.slice none 0 0) 0 0) ?_ rfl ⟨_,rfl, ?_,yC hbe2 (Nat.le_refl _) _ _ _ _ _ _⟩
       ·rw[HI.out];simp[results,results79,go_sem,q0,q1,q2,q3,q4,q5];rfl
       ·rw[HI.out];exact(Bys.put6 hby (by have:=HLT.out;omega) _ _ _ _ _ _).mono (by have:=HLT.out;omega)
      ·have HI:=ze hI;clear HX2 hI;have hrow:(w1.alloc (.cells #[.int .u64 (za r 0),.int .u64 (za r 1),.int .u64 (za r 2),.int .u64 (za r 3)] 24)).rowIs w1.heap.size 24 4 (zj (za r)):=zh (za r) rfl rfl rfl rfl rfl;obtain⟨d0,d1,d2,d3⟩:=zb hrow;go_wp2_with fail
       refine(zlB r _).mono ?_;rintro e w2 ⟨v,rfl,hby0,hb2⟩;have hri2:=hri.call hb2;have hr2:=hri2.r;have hbe2:=hri2.be;have hby1:Bys w2 (w.heap.size+1) v (zo r):=hby0.mono (by have:=HLT.out;simp;omega);have HY:=ze hby1;obtain⟨g,cap,rfl,hg1,hg2,hg3⟩:=zB hby1 (by unfold zo pcs;simp);clear hby0 hby1 hrow d0 d1 d2 d3 hri hb2 hri2 hg1 hg2 hg3;obtain⟨c0,c1,c2,c3,c4,c5⟩:=zU hr2;have fz:=hr2.frozen;generalize(zo r).length=cl at*;go_wp2;have hby:=HY.out;obtain⟨q0,q1,q2,q3,q4,q5⟩:=zU (YK hr2 (.int .i64 0) (.string ⟨#[]⟩) (.slice (some ⟨g,0,none⟩) cl cap) (.int .i64 0) (.int .i64 0) (.int .i64 0));refine bodyPost_ret (v:=itV (itm s) (.slice (some ⟨g,0,none⟩) cl cap) 0 0) ?_ rfl ⟨_,rfl, ?_,yC hbe2 (Nat.le_refl _) _ _ _ _ _ _⟩
       ·rw[HI.out];simp[results,results79,go_sem,q0,q1,q2,q3,q4,q5];rfl
       ·rw[HI.out];exact(Bys.put6 hby (by have:=HLT.out;omega) _ _ _ _ _ _).mono (by have:=HLT.out;omega)
    ·have HI:Hid (itm s=⟨2,t2,[97,0,0],0⟩):=by show _=_;unfold itm;rw[hL,hA,HT2.out];rfl
     clear hL hA;have hr2:=hri.r.alloc (.cells #[.int .u8 97,.int .u8 0,.int .u8 0] 5);have hlt:=hri.r.lt;have hby:Bys (wc.alloc (.cells #[.int .u8 97,.int .u8 0,.int .u8 0] 5)) (w.heap.size+1) (.slice (some ⟨wc.heap.size,0,none⟩) 3 3) [97,0,0]:=zb6 wc _ (by omega) [97,0,0] (by decide);have hbe2:=bal hri.be (.cells #[.int .u8 97,.int .u8 0,.int .u8 0] 5);have HY:=ze hby;have HLT:=ze hlt;obtain⟨c0,c1,c2,c3,c4,c5⟩:=zU hr2;have fz:=hr2.frozen;clear hby hlt;go_wp2;have hby:=HY.out;obtain⟨q0,q1,q2,q3,q4,q5⟩:=zU (YK hr2 (.int .i64 2) (.string t2) ((.slice (some ⟨wc.heap.size,0,none⟩) 3 3)) (.int .i64 0) (.int .i64 0) (.int .i64 0));refine bodyPost_ret (v:=itV (itm s) ((.slice (some ⟨wc.heap.size,0,none⟩) 3 3)) 0 0) ?_ rfl ⟨_,rfl, ?_,yC hbe2 (Nat.le_refl _) _ _ _ _ _ _⟩
     ·rw[HI.out];simp[results,results79,go_sem,q0,q1,q2,q3,q4,q5];rfl
     ·rw[HI.out];exact(Bys.put6 hby (by have:=HLT.out;omega) _ _ _ _ _ _).mono (by have:=HLT.out;omega)
  ·have HI:Hid (itm s=⟨1,t,[91],0⟩):=by show _=_;unfold itm;rw[hL,HT.out];rfl
   clear hL;have hr2:=hri.r.alloc (.cells #[.int .u8 91] 5);have hlt:=hri.r.lt;have hby:Bys (wc.alloc (.cells #[.int .u8 91] 5)) (w.heap.size+1) (.slice (some ⟨wc.heap.size,0,none⟩) 1 1) [91]:=zb6 wc _ (by omega) [91] (by decide);have hbe2:=bal hri.be (.cells #[.int .u8 91] 5);have HY:=ze hby;have HLT:=ze hlt;obtain⟨c0,c1,c2,c3,c4,c5⟩:=zU hr2;have fz:=hr2.frozen;clear hby hlt;go_wp2;have hby:=HY.out;obtain⟨q0,q1,q2,q3,q4,q5⟩:=zU (YK hr2 (.int .i64 1) (.string t) ((.slice (some ⟨wc.heap.size,0,none⟩) 1 1)) (.int .i64 0) (.int .i64 0) (.int .i64 0));refine bodyPost_ret (v:=itV (itm s) ((.slice (some ⟨wc.heap.size,0,none⟩) 1 1)) 0 0) ?_ rfl ⟨_,rfl, ?_,yC hbe2 (Nat.le_refl _) _ _ _ _ _ _⟩
   ·rw[HI.out];simp[results,results79,go_sem,q0,q1,q2,q3,q4,q5];rfl
   ·rw[HI.out];exact(Bys.put6 hby (by have:=HLT.out;omega) _ _ _ _ _ _).mono (by have:=HLT.out;omega)
section
open Go.RowKit Go.Lib
theorem zj1 (r:Nat) (w:World):Calls prog 139 #[.int .i32 (r:Int)] w fun e w'=>e=.returned (.bool (yW r))/\w'=w:=by
 by_cases h1:r=32
 ·subst h1;go_enter func139,ntmps139;go_wp2;go_ret;exact⟨rfl,rfl⟩
 ·have d1:((r:Int)==32)=false:=by simp;omega
  by_cases h2:r=9
  ·subst h2;go_enter func139,ntmps139;go_wp2;go_ret;exact⟨rfl,rfl⟩
  ·have d2:((r:Int)==9)=false:=by simp;omega
   by_cases h3:r=10
   ·subst h3;go_enter func139,ntmps139;go_wp2;go_ret;exact⟨rfl,rfl⟩
   ·have d3:((r:Int)==10)=false:=by simp;omega
    by_cases h4:r=59
    ·subst h4;go_enter func139,ntmps139;go_wp2;go_ret;exact⟨rfl,rfl⟩
    ·have d4:((r:Int)==59)=false:=by simp;omega
     have HS:Hid (yW r=false):=decide_eq_false (by omega);go_enter func139,ntmps139;go_wp2;go_ret;exact⟨by rw[HS.out];rfl,rfl⟩
structure SP (w:World) (s:ByteArray) (p:Nat) (v:Value) (acc:List (ByteArray×Nat)) (x:World):Prop where
 it:x.heap[w.heap.size]? =some (.stringIter s p)
 ow:x.ownsRow (w.heap.size+1) 171 2 v acc.length (yP acc)
 be:Below w.heap.size w x
theorem zjA {w w':World} {base e size n:Nat} {v:Value} {xs:List Value} (h:w.ownsRow base e size v n xs) (hb:∀g,base<=g->w'.heap[g]? =w.heap[g]?):w'.ownsRow base e size v n xs:=
 ⟨h.1,h.2.imp id fun⟨g,cap,cur,h1,h2,h3,h4⟩=>⟨g,cap,cur,h1,h2,by rw[hb g h2];exact h3,h4⟩⟩
theorem SP.next {w:World} {s:ByteArray} {p:Nat} {v:Value} {acc:List (ByteArray×Nat)} {x:World} (h:SP w s p v acc x) (q:Nat):SP w s q v acc (x.iterAt w.heap.size s q):=
 ⟨iterAt_heap x _ s p q h.it,zjA h.ow fun g hg=>iterAt_other x _ g s q (by omega),below_iterAt h.be (by omega) s q⟩
theorem zhp:(prog.info? 171).map (fun i=>(i.zero,i.size,i.bytes))=some (some (.agg #[.string ⟨#[]⟩,.int .i64 0]),2,24):=by kernel_rfl
theorem zdf {w:World} {b c e size n:Nat} {v:Value} {xs:List Value} (h:w.ownsRow b e size v n xs) (hc:c<=b):w.ownsRow c e size v n xs:=
 ⟨h.1,h.2.imp id fun⟨g,cap,cur,a1,a2,a3⟩=>⟨g,cap,cur,a1,Nat.le_trans hc a2,a3⟩⟩
theorem zjL {w:World} {b e size n:Nat} {v:Value} {xs:List Value} (h:w.ownsRow b e size v n xs):∃(ad:Option Addr) (ln cp:Nat),v=.slice ad ln cp:=by
 rcases h.2 with⟨hv,_⟩|⟨g,cap,cur,hv,_⟩
 ·exact⟨_,_,_,hv⟩
 ·exact⟨_,_,_,hv⟩
theorem Zi {w:World} {b e size n k:Nat} {v:Value} {xs:List Value} (h:w.ownsRow (b+1) e size v n xs) (hk:some k=v.ownBlock):b+1<=k:=(h.lt k hk.symm).1
theorem yM {w:World} {b e size n:Nat} {v:Value} {xs:List Value} (h:w.ownsRow (b+1) e size v n xs):∀k,v.ownBlock=some k->b<=k:=fun k hk=>by have:=(h.lt k hk).1;omega
theorem zC (w:World) (o:Obj) (k:Nat) (h:k<w.heap.size):(w.alloc o).heap[k]? =w.heap[k]? :=Below.heap_alloc w o k h
def bgn (cur:Option (Nat×Nat)) (a:Nat) (bi:Int) (p:Nat):Prop:=(bi= -1/\cur=none)\/∃b:Nat,bi=(b:Int)/\b<p/\cur=some (b,a)
theorem zj4 (s:ByteArray) (hs:s.size<=2000) (hv:Hid (Whole s)) (w:World):Calls prog 78 #[.string s] w fun e w'=>∃v,e=.returned v/\w'.ownsRow w.heap.size 171 2 v (spl s).length (yP (spl s))/\Below w.heap.size w w':=by
 obtain⟨i0,hi0,hz0,hz1,hz2⟩:=info_parts zhp;have HI:=ze (And.intro hi0 (And.intro hz0 (And.intro hz1 hz2)));clear hi0 hz0 hz1 hz2;go_enter func78,ntmps78;go_wp2
 go_loopw [3,4,5,6,7] (fun t3 t4 t5 t6 t7 wr=>∃(p f k a:Nat) (rm:Bool) (bi:Int) (cur:Option (Nat×Nat)) (acc:List (ByteArray×Nat)),t6=.int .i64 (k:Int)/\t7=.bool rm/\t4=.int .i64 bi/\t5=.int .i64 (a:Int)/\SP w s p t3 acc wr/\k<=p/\p<=s.size/\s.size<=p+f/\acc.length<=p/\Hid (bgn cur a bi p)/\Hid (acc++ZY s f p k rm cur=spl s)/\Hid ((ZJ s f p k).2=true)) (fun _ _ _ _ _ wr=>s.size - wr.iterPos w.heap.size)
 case atStart=>exact⟨0,s.size,0,0,false, -1,none,[],rfl,rfl,rfl,rfl,⟨World.iter_heap w s 0,World.ownsRow_nil _ _ _ _,bal (Below.refl _ _) _⟩,by omega,by omega,by omega,by simp,Or.inl ⟨rfl,rfl⟩,rfl,hv.out.cnt⟩
 case round=>
  obtain⟨p,f,k,a,rm,bi,cur,acc,rfl,rfl,rfl,rfl,hsp,hk,hps,hf,hac,HBG,HS,HV⟩:=hrel;have HPOS:Hid (wr.iterPos w.heap.size=p):=by show _=_;simp[World.iterPos,hsp.it]
  by_cases hp:p<s.size
  ·have hnx:∀ty,(Instr.next (.pointer (some ⟨w.heap.size,0,none⟩)) true ty).run prog wr=_:=fun ty=>run_next_any_at wr w.heap.size s p ty hsp.it hp
   obtain⟨h0,hv2⟩:=zbU hp (by omega) HV.out;have HV2:=ze hv2;have hle:=zch s p hp h0;have hpos:0<nx s p:=Nat.pos_of_ne_zero h0;rw[YR s p h0] at hnx;have hsp2:=hsp.next (p+nx s p);have e59:=zb0 s p 59 (by omega) h0;have e10:=zb0 s p 10 (by omega) h0;have e32:=zb0 s p 32 (by omega) h0;have e9:=zb0 s p 9 (by omega) h0;have HOUT:=ze (fun(ho:(rm||yW (byt s p))=true)=>spl_out hp (by omega) ho HS.out);have HIN:=ze (fun(ho:(rm||yW (byt s p))=false)=>spl_in hp (by omega) ho HS.out);have HPA:=ze (zj1 (Utf8.decode s p).1);clear hv2 h0 HV;generalize nx s p=n at*;generalize(Utf8.decode s p).1=r at*;generalize byt s p=c at*
   have hcls:(c=59/\((r:Int)==59)=true/\yW r=true)\/(c=10/\((r:Int)==59)=false/\((r:Int) !=10)=false/\yW r=true)\/(yW c=true/\c≠59/\c≠10/\((r:Int)==59)=false/\((r:Int) !=10)=true/\yW r=true)\/(yW c=false/\c≠59/\c≠10/\((r:Int)==59)=false/\((r:Int) !=10)=true/\yW r=false):=by
    unfold yW;simp only[decide_eq_true_eq,decide_eq_false_iff_not,beq_iff_eq,bne_iff_ne,beq_eq_false_iff_ne,bne_eq_false_iff_eq,ne_eq];omega
   clear e59 e10 e32 e9;have hlt:=lt_of_block hsp2.it;have hsz:=hsp.be.size;have HLT:=ze hlt;have HSP:=ze hsp2;have HPO2:Hid ((wr.iterAt w.heap.size s (p+n)).iterPos w.heap.size=p+n):=by show _=_;simp only[World.iterPos,hsp2.it]
   clear hlt hsp2 hsp;rcases hcls with⟨hc,hr,hg⟩|⟨hc,hr,hr2,hg⟩|⟨hc,hc2,hc3,hr,hr2,hg⟩|⟨hc,hc2,hc3,hr,hr2,hg⟩
   ·subst hc;cases rm
    ·have HRM:Hid (rmk false 59=true):=rfl;have HT:=ze (HOUT.out (by rfl));rw[HRM.out] at HT;clear HOUT HIN HRM;rcases HBG.out with⟨rfl,rfl⟩|⟨b,rfl,hb,rfl⟩
     ·go_wp2_with fail
      refine(HPA.out _).mono ?_;rintro e w' ⟨rfl,rfl⟩;rw[hg];go_wp2
      go_roundw
      case rel=>exact⟨p+n,f - 1,k+1,a,true, -1,none,acc,by go_num,rfl,rfl,rfl,HSP.out,by omega,by omega,by omega,by omega,Or.inl ⟨rfl,rfl⟩,(by have h:=HT.out;simp only[fin,List.append_nil] at h;exact h),HV2⟩
      case measure=>rw[HPOS.out,HPO2.out];omega
     ·go_wp2_with fail
      refine(HPA.out _).mono ?_;rintro e w' ⟨rfl,rfl⟩;rw[hg];go_wp2_with (first|(at_builtin;obtain⟨hi0,hz0,hz1,hz2⟩:=HI.out;refine wpList_append_own _ rfl _ _ 168 rfl (w.heap.size+1) 171 i0 (.agg #[.string ⟨#[]⟩,.int .i64 0]) 2 24 (by kernel_rfl) hi0 hz0 hz1 hz2 rfl (by decide) _ _ _ rfl (HSP.out.ow.alloc _) _ 1 1 [.string (s.extract b p),.int .i64 (a:Int)] rfl rfl (Ze _ #[.string (s.extract b p),.int .i64 (a:Int)] 171) (by intro u hu;simp at hu;rcases hu with rfl|rfl<;>rfl) (by unfold maxLen;omega) (by omega) (by have:=HLT.out;simp;omega) ?_;intro v' w1 ho3 hgr _;obtain⟨g',cap',rfl,hg1',hg2',hg3'⟩:=zB ho3 (by omega);have HGR:=ze hgr;have HO3:=ze ho3;clear hgr ho3 hi0 hz0 hz1 hz2 hg1' hg2' hg3'))
      go_roundw
      case rel=>exact⟨p+n,f - 1,k+1,a,true, -1,none,acc++[(s.extract b p,a)],by go_num,rfl,rfl,rfl,⟨(HGR.out.block w.heap.size (by have:=HLT.out;simp;omega) (fun e=>by have:=Zi HSP.out.ow e;omega)).trans (by rw[zC _ _ _ HLT.out];exact HSP.out.it),by rw[List.length_append,Zp];exact HO3.out,(bal HSP.out.be _).grown HGR.out (by have:=HLT.out;simp;omega) (yM HSP.out.ow)⟩,by omega,by omega,by omega,by rw[List.length_append];show _+1<=_;omega,Or.inl ⟨rfl,rfl⟩,HT,HV2⟩
      case measure=>rw[HPOS.out];have hit:=(HGR.out.block w.heap.size (by have:=HLT.out;simp;omega) (fun e=>by have:=Zi HSP.out.ow e;omega)).trans ((zC _ _ _ HLT.out).trans HSP.out.it);simp only[World.iterPos,hit];omega
    ·have HRM:Hid (rmk true 59=true):=rfl;have HT:=ze (HOUT.out (by rfl));rw[HRM.out] at HT;clear HOUT HIN HRM;rcases HBG.out with⟨rfl,rfl⟩|⟨b,rfl,hb,rfl⟩
     ·go_wp2
      go_roundw
      case rel=>exact⟨p+n,f - 1,k+1,a,true, -1,none,acc,by go_num,rfl,rfl,rfl,HSP.out,by omega,by omega,by omega,by omega,Or.inl ⟨rfl,rfl⟩,(by have h:=HT.out;simp only[fin,List.append_nil] at h;exact h),HV2⟩
      case measure=>rw[HPOS.out,HPO2.out];omega
     ·go_wp2_with (first|(at_builtin;obtain⟨hi0,hz0,hz1,hz2⟩:=HI.out;refine wpList_append_own _ rfl _ _ 168 rfl (w.heap.size+1) 171 i0 (.agg #[.string ⟨#[]⟩,.int .i64 0]) 2 24 (by kernel_rfl) hi0 hz0 hz1 hz2 rfl (by decide) _ _ _ rfl (HSP.out.ow.alloc _) _ 1 1 [.string (s.extract b p),.int .i64 (a:Int)] rfl rfl (Ze _ #[.string (s.extract b p),.int .i64 (a:Int)] 171) (by intro u hu;simp at hu;rcases hu with rfl|rfl<;>rfl) (by unfold maxLen;omega) (by omega) (by have:=HLT.out;simp;omega) ?_;intro v' w1 ho3 hgr _;obtain⟨g',cap',rfl,hg1',hg2',hg3'⟩:=zB ho3 (by omega);have HGR:=ze hgr;have HO3:=ze ho3;clear hgr ho3 hi0 hz0 hz1 hz2 hg1' hg2' hg3'))
      go_roundw
      case rel=>exact⟨p+n,f - 1,k+1,a,true, -1,none,acc++[(s.extract b p,a)],by go_num,rfl,rfl,rfl,⟨(HGR.out.block w.heap.size (by have:=HLT.out;simp;omega) (fun e=>by have:=Zi HSP.out.ow e;omega)).trans (by rw[zC _ _ _ HLT.out];exact HSP.out.it),by rw[List.length_append,Zp];exact HO3.out,(bal HSP.out.be _).grown HGR.out (by have:=HLT.out;simp;omega) (yM HSP.out.ow)⟩,by omega,by omega,by omega,by rw[List.length_append];show _+1<=_;omega,Or.inl ⟨rfl,rfl⟩,HT,HV2⟩
      case measure=>rw[HPOS.out];have hit:=(HGR.out.block w.heap.size (by have:=HLT.out;simp;omega) (fun e=>by have:=Zi HSP.out.ow e;omega)).trans ((zC _ _ _ HLT.out).trans HSP.out.it);simp only[World.iterPos,hit];omega
   ·subst hc;cases rm
    ·have HRM:Hid (rmk false 10=false):=rfl;have HT:=ze (HOUT.out (by rfl));rw[HRM.out] at HT;clear HOUT HIN HRM;rcases HBG.out with⟨rfl,rfl⟩|⟨b,rfl,hb,rfl⟩
     ·go_wp2_with fail
      refine(HPA.out _).mono ?_;rintro e w' ⟨rfl,rfl⟩;rw[hg];go_wp2
      go_roundw
      case rel=>exact⟨p+n,f - 1,k+1,a,false, -1,none,acc,by go_num,rfl,rfl,rfl,HSP.out,by omega,by omega,by omega,by omega,Or.inl ⟨rfl,rfl⟩,(by have h:=HT.out;simp only[fin,List.append_nil] at h;exact h),HV2⟩
      case measure=>rw[HPOS.out,HPO2.out];omega
     ·go_wp2_with fail
      refine(HPA.out _).mono ?_;rintro e w' ⟨rfl,rfl⟩;rw[hg];go_wp2_with (first|(at_builtin;obtain⟨hi0,hz0,hz1,hz2⟩:=HI.out;refine wpList_append_own _ rfl _ _ 168 rfl (w.heap.size+1) 171 i0 (.agg #[.string ⟨#[]⟩,.int .i64 0]) 2 24 (by kernel_rfl) hi0 hz0 hz1 hz2 rfl (by decide) _ _ _ rfl (HSP.out.ow.alloc _) _ 1 1 [.string (s.extract b p),.int .i64 (a:Int)] rfl rfl (Ze _ #[.string (s.extract b p),.int .i64 (a:Int)] 171) (by intro u hu;simp at hu;rcases hu with rfl|rfl<;>rfl) (by unfold maxLen;omega) (by omega) (by have:=HLT.out;simp;omega) ?_;intro v' w1 ho3 hgr _;obtain⟨g',cap',rfl,hg1',hg2',hg3'⟩:=zB ho3 (by omega);have HGR:=ze hgr;have HO3:=ze ho3;clear hgr ho3 hi0 hz0 hz1 hz2 hg1' hg2' hg3'))
      go_roundw
      case rel=>exact⟨p+n,f - 1,k+1,a,false, -1,none,acc++[(s.extract b p,a)],by go_num,rfl,rfl,rfl,⟨(HGR.out.block w.heap.size (by have:=HLT.out;simp;omega) (fun e=>by have:=Zi HSP.out.ow e;omega)).trans (by rw[zC _ _ _ HLT.out];exact HSP.out.it),by rw[List.length_append,Zp];exact HO3.out,(bal HSP.out.be _).grown HGR.out (by have:=HLT.out;simp;omega) (yM HSP.out.ow)⟩,by omega,by omega,by omega,by rw[List.length_append];show _+1<=_;omega,Or.inl ⟨rfl,rfl⟩,HT,HV2⟩
      case measure=>rw[HPOS.out];have hit:=(HGR.out.block w.heap.size (by have:=HLT.out;simp;omega) (fun e=>by have:=Zi HSP.out.ow e;omega)).trans ((zC _ _ _ HLT.out).trans HSP.out.it);simp only[World.iterPos,hit];omega
    ·have HRM:Hid (rmk true 10=false):=rfl;have HT:=ze (HOUT.out (by rfl));rw[HRM.out] at HT;clear HOUT HIN HRM;rcases HBG.out with⟨rfl,rfl⟩|⟨b,rfl,hb,rfl⟩
     ·go_wp2
      go_roundw
      case rel=>exact⟨p+n,f - 1,k+1,a,false, -1,none,acc,by go_num,rfl,rfl,rfl,HSP.out,by omega,by omega,by omega,by omega,Or.inl ⟨rfl,rfl⟩,(by have h:=HT.out;simp only[fin,List.append_nil] at h;exact h),HV2⟩
      case measure=>rw[HPOS.out,HPO2.out];omega
     ·go_wp2_with (first|(at_builtin;obtain⟨hi0,hz0,hz1,hz2⟩:=HI.out;refine wpList_append_own _ rfl _ _ 168 rfl (w.heap.size+1) 171 i0 (.agg #[.string ⟨#[]⟩,.int .i64 0]) 2 24 (by kernel_rfl) hi0 hz0 hz1 hz2 rfl (by decide) _ _ _ rfl (HSP.out.ow.alloc _) _ 1 1 [.string (s.extract b p),.int .i64 (a:Int)] rfl rfl (Ze _ #[.string (s.extract b p),.int .i64 (a:Int)] 171) (by intro u hu;simp at hu;rcases hu with rfl|rfl<;>rfl) (by unfold maxLen;omega) (by omega) (by have:=HLT.out;simp;omega) ?_;intro v' w1 ho3 hgr _;obtain⟨g',cap',rfl,hg1',hg2',hg3'⟩:=zB ho3 (by omega);have HGR:=ze hgr;have HO3:=ze ho3;clear hgr ho3 hi0 hz0 hz1 hz2 hg1' hg2' hg3'))
      go_roundw
      case rel=>exact⟨p+n,f - 1,k+1,a,false, -1,none,acc++[(s.extract b p,a)],by go_num,rfl,rfl,rfl,⟨(HGR.out.block w.heap.size (by have:=HLT.out;simp;omega) (fun e=>by have:=Zi HSP.out.ow e;omega)).trans (by rw[zC _ _ _ HLT.out];exact HSP.out.it),by rw[List.length_append,Zp];exact HO3.out,(bal HSP.out.be _).grown HGR.out (by have:=HLT.out;simp;omega) (yM HSP.out.ow)⟩,by omega,by omega,by omega,by rw[List.length_append];show _+1<=_;omega,Or.inl ⟨rfl,rfl⟩,HT,HV2⟩
      case measure=>rw[HPOS.out];have hit:=(HGR.out.block w.heap.size (by have:=HLT.out;simp;omega) (fun e=>by have:=Zi HSP.out.ow e;omega)).trans ((zC _ _ _ HLT.out).trans HSP.out.it);simp only[World.iterPos,hit];omega
   ·skip;cases rm
    ·have HRM:Hid (rmk false c=false):=by show _=_;unfold rmk;rw[decide_eq_false hc2,decide_eq_true hc3];rfl
     have HT:=ze (HOUT.out (by rw[hc];rfl));rw[HRM.out] at HT;clear HOUT HIN HRM;rcases HBG.out with⟨rfl,rfl⟩|⟨b,rfl,hb,rfl⟩
     ·go_wp2_with fail
      refine(HPA.out _).mono ?_;rintro e w' ⟨rfl,rfl⟩;rw[hg];go_wp2
      go_roundw
      case rel=>exact⟨p+n,f - 1,k+1,a,false, -1,none,acc,by go_num,rfl,rfl,rfl,HSP.out,by omega,by omega,by omega,by omega,Or.inl ⟨rfl,rfl⟩,(by have h:=HT.out;simp only[fin,List.append_nil] at h;exact h),HV2⟩
      case measure=>rw[HPOS.out,HPO2.out];omega
     ·go_wp2_with fail
      refine(HPA.out _).mono ?_;rintro e w' ⟨rfl,rfl⟩;rw[hg];go_wp2_with (first|(at_builtin;obtain⟨hi0,hz0,hz1,hz2⟩:=HI.out;refine wpList_append_own _ rfl _ _ 168 rfl (w.heap.size+1) 171 i0 (.agg #[.string ⟨#[]⟩,.int .i64 0]) 2 24 (by kernel_rfl) hi0 hz0 hz1 hz2 rfl (by decide) _ _ _ rfl (HSP.out.ow.alloc _) _ 1 1 [.string (s.extract b p),.int .i64 (a:Int)] rfl rfl (Ze _ #[.string (s.extract b p),.int .i64 (a:Int)] 171) (by intro u hu;simp at hu;rcases hu with rfl|rfl<;>rfl) (by unfold maxLen;omega) (by omega) (by have:=HLT.out;simp;omega) ?_;intro v' w1 ho3 hgr _;obtain⟨g',cap',rfl,hg1',hg2',hg3'⟩:=zB ho3 (by omega);have HGR:=ze hgr;have HO3:=ze ho3;clear hgr ho3 hi0 hz0 hz1 hz2 hg1' hg2' hg3'))
      go_roundw
      case rel=>exact⟨p+n,f - 1,k+1,a,false, -1,none,acc++[(s.extract b p,a)],by go_num,rfl,rfl,rfl,⟨(HGR.out.block w.heap.size (by have:=HLT.out;simp;omega) (fun e=>by have:=Zi HSP.out.ow e;omega)).trans (by rw[zC _ _ _ HLT.out];exact HSP.out.it),by rw[List.length_append,Zp];exact HO3.out,(bal HSP.out.be _).grown HGR.out (by have:=HLT.out;simp;omega) (yM HSP.out.ow)⟩,by omega,by omega,by omega,by rw[List.length_append];show _+1<=_;omega,Or.inl ⟨rfl,rfl⟩,HT,HV2⟩
      case measure=>rw[HPOS.out];have hit:=(HGR.out.block w.heap.size (by have:=HLT.out;simp;omega) (fun e=>by have:=Zi HSP.out.ow e;omega)).trans ((zC _ _ _ HLT.out).trans HSP.out.it);simp only[World.iterPos,hit];omega
    ·have HRM:Hid (rmk true c=true):=by show _=_;unfold rmk;rw[decide_eq_false hc2,decide_eq_true hc3];rfl
     have HT:=ze (HOUT.out (by rw[hc];rfl));rw[HRM.out] at HT;clear HOUT HIN HRM;rcases HBG.out with⟨rfl,rfl⟩|⟨b,rfl,hb,rfl⟩
     ·go_wp2
      go_roundw
      case rel=>exact⟨p+n,f - 1,k+1,a,true, -1,none,acc,by go_num,rfl,rfl,rfl,HSP.out,by omega,by omega,by omega,by omega,Or.inl ⟨rfl,rfl⟩,(by have h:=HT.out;simp only[fin,List.append_nil] at h;exact h),HV2⟩
      case measure=>rw[HPOS.out,HPO2.out];omega
     ·go_wp2_with (first|(at_builtin;obtain⟨hi0,hz0,hz1,hz2⟩:=HI.out;refine wpList_append_own _ rfl _ _ 168 rfl (w.heap.size+1) 171 i0 (.agg #[.string ⟨#[]⟩,.int .i64 0]) 2 24 (by kernel_rfl) hi0 hz0 hz1 hz2 rfl (by decide) _ _ _ rfl (HSP.out.ow.alloc _) _ 1 1 [.string (s.extract b p),.int .i64 (a:Int)] rfl rfl (Ze _ #[.string (s.extract b p),.int .i64 (a:Int)] 171) (by intro u hu;simp at hu;rcases hu with rfl|rfl<;>rfl) (by unfold maxLen;omega) (by omega) (by have:=HLT.out;simp;omega) ?_;intro v' w1 ho3 hgr _;obtain⟨g',cap',rfl,hg1',hg2',hg3'⟩:=zB ho3 (by omega);have HGR:=ze hgr;have HO3:=ze ho3;clear hgr ho3 hi0 hz0 hz1 hz2 hg1' hg2' hg3'))
      go_roundw
      case rel=>exact⟨p+n,f - 1,k+1,a,true, -1,none,acc++[(s.extract b p,a)],by go_num,rfl,rfl,rfl,⟨(HGR.out.block w.heap.size (by have:=HLT.out;simp;omega) (fun e=>by have:=Zi HSP.out.ow e;omega)).trans (by rw[zC _ _ _ HLT.out];exact HSP.out.it),by rw[List.length_append,Zp];exact HO3.out,(bal HSP.out.be _).grown HGR.out (by have:=HLT.out;simp;omega) (yM HSP.out.ow)⟩,by omega,by omega,by omega,by rw[List.length_append];show _+1<=_;omega,Or.inl ⟨rfl,rfl⟩,HT,HV2⟩
      case measure=>rw[HPOS.out];have hit:=(HGR.out.block w.heap.size (by have:=HLT.out;simp;omega) (fun e=>by have:=Zi HSP.out.ow e;omega)).trans ((zC _ _ _ HLT.out).trans HSP.out.it);simp only[World.iterPos,hit];omega
   ·skip;cases rm
    ·have HRM:Hid (rmk false c=false):=by show _=_;unfold rmk;rw[decide_eq_false hc2,decide_eq_true hc3];rfl
     have HT:=ze (HIN.out (by rw[hc];rfl));rw[HRM.out] at HT;clear HOUT HIN HRM;rcases HBG.out with⟨rfl,rfl⟩|⟨b,rfl,hb,rfl⟩
     ·go_wp2_with fail
      refine(HPA.out _).mono ?_;rintro e w' ⟨rfl,rfl⟩;rw[hg];go_wp2
      go_roundw
      case rel=>exact⟨p+n,f - 1,k+1,k,false,(p:Int),some (p,k),acc,by go_num,rfl,rfl,rfl,HSP.out,by omega,by omega,by omega,by omega,Or.inr ⟨p,rfl,by omega,rfl⟩,HT,HV2⟩
      case measure=>rw[HPOS.out,HPO2.out];omega
     ·go_wp2_with fail
      refine(HPA.out _).mono ?_;rintro e w' ⟨rfl,rfl⟩;rw[hg];go_wp2
      go_roundw
      case rel=>exact⟨p+n,f - 1,k+1,a,false,(b:Int),some (b,a),acc,by go_num,rfl,rfl,rfl,HSP.out,by omega,by omega,by omega,by omega,Or.inr ⟨b,rfl,by omega,rfl⟩,HT,HV2⟩
      case measure=>rw[HPOS.out,HPO2.out];omega
    ·have HRM:Hid (rmk true c=true):=by show _=_;unfold rmk;rw[decide_eq_false hc2,decide_eq_true hc3];rfl
     have HT:=ze (HOUT.out (by rw[hc];rfl));rw[HRM.out] at HT;clear HOUT HIN HRM;rcases HBG.out with⟨rfl,rfl⟩|⟨b,rfl,hb,rfl⟩
     ·go_wp2
      go_roundw
      case rel=>exact⟨p+n,f - 1,k+1,a,true, -1,none,acc,by go_num,rfl,rfl,rfl,HSP.out,by omega,by omega,by omega,by omega,Or.inl ⟨rfl,rfl⟩,(by have h:=HT.out;simp only[fin,List.append_nil] at h;exact h),HV2⟩
      case measure=>rw[HPOS.out,HPO2.out];omega
     ·go_wp2_with (first|(at_builtin;obtain⟨hi0,hz0,hz1,hz2⟩:=HI.out;refine wpList_append_own _ rfl _ _ 168 rfl (w.heap.size+1) 171 i0 (.agg #[.string ⟨#[]⟩,.int .i64 0]) 2 24 (by kernel_rfl) hi0 hz0 hz1 hz2 rfl (by decide) _ _ _ rfl (HSP.out.ow.alloc _) _ 1 1 [.string (s.extract b p),.int .i64 (a:Int)] rfl rfl (Ze _ #[.string (s.extract b p),.int .i64 (a:Int)] 171) (by intro u hu;simp at hu;rcases hu with rfl|rfl<;>rfl) (by unfold maxLen;omega) (by omega) (by have:=HLT.out;simp;omega) ?_;intro v' w1 ho3 hgr _;obtain⟨g',cap',rfl,hg1',hg2',hg3'⟩:=zB ho3 (by omega);have HGR:=ze hgr;have HO3:=ze ho3;clear hgr ho3 hi0 hz0 hz1 hz2 hg1' hg2' hg3'))
      go_roundw
      case rel=>exact⟨p+n,f - 1,k+1,a,true, -1,none,acc++[(s.extract b p,a)],by go_num,rfl,rfl,rfl,⟨(HGR.out.block w.heap.size (by have:=HLT.out;simp;omega) (fun e=>by have:=Zi HSP.out.ow e;omega)).trans (by rw[zC _ _ _ HLT.out];exact HSP.out.it),by rw[List.length_append,Zp];exact HO3.out,(bal HSP.out.be _).grown HGR.out (by have:=HLT.out;simp;omega) (yM HSP.out.ow)⟩,by omega,by omega,by omega,by rw[List.length_append];show _+1<=_;omega,Or.inl ⟨rfl,rfl⟩,HT,HV2⟩
      case measure=>rw[HPOS.out];have hit:=(HGR.out.block w.heap.size (by have:=HLT.out;simp;omega) (fun e=>by have:=Zi HSP.out.ow e;omega)).trans ((zC _ _ _ HLT.out).trans HSP.out.it);simp only[World.iterPos,hit];omega
  ·have hnx:∀ty,(Instr.next (.pointer (some ⟨w.heap.size,0,none⟩)) true ty).run prog wr=_:=fun ty=>run_next_end_at wr w.heap.size s p ty hsp.it hp
   have HE:Hid (acc++fin s p cur=spl s):=by show _=_;rw[<-HS.out,spl_end s f p k rm cur hp]
   have hpe:p=s.size:=by omega
   rcases HBG.out with⟨rfl,rfl⟩|⟨b,rfl,hb,rfl⟩
   ·have HE2:Hid (acc=spl s):=by show _=_;rw[<-HE.out];simp[fin]
    obtain⟨v,hvv⟩:∃v,v=u3:=⟨_,rfl⟩;go_wp2;obtain⟨ad,ln,cp,hsh⟩:=zjL hsp.ow;subst hsh;go_ret;refine⟨_,rfl, ?_,hsp.be⟩;rw[<-HE2.out];exact zdf hsp.ow (by omega)
   ·have HE2:Hid (acc++[(s.extract b p,a)]=spl s):=HE.out;have hsz:=hsp.be.size;have hlt:=lt_of_block hsp.it;have HLT:=ze hlt;have HSP:=ze hsp;clear hlt hsp;subst hpe;go_wp2_with (at_builtin;obtain⟨hi0,hz0,hz1,hz2⟩:=HI.out;refine wpList_append_own _ rfl _ _ 168 rfl (w.heap.size+1) 171 i0 (.agg #[.string ⟨#[]⟩,.int .i64 0]) 2 24 (by kernel_rfl) hi0 hz0 hz1 hz2 rfl (by decide) _ _ _ rfl (HSP.out.ow.alloc _) _ 1 1 [.string (s.extract b s.size),.int .i64 (a:Int)] rfl rfl (Ze _ #[.string (s.extract b s.size),.int .i64 (a:Int)] 171) (by intro u hu;simp at hu;rcases hu with rfl|rfl<;>rfl) (by unfold maxLen;omega) (by omega) (by have:=HLT.out;simp;omega) ?_;intro v' w1 ho3 hgr _;obtain⟨g',cap',rfl,hg1',hg2',hg3'⟩:=zB ho3 (by omega);have HGR:=ze hgr;have HO3:=ze ho3;clear hgr ho3 hi0 hz0 hz1 hz2 hg1' hg2' hg3')
    go_ret;refine⟨_,rfl, ?_,(bal HSP.out.be _).grown HGR.out (by have:=HLT.out;simp;omega) (yM HSP.out.ow)⟩;rw[<-HE2.out,List.length_append,Zp];exact zdf HO3.out (by omega)
end
section
open Go.RowKit Go.Lib
theorem zgu {w:World} {b e size n:Nat} {v:Value} {xs:List Value} (h:w.ownsRow b e size v n xs):∀k,v.ownBlock=some k->b<=k:=fun k hk=>(h.lt k hk).1
def nwd (s:ByteArray) (cur:Option (Nat×Nat)) (a:Nat) (x:ByteArray) (p:Nat):Prop:=(x=⟨#[]⟩/\cur=none)\/∃b:Nat,x=s.extract b p/\b<p/\cur=some (b,a)
end
structure Ri where
 i:It
 a:Nat
 p:Nat
def rit:List (ByteArray×Nat)->Nat->List Ri
 |[],_=>[]
 |x::r,p=>⟨itm x.1,x.2,p⟩::rit r (p+(itm x.1).cd.length)
def lkp (n:ByteArray):List Ri->Option Nat
 |[]=>none
 |y::r=>if y.i.k=1/\y.i.nm=n then some y.p else lkp n r
def flt (lb:ByteArray->Option Nat) (y:Ri):Nat:=
 if y.i.fl≠0 then y.i.fl else if y.i.k=1/\lb y.i.nm≠some y.p then 3 else if y.i.k=2/\lb y.i.nm=none then 3 else 0
def cwt (lb:ByteArray->Option Nat) (y:Ri):List UInt8:=
 if y.i.k=2 then[97,UInt8.ofNat ((lb y.i.nm).getD 0/256),UInt8.ofNat ((lb y.i.nm).getD 0%256)] else y.i.cd
def rn2 (lb:ByteArray->Option Nat):List Ri->List UInt8->List UInt8 ⊕ (Nat×Nat)
 |[],c=>.inl c
 |y::r,c=>if flt lb y=0 then rn2 lb r (c++cwt lb y) else .inr (flt lb y,y.a)
def ZM (s:ByteArray):List Ri:=rit (spl s) 0
def yu (s:ByteArray) (n:ByteArray):Option Nat:=lkp n (ZM s)
def asm (s:ByteArray):ByteArray×Nat×Nat:=
 if 2000<s.size then(⟨#[]⟩,2,0)
 else if (cnt s).2=false then(⟨#[]⟩,2,(cnt s).1)
 else match rn2 (yu s) (ZM s) [] with
  |.inr (e,a)=>(⟨#[]⟩,e,a)
  |.inl c=>if 1000<c.length then(⟨#[]⟩,4,(cnt s).1) else(⟨c.toArray⟩,0,0)
def zan (s:ByteArray):Value:=.tuple #[.string (asm s).1,.int .i64 ((asm s).2.1:Int),.int .i64 ((asm s).2.2:Int)]
theorem rit_len (l:List (ByteArray×Nat)):∀p,(rit l p).length=l.length:=by
 induction l with
 |nil=>intro p;rfl
 |cons x r ih=>intro p;simp[rit,ih]
theorem zeZ (s:ByteArray):(itm s).cd.length<=33:=by
 unfold itm;split
 ·simp
 ·split
  ·simp
  ·unfold itN;split
   ·simp
   ·split
    ·simp
    ·split
     ·simp
     ·exact yh _
section
open Go.RowKit Go.Lib
def ZZ (l:List (Ri×Value)):List Value:=l.flatMap fun y=>[.int .i64 (y.1.i.k:Int),.string y.1.i.nm,y.2,.int .i64 (y.1.i.fl:Int),.int .i64 (y.1.a:Int),.int .i64 (y.1.p:Int)]
theorem zgW (l:List (Ri×Value)) (y:Ri) (v:Value):ZZ (l++[(y,v)])=ZZ l++[.int .i64 (y.i.k:Int),.string y.i.nm,v,.int .i64 (y.i.fl:Int),.int .i64 (y.a:Int),.int .i64 (y.p:Int)]:=by
 unfold ZZ;rw[List.flatMap_append];rfl
theorem zjB (l:List (Ri×Value)) (i:Nat) (h:i<l.length):(ZZ l)[i*6]? =some (.int .i64 ((l[i]).1.i.k:Int))/\(ZZ l)[i*6+1]? =some (.string (l[i]).1.i.nm)/\(ZZ l)[i*6+2]? =some (l[i]).2/\(ZZ l)[i*6+3]? =some (.int .i64 ((l[i]).1.i.fl:Int))/\(ZZ l)[i*6+4]? =some (.int .i64 ((l[i]).1.a:Int))/\(ZZ l)[i*6+5]? =some (.int .i64 ((l[i]).1.p:Int)):=by
 induction l generalizing i with
 |nil=>exact absurd h (Nat.not_lt_zero _)
 |cons x r ih=>
  have e:ZZ (x::r)=.int .i64 (x.1.i.k:Int)::.string x.1.i.nm::x.2::.int .i64 (x.1.i.fl:Int)::.int .i64 (x.1.a:Int)::.int .i64 (x.1.p:Int)::ZZ r:=by unfold ZZ;rw[List.flatMap_cons];rfl
  rw[e];cases i with
  |zero=>exact⟨rfl,rfl,rfl,rfl,rfl,rfl⟩
  |succ i=>
   have h2:=ih i (by simpa using h);rw[show(i+1)*6=i*6+6 by omega];exact h2
def two (a b:Value):Nat->Value:=fun i=>if i=0 then a else b
theorem zmd {w:World} {n:Nat} {t:TypeId} (a b:Value) (hn:n=w.heap.size):(w.alloc (.cells #[a,b] t)).rowIs n t 2 (two a b):=by
 subst hn;refine World.rowIs_alloc w _ t _ fun i hi=> ?_
 rcases(by simp at hi;omega:i=0\/i=1) with rfl|rfl<;>rfl
structure IR (base:Nat) (acc:List (Ri×Value)) (t:Value) (x:World):Prop where
 ow:x.ownsRow base 122 6 t acc.length (ZZ acc)
 cd:∀y∈acc,Bys x base y.2 y.1.i.cd
theorem IR.call {base:Nat} {acc:List (Ri×Value)} {t:Value} {x y:World} (h:IR base acc t x) (hb:Below x.heap.size x y):IR base acc t y:=
 ⟨zA h.ow hb,fun z hz=>zA (h.cd z hz) hb⟩
theorem ZN {w:World} {b e size n:Nat} {v:Value} {xs:List Value} (h:w.ownsRow b e size v n xs):∃(ad:Option Addr) (cp:Nat),v=.slice ad n cp:=by
 rcases h.2 with⟨hv,h0⟩|⟨g,cap,cur,hv,_⟩
 ·subst h0;exact⟨_,_,hv⟩
 ·exact⟨_,_,hv⟩
theorem zct {w:World} {b e size n b' e' size' n':Nat} {v v':Value} {xs xs':List Value} (h:w.ownsRow b e size v n xs) (h':w.ownsRow b' e' size' v' n' xs') (hne:e≠e'):v.ownBlock=none\/v.ownBlock≠v'.ownBlock:=by
 rcases h.2 with⟨rfl,_⟩|⟨g,cap,cur,rfl,_,h1,_⟩
 ·exact Or.inl rfl
 ·rcases h'.2 with⟨rfl,_⟩|⟨g',cap',cur',rfl,_,h1',_⟩
  ·exact Or.inr (by simp[Value.ownBlock])
  ·refine Or.inr fun e1=>hne ?_
   have e2:g=g':=by simpa[Value.ownBlock] using e1
   subst e2;rw[h1] at h1';injection h1' with h2
   injection h2
theorem IR.grow {base:Nat} {acc:List (Ri×Value)} {t t':Value} {x z:World} {y:Ri} {v:Value} (h:IR base acc t x) (hg:x.grownBy z t.ownBlock) (hv:Bys x base v y.i.cd)
  (ho:z.ownsRow base 122 6 t' (acc.length+1) (ZZ acc++[.int .i64 (y.i.k:Int),.string y.i.nm,v,.int .i64 (y.i.fl:Int),.int .i64 (y.a:Int),.int .i64 (y.p:Int)])):IR base (acc++[(y,v)]) t' z:=by
 refine⟨by rw[zgW,List.length_append];exact ho,fun q hq=> ?_⟩;rcases List.mem_append.1 hq with hq|hq
 ·exact World.ownsRow.kept (h.cd q hq) hg (zct (h.cd q hq) h.ow (by decide))
 ·have e:q=(y,v):=List.mem_singleton.1 hq;subst e;exact World.ownsRow.kept hv hg (zct hv h.ow (by decide))
theorem zmE {acc:List (Ri×Value)} {L:List (ByteArray×Nat)} {j pl:Nat} {R:List Ri} {x:ByteArray×Nat} {it:It} (v:Value) (hj:j<L.length) (hx:x=L[j]) (hi:it=itm x.1) (h:acc.map Prod.fst++rit (L.drop j) pl=R):
  (acc++[((⟨it,x.2,pl⟩:Ri),v)]).map Prod.fst++rit (L.drop (j+1)) (pl+it.cd.length)=R:=by
 rw[List.drop_eq_getElem_cons hj,<-hx,rit,<-hi] at h;rw[List.map_append,List.append_assoc];exact h
theorem info_it:(prog.info? 122).map (fun i=>(i.zero,i.size,i.bytes))=some (some (.agg #[.int .i64 0,.string ⟨#[]⟩,.slice none 0 0,.int .i64 0,.int .i64 0,.int .i64 0]),6,72):=by kernel_rfl
def zkr (s:ByteArray) (w:World) (e:Ending) (w':World):Prop:=∃(v:Value) (l:List (Ri×Value)),e=.returned v/\IR w.heap.size l v w'/\l.map Prod.fst=ZM s/\Below w.heap.size w w'
theorem zdn (s:ByteArray) (hs:s.size<=2000) (hv:Hid (Whole s)) (w:World):Calls prog 51 #[.string s] w fun e w'=>zkr s w e w':=by
 obtain⟨i0,hi0,hz0,hz1,hz2⟩:=info_parts info_it;have HI:=ze (And.intro hi0 (And.intro hz0 (And.intro hz1 hz2)));clear hi0 hz0 hz1 hz2;have HSP:=ze (zj4 s hs hv);have HL:Hid ((spl s).length<=2001):=Nat.le_trans (zfg s) (by omega);have HFT:=ze (ziZ hv.out);have HRL:Hid (ZM s=rit (spl s) 0):=rfl;go_enter func51,ntmps51;go_wp2_with fail
 refine(HSP.out _).mono ?_;rintro e w1 ⟨v,rfl,hps,hbe1⟩;obtain⟨L,HLL⟩:∃L,Hid (L=spl s):=⟨_,rfl⟩;rw[<-HLL.out] at hps HL HFT HRL;clear HSP HLL;have HB1:=ze hbe1;have HPS:=ze hps;have hL:=HL.out;rcases hps.2 with⟨rfl,hn⟩|⟨g,cap,cur,rfl,_⟩
 ·have HE:Hid (([]:List (Ri×Value)).map Prod.fst=ZM s):=by show _=_;rw[HRL.out,List.length_eq_zero_iff.1 hn];rfl
  clear hps hbe1;go_wp2
  go_loopw [3,4,11] (fun t3 t4 t11 wr=>t3=.slice none 0 0/\t11=.int .i64 0/\Hid (wr=w1)) (fun _ _ _ _=>0)
  case atStart=>exact⟨rfl,rfl,rfl⟩
  case round=>
   obtain⟨rfl,rfl,HW⟩:=hrel;go_wp2;go_ret;exact⟨_,[],rfl,⟨World.ownsRow_nil _ _ _ _,fun y hy=>by cases hy⟩,HE.out,by rw[HW.out];exact HB1.out⟩
 ·clear hps hbe1;go_wp2
  go_loopw [3,4,11] (fun t3 t4 t11 wr=>∃(j pl:Nat) (acc:List (Ri×Value)),t11=.int .i64 (j:Int)/\t4=.int .i64 (pl:Int)/\IR w1.heap.size acc t3 wr/\Below w1.heap.size w1 wr/\acc.length=j/\j<=L.length/\pl<=33*j/\Hid (acc.map Prod.fst++rit (L.drop j) pl=ZM s)) (fun _ _ t11 _=>L.length - (RowKit.intOf t11).toNat)
  case atStart=>exact⟨0,0,[],rfl,rfl,⟨World.ownsRow_nil _ _ _ _,fun y hy=>by cases hy⟩,Below.refl _ _,rfl,by omega,by omega,HRL.out.symm⟩
  case round=>
   obtain⟨j,pl,acc,rfl,rfl,hir,hbe,hac,hj,hpl,HR⟩:=hrel;by_cases hlt:j<L.length
   ·have hps2:=zA HPS.out hbe;have hc1:=(hps2.cellAt (j*2) (by omega)).trans (zdY L j hlt).1;have hc2:=(hps2.cellAt (j*2+1) (by omega)).trans (zdY L j hlt).2;obtain⟨f1,f2,f3,f4⟩:=HFT.out (L[j]) (List.getElem_mem hlt);have HRI:=ze (zex (L[j]).1 (Nat.le_trans f3 hs) f1 f2);obtain⟨x,HX⟩:∃x:ByteArray×Nat,Hid (x=L[j]):=⟨L[j],ze rfl⟩;rw[<-HX.out] at hc1 hc2 HRI;clear hps2 f1 f2 f3 f4;have HIR:=ze hir;have HBE:=ze hbe;clear hir hbe;go_wp2_with fail
    refine(HRI.out _).mono ?_;rintro e w2 ⟨vc,rfl,hby,hb2⟩;obtain⟨it,HIT⟩:∃it,Hid (it=itm x.1):=⟨_,rfl⟩;rw[<-HIT.out] at hby⊢;have hcdl:it.cd.length<=33:=by rw[HIT.out];exact zeZ _
    have hat:(w2.alloc (.cells #[.int .i64 (it.k:Int),.string it.nm,vc,.int .i64 (it.fl:Int),.int .i64 0,.int .i64 0] 122)).cell? ⟨wr.heap.size,1,none⟩=some (.int .i64 (x.2:Int)):=by
     have hr:(wr.alloc (.cells #[.string x.1,.int .i64 (x.2:Int)] 171)).rowIs wr.heap.size 171 2 (two (.string x.1) (.int .i64 (x.2:Int))):=zmd _ _ rfl;exact((zf hr hb2).alloc _).cell (i:=1) (by omega)
    have HB2:=ze hb2;have HBY:=ze hby;obtain⟨ad,cp,hsh⟩:=ZN hby;subst hsh;clear hb2 hby;unfold itV
    go_upto_region 9 with fail
    obtain⟨w3,HW3⟩:∃w3,Hid (w3=w2.alloc (.cells #[.int .i64 (it.k:Int),.string it.nm,.slice ad it.cd.length cp,.int .i64 (it.fl:Int),.int .i64 (x.2:Int),.int .i64 (pl:Int)] 122)):=⟨_,rfl⟩;have hbx:Below wr.heap.size wr w3:=by rw[HW3.out];exact bal (zD (bal (Below.refl _ _) _) HB2.out) _
    have HIR3:=ze (HIR.out.call hbx);have HBE3:=ze (zD HBE.out hbx);have hrow:w3.rowIs w2.heap.size 122 6 (six (.int .i64 (it.k:Int)) (.string it.nm) (.slice ad it.cd.length cp) (.int .i64 (it.fl:Int)) (.int .i64 (x.2:Int)) (.int .i64 (pl:Int))):=by rw[HW3.out];exact zcs _ _ _ _ _ _ rfl
    have HBY3:Hid (Bys w3 w1.heap.size (.slice ad it.cd.length cp) it.cd):=by show Bys _ _ _ _;rw[HW3.out];exact(HBY.out.alloc _).mono (by have:=HBE.out.size;simp;omega)
    have HLT:Hid (w2.heap.size<w3.heap.size/\wr.heap.size<=w2.heap.size):=⟨hrow.lt,by have:=HB2.out.size;simp at this;omega⟩;have HOB:Hid (∀k,u3.ownBlock=some k->k<wr.heap.size):=fun k hk=>(HIR.out.ow.lt k hk).2
    rw[<-HW3.out];obtain⟨c0,c1,c2,c3,c4,c5⟩:=zU hrow;have HROW:=ze hrow;clear hrow HW3 hat HBE HB2 HBY HIR hbx;go_wp2_with (at_builtin;obtain⟨hi0,hz0,hz1,hz2⟩:=HI.out;refine wpList_append_own _ rfl _ _ 116 rfl w1.heap.size 122 i0 (.agg #[.int .i64 0,.string ⟨#[]⟩,.slice none 0 0,.int .i64 0,.int .i64 0,.int .i64 0]) 6 72 (by kernel_rfl) hi0 hz0 hz1 hz2 rfl (by decide) _ _ _ rfl (HIR3.out.ow.alloc _) _ 1 1 [.int .i64 (it.k:Int),.string it.nm,.slice ad it.cd.length cp,.int .i64 (it.fl:Int),.int .i64 (x.2:Int),.int .i64 (pl:Int)] rfl rfl (Ze _ #[.int .i64 (it.k:Int),.string it.nm,.slice ad it.cd.length cp,.int .i64 (it.fl:Int),.int .i64 (x.2:Int),.int .i64 (pl:Int)] 122) (by intro u hu;simp at hu;rcases hu with rfl|rfl|rfl|rfl|rfl|rfl<;>rfl) (by unfold maxLen;omega) (by omega) (by have:=HBE3.out.size;simp;omega) ?_;intro v' w4 ho3 hgr _;obtain⟨g',cap',rfl,hg1',hg2',hg3'⟩:=zB ho3 (by omega);have hro2:=(HROW.out.alloc (.cells #[.int .i64 (it.k:Int),.string it.nm,.slice ad it.cd.length cp,.int .i64 (it.fl:Int),.int .i64 (x.2:Int),.int .i64 (pl:Int)] 122)).of_block (hgr.block w2.heap.size (by have:=HLT.out.1;simp;omega) (fun e=>by have:=HOB.out _ e.symm;have:=HLT.out.2;omega));obtain⟨q0,q1,q2,q3,q4,q5⟩:=zU hro2;have HGR:=ze hgr;have HO3:=ze ho3;clear hgr ho3 hi0 hz0 hz1 hz2 hg1' hg2' hg3' hro2 c0 c1 c2 c3 c4 c5)
    go_roundw
    case rel=>exact⟨j+1,pl+it.cd.length,acc++[((⟨it,x.2,pl⟩:Ri),.slice ad it.cd.length cp)],by go_num,by go_num,(by have h:=IR.grow (y:=⟨it,x.2,pl⟩) (HIR3.out.call (bal (Below.refl _ _) _)) HGR.out (HBY3.out.alloc _) HO3.out;rw[hac] at h;exact h),(bal HBE3.out _).grown HGR.out (by have:=HBE3.out.size;simp;omega) (zgu HIR3.out.ow),by rw[List.length_append];show _+1=_;omega,by omega,by omega,zmE _ hlt HX.out HIT.out HR.out⟩
    case measure=>simp[RowKit.intOf];omega
   ·have HE:Hid (acc.map Prod.fst=ZM s):=by show _=_;rw[<-HR.out,List.drop_of_length_le (by omega),rit,List.append_nil]
    obtain⟨ad,cp,hsh⟩:=ZN hir.ow;subst hsh;go_wp2;go_ret;exact⟨_,acc,rfl,⟨zdf hir.ow HB1.out.size,fun y hy=>(hir.cd y hy).mono HB1.out.size⟩,HE.out,zD HB1.out hbe⟩
end
structure Kb (S:List Nat) (w w':World):Prop where
 os:w'.os=w.os
 tape:w'.tape=w.tape
 output:w'.output=w.output
 size:w.heap.size<=w'.heap.size
 block:∀k,k<w.heap.size->k∉S->w'.heap[k]? =w.heap[k]?
theorem Kb.refl (S:List Nat) (w:World):Kb S w w:=⟨rfl,rfl,rfl,Nat.le_refl _,fun _ _ _=>rfl⟩
theorem Kb.trans {S T:List Nat} {a b c:World} (h:Kb S a b) (k:Kb T b c) (hT:∀i∈T,i∈S\/a.heap.size<=i):Kb S a c:=
 ⟨k.os.trans h.os,k.tape.trans h.tape,k.output.trans h.output,Nat.le_trans h.size k.size,fun i hi hS=>(k.block i (Nat.lt_of_lt_of_le hi h.size) (fun hT'=>by rcases hT i hT' with h1|h1;exact hS h1;omega)).trans (h.block i hi hS)⟩
theorem Kb.mono {S T:List Nat} {a b:World} (h:Kb S a b) (hT:∀i∈S,i∈T):Kb T a b:=⟨h.os,h.tape,h.output,h.size,fun i hi hn=>h.block i hi (fun k=>hn (hT i k))⟩
theorem Kb.of_below {S:List Nat} {a b:World} (h:Below a.heap.size a b):Kb S a b:=⟨h.os,h.tape,h.output,h.size,fun i hi _=>h.block i hi⟩
theorem Kb.to_below {a b:World} (h:Kb [] a b):Below a.heap.size a b:=⟨h.os,h.tape,h.output,h.size,fun i hi=>h.block i hi (by simp)⟩
theorem Kb.below {S:List Nat} {a b c:World} (h:Kb S a b) (k:Below b.heap.size b c):Kb S a c:=h.trans (Kb.of_below (S:=[]) k) (by simp)
theorem Kb.alloc {S:List Nat} {a b:World} (h:Kb S a b) (o:Obj):Kb S a (b.alloc o):=h.below (bal (Below.refl _ _) o)
theorem Kb.drew {S:List Nat} {a b:World} (h:Kb S a b):Kb S a b.drew:=⟨h.os,h.tape,h.output,h.size,h.block⟩
theorem Kb.setCell {S:List Nat} {a b:World} (h:Kb S a b) {p:Addr} (hp:p.block∈S\/a.heap.size<=p.block) (u:Value):Kb S a (b.setCell p u):=
 h.trans (T:=[p.block]) ⟨rfl,rfl,rfl,by simp[World.setCell],fun k _ hk=>Below.heap_setCell _ _ _ _ (by simpa using hk)⟩ (by simpa using hp)
theorem Kb.setRow {S:List Nat} {a b:World} (h:Kb S a b) {g:Nat} (hg:g∈S\/a.heap.size<=g) (cs:Array Value):Kb S a (b.setRow g cs):=
 h.trans (T:=[g]) ⟨rfl,rfl,rfl,by simp[World.setRow],fun k _ hk=>setRow_other b g k cs (by simpa using hk)⟩ (by simpa using hg)
theorem Kb.grown {S:List Nat} {a b c:World} {row:Option Nat} (h:Kb S a b) (hg:b.grownBy c row) (hr:∀k,row=some k->k∈S\/a.heap.size<=k):Kb S a c:=
 h.trans (T:=row.toList) ⟨hg.os,hg.tape,hg.output,hg.size,fun k hk hn=>hg.block k hk (fun e=>hn (by rw[<-e];simp))⟩ (fun i hi=>hr i (by simpa using hi))
theorem Kb.row {S:List Nat} {a b:World} (h:Kb S a b) {g n:Nat} {t:TypeId} {f:Nat->Value} (hr:a.rowIs g t n f) (hg:g∉S):b.rowIs g t n f:=hr.of_block (h.block g hr.lt hg)
theorem Kb.own {S:List Nat} {a b:World} (h:Kb S a b) {base e size n:Nat} {v:Value} {xs:List Value} (ho:a.ownsRow base e size v n xs) (hv:∀k,v.ownBlock=some k->k∉S):b.ownsRow base e size v n xs:=by
 refine⟨ho.1, ?_⟩;rcases ho.2 with h1|⟨g,cap,cur,h1,h2,h3,h4⟩
 ·exact Or.inl h1
 ·exact Or.inr ⟨g,cap,cur,h1,h2,(h.block g (lt_of_block h3) (hv g (by rw[h1];rfl))).trans h3,h4⟩
def yj (l:List Nat):List Value:=l.flatMap fun n=>[.int .u64 (za n 0),.int .u64 (za n 1),.int .u64 (za n 2),.int .u64 (za n 3)]
theorem zgX (l:List Nat) (n:Nat):yj (l++[n])=yj l++[.int .u64 (za n 0),.int .u64 (za n 1),.int .u64 (za n 2),.int .u64 (za n 3)]:=by simp[yj]
theorem zaI (l:List Nat):(yj l).length=l.length*4:=by
 induction l with
 |nil=>rfl
 |cons n l ih=>simp[yj] at ih⊢;omega
def Wds (w:World) (base:Nat) (v:Value) (l:List Nat):Prop:=w.ownsRow base 24 4 v l.length (yj l)
theorem zQ {w:World} {fb T N base e size n:Nat} {f:Nat->Value} {v:Value} {xs:List Value} (hr:w.rowIs fb T N f) (ho:w.ownsRow base e size v n xs) (hT:T≠e):∀k,v.ownBlock=some k->k≠fb:=by
 intro k hk e1;subst e1;obtain⟨c,hb,_⟩:=hr;rcases ho.2 with⟨h1,_⟩|⟨g,cap,cur,h1,h2,h3,_⟩
 ·rw[h1] at hk;cases hk
 ·rw[h1] at hk;obtain rfl:g=k:=by simpa[Value.ownBlock] using hk
  rw[hb] at h3;injection h3 with h3
  injection h3 with _ h4
  exact hT h4
structure Up (S:List Nat) (fb o:Nat) (v':Value) (w w':World):Prop where
 kb:Kb (fb::S) w w'
 row:∀{T N f},w.rowIs fb T N f->w'.rowIs fb T N (fun i=>if i=o then v' else f i)
theorem Up.mk' {S:List Nat} {fb o:Nat} {w x:World} (v':Value) (h:Kb S w x) (hS:fb∉S) (hlt:fb<w.heap.size):Up S fb o v' w (x.setCell ⟨fb,o,none⟩ v'):=
 ⟨(h.mono (fun i hi=>List.mem_cons_of_mem _ hi)).setCell (Or.inl (by simp)) _,fun hr=>(h.row hr hS).set o v'⟩
theorem zbZ {w:World} {base e size n fb:Nat} {v:Value} {xs:List Value} (h:w.ownsRow base e size v n xs) (hne:∀k,v.ownBlock=some k->k≠fb) (o:Nat) (u:Value):(w.setCell ⟨fb,o,none⟩ u).ownsRow base e size v n xs:=
 ((Kb.refl [fb] w).setCell (p:=⟨fb,o,none⟩) (Or.inl (by simp)) u).own h (fun k hk=>by simpa using hne k hk)
def Pan (e:Ending):Prop:=∃(u:TypeId) (pv:Value),e=.panicked [{v:=.iface u pv,recovered:=false}]
theorem info_wd:(prog.info? 24).map (fun i=>(i.zero,i.size,i.bytes))=some (some (.agg #[.int .u64 0,.int .u64 0,.int .u64 0,.int .u64 0]),4,32):=by kernel_rfl
def zar (w:World) (v v':Value):Prop:=v'.ownBlock=v.ownBlock\/∀k,v'.ownBlock=some k->w.heap.size<=k
theorem zbo {P:Program} (w:World) (base:Nat) (t ty e:TypeId) (i:TypeInfo) (z:Value) (size bytes:Nat) (ht:P.underlying t=some (.slice e)) (hi:P.info? e=some i) (hz:i.zero=some z)
  (hsize:i.size=size) (hby:i.bytes=bytes) (hzs:z.cells.size=size) (hsz:0<size)
  (v:Value) (n:Nat) (xs:List Value) (hown:w.ownsRow base e size v n xs)
  (a:Addr) (m c:Nat) (news:List Value) (hl:news.length=m*size) (hnews:∀j u,news[j]? =some u->w.cell? (a.add j)=some u) (h1:∀u∈news,u.oneCell'=true)
  (h63:n+m<=maxLen) (hbytes:(n+m)*bytes<=140737488355328) (hbase:base<=w.heap.size):
  ∃v' w',(Builtin.append_ #[t,t] ty #[v,.slice (some a) m c]).run P w=.ok v' w'/\w'.ownsRow base e size v' (n+m) (xs++news)/\w.grownBy w' v.ownBlock/\zar w v v':=by
 obtain⟨v',w',hrun,ho,hg,hnil⟩:=run_append_own w base t ty e i z size bytes ht hi hz hsize hby hzs hsz v n xs hown a m c news hl hnews h1 h63 hbytes hbase;refine⟨v',w',hrun,ho,hg, ?_⟩;rcases hown.2 with⟨rfl,rfl⟩|⟨g,cap,cur,rfl,hb,hgb,hnc,hcm,hcs,htk⟩
 ·right;obtain rfl:xs=[]:=List.eq_nil_of_length_eq_zero (by simpa using hown.1);obtain⟨v2,w2,hrun2,ho2,hg2,_⟩:=run_append_own w w.heap.size t ty e i z size bytes ht hi hz hsize hby hzs hsz (.slice none 0 0) 0 [] (World.ownsRow_nil w _ e size) a m c news hl hnews h1 h63 hbytes (Nat.le_refl _);rw[hrun] at hrun2;injection hrun2 with e1 e2
  subst e1;exact fun k hk=>(ho2.lt k hk).1
 ·by_cases hr:n+m<=cap
  ·left;subst hsize
   have hlt:∀j,j<news.length->n*i.size+j<cur.size:=fun j hj=>by
    rw[hcs];have:(n+m)*i.size<=cap*i.size:=Nat.mul_le_mul_right _ hr;rw[Nat.add_mul] at this;omega
   have h2:=run_append_room_cells (P:=P) w t ty e i ht hi g 0 n cap a m c news hl hnews h1 hr
    (fun j hj=>by rw[Nat.zero_add,cell_of_row _ g _ cur e (0,0) hgb];simp[hlt j hj])
    (fun j hj=>by simp[World.frozen?,hgb])
   rw[hrun] at h2;injection h2 with e1 e2
   subst e1;rfl
  ·right;obtain⟨v2,w2,hrun2,ho2,hg2⟩:=run_append_arg_grows (P:=P) w t ty e i z size bytes ht hi hz hsize hby hzs hsz ⟨g,0,none⟩ n cap xs hown.1 (hown.cells rfl) a m c news hl hnews (by omega) h63 hbytes;rw[hrun] at hrun2;injection hrun2 with e1 e2
   subst e1;exact fun k hk=>(ho2.lt k hk).1
theorem Yz {P:Program} {w:World} {ops:Array Oper} {o:Oper} {a:Act} {K:Act->World->Prop} {Q:Exit->Act->World->Prop} {E:Prop} (hgd:o.guard=none) (s x:Operand) (t:TypeId)
  (ho:o.op=.call {callee:=.builtin .append,args:=#[s,x],argTypes:=#[t,t]})
  (base:Nat) (e:TypeId) (i:TypeInfo) (z:Value) (size bytes:Nat) (ht:P.underlying t=some (.slice e)) (hi:P.info? e=some i) (hz:i.zero=some z)
  (hsize:i.size=size) (hby:i.bytes=bytes) (hzs:z.cells.size=size) (hsz:0<size)
  (v:Value) (n:Nat) (xs:List Value) (hs:a.eval s=v) (hown:w.ownsRow base e size v n xs)
  (ad:Addr) (m c:Nat) (news:List Value) (hx:a.eval x=.slice (some ad) m c) (hl:news.length=m*size) (hnews:∀j u,news[j]? =some u->w.cell? (ad.add j)=some u) (h1:∀u∈news,u.oneCell'=true)
  (h63:n+m<=maxLen) (hbytes:(n+m)*bytes<=140737488355328) (hbase:base<=w.heap.size)
  (h:∀v' w',w'.ownsRow base e size v' (n+m) (xs++news)->w.grownBy w' v.ownBlock->zar w v v'->K (a.put o.dst v') w'):if Region.wanted o (yielded ops a.tmps)=true then Oper.wp P o a w K Q else E:=by
 rw[if_pos (zg hgd)];obtain⟨v',w',hrun,r1,r2,r3⟩:=zbo w base t o.type e i z size bytes ht hi hz hsize hby hzs hsz v n xs hown ad m c news hl hnews h1 h63 hbytes hbase;unfold Oper.wp;simp[execOp,ho,resolve,invoke,builtin,hs,hx,hrun,Result.andThen];exact h v' w' r1 r2 r3
theorem zkA {T N:Nat} {f:Nat->Value} (fb o n base:Nat) (l:List Nat) (v:Value) (w:World) (hr:w.rowIs fb T N f) (ho:o<N) (hv:f o=v) (hs:Wds w base v l) (hl:l.length=1024):
  Calls prog 259 #[.pointer (some ⟨fb,o,none⟩),wv n] w fun e w'=>Pan e/\Below w.heap.size w w':=by
 obtain⟨ad,cap,rfl⟩:=ZN hs;rw[hl] at hv;have hc1:(w.alloc (wc n)).cell? ⟨fb,o,none⟩=some (.slice ad 1024 cap):=((bal (Below.refl _ w) (wc n)).cell (by exact hr.lt)).trans ((hr.cell ho).trans (congrArg some hv));clear hr hv hs;go_enter func259,ntmps259;go_wp2;exact⟨rfl,⟨_,_,rfl⟩,bal (Below.refl _ _) _⟩
theorem push_ok {T N:Nat} {f:Nat->Value} (fb o n base:Nat) (l:List Nat) (v:Value) (w:World) (hr:w.rowIs fb T N f) (ho:o<N) (hv:f o=v) (hT:T≠24) (hs:Wds w base v l) (hl:l.length<1024) (hb:base<=w.heap.size):
  Calls prog 259 #[.pointer (some ⟨fb,o,none⟩),wv n] w fun e w'=>e=.returned (.tuple #[])/\∃v',Wds w' base v' (l++[n])/\zar w v v'/\Up v.ownBlock.toList fb o v' w w':=by
 have hlt:=hr.lt;have hc:w.cell? ⟨fb,o,none⟩=some v:=(hr.cell ho).trans (congrArg some hv);have hz:w.frozen? ⟨fb,o,none⟩=false:=hr.frozen o;have hfb:=zQ hr hs hT;have HR:=ze hr;have HT:=ze hT;clear hr hv hT ho;obtain⟨i0,hi0,hz0,hz1,hz2⟩:=info_parts info_wd;have HI:=ze (And.intro hi0 (And.intro hz0 (And.intro hz1 hz2)));clear hi0 hz0 hz1 hz2;obtain⟨ad,cp,rfl⟩:=ZN hs;have hc1:(w.alloc (wc n)).cell? ⟨fb,o,none⟩=some (.slice ad l.length cp):=((bal (Below.refl _ w) (wc n)).cell (by exact hlt)).trans hc;have hne:((l.length:Int)==1024)=false:=by simp;omega
 have HB1:Hid (Below w.heap.size w ((w.alloc (wc n)).drew.alloc (wc n))):=bal (bal (Below.refl _ w) _).drew _;have hc2:((w.alloc (wc n)).drew.alloc (wc n)).cell? ⟨fb,o,none⟩=some (.slice ad l.length cp):=(HB1.out.cell (by exact hlt)).trans hc;have HS:Hid (Wds ((w.alloc (wc n)).drew.alloc (wc n)) base (.slice ad l.length cp) l):=zA hs HB1.out;have HC:=ze hc;have HZ:=ze hz;have HF:=ze hfb;have HLT:=ze hlt
 have HLC:Hid (∀j u,[Value.int .u64 (za n 0),.int .u64 (za n 1),.int .u64 (za n 2),.int .u64 (za n 3)][j]? =some u->((w.alloc (wc n)).drew.alloc (wc n)).cell? ((⟨w.heap.size+1,0,none⟩:Addr).add j)=some u):=by
  have h:=Ze (w.alloc (wc n)).drew #[.int .u64 (za n 0),.int .u64 (za n 1),.int .u64 (za n 2),.int .u64 (za n 3)] 24;rw[show(w.alloc (wc n)).drew.heap.size=w.heap.size+1 by simp] at h;exact h
 clear hs hc hz hfb;go_enter func259,ntmps259;go_wp2
 go_region_law (obtain⟨hi0,hz0,hz1,hz2⟩:=HI.out;refine Yz rfl (.tmp 13) (.tmp 15) 135 rfl base 24 i0 (.agg #[.int .u64 0,.int .u64 0,.int .u64 0,.int .u64 0]) 4 32 (by kernel_rfl) hi0 hz0 hz1 hz2 rfl (by decide) (.slice ad l.length cp) l.length (yj l) rfl HS.out ⟨w.heap.size+1,0,none⟩ 1 1 [.int .u64 (za n 0),.int .u64 (za n 1),.int .u64 (za n 2),.int .u64 (za n 3)] rfl rfl HLC.out (by intro u hu;simp at hu;rcases hu with rfl|rfl|rfl|rfl<;>rfl) (by unfold maxLen;omega) (by omega) (by simp;omega) ?_;intro v' x ho hgr hfr;obtain⟨g',cap',rfl,hg1,hg2,hg3⟩:=zB ho (by omega);have hxb:=hgr.block fb (Nat.lt_of_lt_of_le HLT.out HB1.out.size) (fun e=>HF.out fb e.symm rfl);have hcx:x.cell? ⟨fb,o,none⟩=some (.slice ad l.length cp):=(World.cell?_of_block hxb).trans hc2;have hzx:x.frozen? ⟨fb,o,none⟩=false:=(World.frozen?_of_block hxb).trans ((HB1.out.frozen (by exact HLT.out)).trans HZ.out);have HO:=ze ho;have HG:=ze hgr;have HFR:=ze hfr;clear hfr ho hgr hxb hg1 hg2 hg3 hi0 hz0 hz1 hz2)
 all_goals go_wp2
 all_goals go_end0
 all_goals (
  have hkb:=(Kb.of_below (S:=(Value.slice ad l.length cp).ownBlock.toList) (bal (bal (Below.refl _ w) _) _)).drew.grown HG.out (fun k hk=>Or.inl (by rw[hk];simp));have hni:fb∉(Value.slice ad l.length cp).ownBlock.toList:=fun hm=>HF.out fb (by simpa using hm) rfl
  have ho:Wds x base (.slice (some ⟨g',0,none⟩) (l.length+1) cap') (l++[n]):=by unfold Wds;rw[List.length_append,zgX];exact HO.out
  exact⟨rfl,_,zbZ ho (zQ (hkb.row HR.out hni) ho HT.out) o _,HFR.out.imp id (fun h k hk=>Nat.le_trans HB1.out.size (h k hk)),Up.mk' _ hkb hni HLT.out⟩)
end cin
end Go.Proofs.YtohoajjdoihekaaGreatDoor
