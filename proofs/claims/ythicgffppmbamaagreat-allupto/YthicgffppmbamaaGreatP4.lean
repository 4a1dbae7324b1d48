import Derived.BigQuiet
import Derived.Test.YthicgffppmbamaaGreatP2
import Derived.Test.YthicgffppmbamaaGreatP3
set_option maxRecDepth 100000
set_option maxHeartbeats 16000000
namespace Go.Proofs.YthicgffppmbamaaGreat
open Go.RowKit
def qK (bJ:List Value)(l:List Pl.eu):List Value:=(List.zipWith (fun pv(g:Pl.eu)=>[I g.rows,pv]) bJ l).flatten
theorem QS (bJ:List Value)(l:List Pl.eu)(pv:Value)(g:Pl.eu)(h:bJ.length=l.length):qK (bJ++[pv]) (l++[g])=qK bJ l++[I g.rows,pv]:=by
 unfold qK;rw[List.zipWith_append h];simp
def u7 (C:Nat→Prop)(w:World)(bD:Nat)(bJ:List Value)(l:List Pl.eu):Prop:=
 bJ.length=l.length∧∀(i:Nat)(pv:Value)(g:Pl.eu),bJ[i]?=some pv→l[i]?=some g→g.pages.length=bD∧bM C false w 3 pv bD (g.pages.flatMap jf)
theorem u7.go {C C':Nat→Prop}{S:Nat→Prop}{w w':World}{bD:Nat}{bJ:List Value}{l:List Pl.eu}(h:u7 C w bD bJ l)(k:Kp S w w')(hS:∀i,C i→¬S i)(hC:∀i,i<w.heap.size→C i→C' i):u7 C' w' bD bJ l:=
 ⟨h.1,fun i pv g a b=>⟨(h.2 i pv g a b).1,(h.2 i pv g a b).2.go k hS hC⟩⟩
theorem u7.snoc {C:Nat→Prop}{w:World}{bD:Nat}{bJ:List Value}{l:List Pl.eu}(h:u7 C w bD bJ l){pv:Value}{g:Pl.eu}(hl:g.pages.length=bD)(hp:bM C false w 3 pv bD (g.pages.flatMap jf)):u7 C w bD (bJ++[pv]) (l++[g]):=by
 refine⟨by simp[h.1],fun i pv' g' a b=>?_⟩;by_cases hi:i<bJ.length
 ·rw[aS hi]at a;rw[aS (by rw[←h.1];exact hi)]at b;exact h.2 i pv' g' a b
 ·rw[aP af]at a;rw[aP (by rw[←h.1];omega)]at b;rw[List.getElem?_singleton]at a b;split at a
  ·rw[if_pos (by rw[←h.1];assumption)]at b;cases a;cases b;exact⟨hl,hp⟩
  ·cases a
inductive EG (C:Nat→Prop)(w':World):Option Pl.KX→Ending→Prop
 |no:EG C w' none (.returned (.tuple #[.agg #[.slice none 0 0,.slice none 0 0],.bool false]))
 |yes (f:Pl.KX) (nv gv:Value) (bJ:List Value) (hn:bM C false w' 1 nv f.names.length (f.names.map tx)) (hg:bM C false w' 2 gv f.groups.length (qK bJ f.groups)) (hp:u7 C w' f.names.length bJ f.groups):
  EG C w' (some f) (.returned (.tuple #[.agg #[nv,gv],.bool true]))
theorem I_ (n:Nat)(r:Pl.dS):(Pl.iter Pl.iK n ([],r)).1.length=n∧(Pl.iter Pl.iK n ([],r)).2.1.length≤r.1.length:=by
 induction n with
 |zero=>exact⟨rfl,aK _⟩
 |succ n ih=>
  refine⟨by simp[Pl.iter,Pl.iK,ih.1],?_⟩;refine aO ?_ ih.2;have ht:∀k r,(Pl.mh k r).2.1.length≤r.1.length:=by
   intro k r;unfold Pl.mh;split
   ·exact aK _
   ·simp
  exact aO (ht _ _) (jl _ _ _)
theorem yT (bD foot n:Nat)(r:Pl.dS):(Pl.iter (Pl.fT bD foot) n ([],r)).1.length=n∧(Pl.iter (Pl.fT bD foot) n ([],r)).2.1.length≤r.1.length:=by
 induction n with
 |zero=>exact⟨rfl,aK _⟩
 |succ n ih=>exact⟨by simp[Pl.iter,Pl.fT,ih.1],aO (aO (vH foot bD _).2 (jl _ _ _)) ih.2⟩
def zFg :Value:=.agg #[.int .i64 0,.slice none 0 0]
theorem abd :(Tryz.prog.info? 229).map (fun i=>(i.zero,i.size,i.bytes))=some (some zFg,2,32):=by kernel_rfl
theorem Hz (C:Nat→Prop)(w:World)(v:Value)(l:List UInt8)(foot:Nat)(hC:∀i,C i→i<w.heap.size)(h:bM C false w 1 v l.length (l.map B))(hl:l.length≤1000000)(Lr:4≤foot)(hf:foot≤1000000):
 Calls Tryz.prog 120 #[v,.int .i64 foot] w fun e w'=>Ext w w'∧EG (fun b=>w.heap.size≤b) w' (Pl.gU l foot) e:=by
 have hq:¬C (w.heap.size+1):=fun e=>by have:=hC _ e;omega
 have HP:Hid (Pl.gU l foot=if Pl.iN (Pl.iter (Pl.fT (Pl.iter Pl.iK (Pl.di 1 4 (l,false)).1 ([],(Pl.di 1 4 (l,false)).2)).1.length foot) (Pl.di 0 6 (Pl.iter Pl.iK (Pl.di 1 4 (l,false)).1 ([],(Pl.di 1 4 (l,false)).2)).2).1 ([],(Pl.di 0 6 (Pl.iter Pl.iK (Pl.di 1 4 (l,false)).1 ([],(Pl.di 1 4 (l,false)).2)).2).2)).2=true∧Pl.fJ (Pl.iter Pl.iK (Pl.di 1 4 (l,false)).1 ([],(Pl.di 1 4 (l,false)).2)).1=true then some ⟨(Pl.iter Pl.iK (Pl.di 1 4 (l,false)).1 ([],(Pl.di 1 4 (l,false)).2)).1,(Pl.iter (Pl.fT (Pl.iter Pl.iK (Pl.di 1 4 (l,false)).1 ([],(Pl.di 1 4 (l,false)).2)).1.length foot) (Pl.di 0 6 (Pl.iter Pl.iK (Pl.di 1 4 (l,false)).1 ([],(Pl.di 1 4 (l,false)).2)).2).1 ([],(Pl.di 0 6 (Pl.iter Pl.iK (Pl.di 1 4 (l,false)).1 ([],(Pl.di 1 4 (l,false)).2)).2).2)).1⟩else none):=hide rfl;have hcr:=oJ 1 4 (l,false) af;have hcl:=jl 1 4 (l,false);generalize hc0:Pl.di 1 4 (l,false)=c0 at*;obtain⟨cnt,r0⟩:=c0;simp only at*;have hnl:=I_ cnt r0;generalize hNM:Pl.iter Pl.iK cnt ([],r0)=NM at*;obtain⟨names,r1⟩:=NM;simp only at*;have hgr:=oJ 0 6 r1 af;have hgl:=jl 0 6 r1;generalize hg0:Pl.di 0 6 r1=g0 at*;obtain⟨H6,r2⟩:=g0;simp only at*;have hfl:=yT names.length foot H6 r2;generalize hGR:Pl.iter (Pl.fT names.length foot) H6 ([],r2)=GR at*;obtain⟨groups,r3⟩:=GR;simp only at*;have HNM:=hide hNM;have HGR:=hide hGR;clear hNM hGR;go_enter Tryz.func120,Tryz.ntmps120
 go_wp2_with (first|(go_at_call 141;refine(oz C _ v l (h.go (S:=fun _=>False) (ax.alloc _) (fun _ _ f=>f) (fun _ _ e=>e))).mono ?_;rintro e w1 ⟨rfl,hr1,x1,z1⟩)|(go_at_call 142;refine(mW C _ (w.heap.size+1) (l,false) hq ((by simpa using hr1:fM C w1 (w.heap.size+1) (l,false)).kept (S:=fun _=>False) (ax.alloc _) id (fun _ _=>id)) (by show l.length≤_;omega) 1 4 4 af af (.inl rfl) af).mono ?_;rw[hc0];rintro e w2 ⟨rfl,hr2,k2,z2⟩))
 have hz1:w1.heap.size=w.heap.size+1+1:=by simpa using z1
 have hz2:w2.heap.size=w.heap.size+1+1+1:=by rw[z2];simpa using hz1
 have xA:Ext w (w1.alloc (.cells #[.slice none 0 0,.slice none 0 0] 188)):=((ax.alloc _).trans x1).alloc _;have x2:Ext w w2:=xA.then k2 (fun i hi e=>af);have bF:bK w2 (w.heap.size+1+1) [.slice none 0 0,.slice none 0 0] 188:=by
  have:=(bK.bO w1 [.slice none 0 0,.slice none 0 0] 188).kept k2 af;rwa[hz1]at this
 have bR:bK w2 w.heap.size [.slice none 0 0,.slice none 0 0] 188:=
  (((bK.bO w [.slice none 0 0,.slice none 0 0] 188).kept x1 id).kept (S:=fun _=>False) (ax.alloc _) id).kept k2 af
 clear hr1 x1 z1 k2 z2 xA hz1;have hs3:w.heap.size+3≤w2.heap.size:=af;clear hz2;go_loopw [12] (fun i wr=>∃(k:Nat)(nv:Value),i=.int .i64 k∧k≤cnt∧fM C wr (w.heap.size+1) (Pl.iter Pl.iK k ([],r0)).2∧bK wr (w.heap.size+1+1) [nv,.slice none 0 0] 188∧bK wr w.heap.size [.slice none 0 0,.slice none 0 0] 188∧Own wr 1 nv k ((Pl.iter Pl.iK k ([],r0)).1.map tx)∧(∀g,nv.ownBlock=some g→w.heap.size+3≤g)∧Ext w wr) (fun i _=>cnt-(intOf i).toNat)
 case atStart=>exact⟨0,_,rfl,af,hr2,bF,bR,Own.nil _ _,fun g e=>by simp[Value.ownBlock]at e,x2⟩
 case round=>
  obtain⟨k,nv,rfl,hk,hr,uO,hbR,ho,hg,kk⟩:=hrel;have hlen:=I_ k r0;clear hr2 bF bR x2;obtain⟨ao,cap,rfl,hcap⟩:=ho.shape;by_cases hkl:k<cnt
  ·have HS:Hid (Pl.iter Pl.iK (k+1) ([],r0)=Pl.iK (Pl.iter Pl.iK k ([],r0))):=hide rfl;generalize hst:Pl.iter Pl.iK k ([],r0)=st at*;obtain⟨xs,r'⟩:=st;simp only at*;clear hst;have hp:=oJ 1 8 r' af;have hpl:=jl 1 8 r';have HA:Hid (Pl.iK (xs,r')=(xs++[(Pl.mh (Pl.di 1 8 r').1 (Pl.di 1 8 r').2).1],(Pl.mh (Pl.di 1 8 r').1 (Pl.di 1 8 r').2).2)):=hide rfl;generalize hA:Pl.di 1 8 r'=A at*;obtain⟨n8,r8⟩:=A;simp only at*
   go_wp2_with fail
   have c0:=uO.cell 0;have f0:=uO.free 0;simp only[aA]at c0;have hS:∀u,Kp (fun k=>k≠w.heap.size+1+1) wr u→u.cell? ⟨w.heap.size+1+1,0,none⟩=some (.slice ao k cap):=fun u hu=>hu.cell c0 aj
   have HC:=hide hS;clear hS;have hK1:Kp (fun k=>k≠w.heap.size+1+1) wr wr.drew:=ax.drew;have hFl:=uO.lt;refine bZ (n:=9) (Kp (fun k=>k≠w.heap.size+1+1) wr) (by kernel_rfl) ?_;refine Late.h HC 0 [9] rfl hK1 ?_;refine Late.h HC 1 [9] rfl hK1 ?_;refine Late.h HC 2 [9] rfl hK1 ?_;refine Late.h HC 3 [9] rfl hK1 ?_;refine Late.o 4 rfl (fun K hK=>?_);refine fe rfl 142 #[PtrTo (w.heap.size+1) 0,.int .i64 1,.int .i64 8] (by go_simp) ?_;refine(mW C wr.drew (w.heap.size+1) r' hq (hr.kept (S:=fun _=>False) ax.drew id (fun _ _=>id)) af 1 8 8 af af (.inl rfl) af).mono ?_;rw[hA];rintro e w3 ⟨rfl,hr3,k3,z3⟩;have x3:Kp (fun k=>k=w.heap.size+1) wr w3:=(ax.drew).trans k3;have g3:Kp (fun k=>k≠w.heap.size+1+1) wr w3:=x3.mono (fun i _ hi=>af);refine⟨_,rfl,hK _ _ (fun _=>g3) ?_⟩;clear hK K;try simp only[lX]
   refine Late.o 5 rfl (fun K hK=>?_);refine fe rfl 143 #[PtrTo (w.heap.size+1) 0,.int .i64 n8] (by go_simp) ?_;refine(Tx C w3 (w.heap.size+1) r8 hq hr3 af n8 af af).mono ?_;rintro e w4 ⟨rfl,hr4,k4,z4⟩;have x4:Kp (fun k=>k=w.heap.size+1) wr w4:=x3.trans k4;have g4:Kp (fun k=>k≠w.heap.size+1+1) wr w4:=x4.mono (fun i _ hi=>af);refine⟨_,rfl,hK _ _ (fun _=>g4) ?_⟩;clear hK K;try simp only[lX]
   have hz4:wr.heap.size=w4.heap.size:=(z4.trans z3).symm;have HZ:=hide hz4;clear z3 z4 hz4;generalize hT:Pl.mh n8 r8=T at*;obtain⟨nm,r9⟩:=T;simp only at*;refine Late.o 6 rfl (fun K hK=>?_);go_simp;refine hK _ _ (fun _=>g4.alloc _) ?_;clear hK K;try simp only[lX]
   have ho3:Own (w4.alloc (.cells #[tx nm] 9)) 1 (.slice ao k cap) k (xs.map tx):=(ho.kept x4 (fun g e hq'=>by have:=hg g e;omega)).ext (ax.alloc _);refine Late.o 7 rfl (fun K hK=>?_);refine d_ rfl _ _ 22 22 rfl 9 (.string ByteArray.empty) 1 16 Tryz.underlying22 CW rfl _ _ _ (by rfl) ho3 _ (by rfl) 1 _ (dO w4 w4.heap.size rfl _ _ Tryz.underlying22 _ [tx nm] rfl (by intro u hu;simp at hu;subst hu;rfl)) af af ?_;intro v' w5 o5 k5 s5;have ja:∀g,(Value.slice ao k cap).ownBlock=some g→w.heap.size+3≤g:=hg;have g5:Kp (fun k=>k≠w.heap.size+1+1) wr w5:=(g4.alloc _).trans (k5.mono (fun i _ e=>by have:=ja i e;omega));refine hK _ _ (fun _=>g5) ?_;clear hK K;obtain⟨a',c',rfl,hc'⟩:=o5.shape;try simp only[lX]
   have c5:w5.cell? ⟨w.heap.size+1+1,0,none⟩=some (.slice ao k cap):=g5.cell c0 aj;have f5:w5.frozen? ⟨w.heap.size+1+1,0,none⟩=false:=by rw[World.frozen?_of_block (w:=wr) (a:=⟨w.heap.size+1+1,0,none⟩) (g5.block _ hFl aj)];exact f0
   refine Late.o 8 rfl (fun K hK=>?_);go_simp;refine hK _ _ (fun _=>g5) ?_;clear hK K;try simp only[lX]
   refine Late.o 9 rfl (fun K hK=>?_);go_simp;refine hK _ _ (fun h=>absurd rfl h) ?_;clear hK K;try simp only[lX]
   refine Late.done (by kernel_rfl) ?_ _
   go_wp2_with fail
   have x5:Kp (fun i=>i=w.heap.size+1∨(Value.slice ao k cap).ownBlock=some i) wr w5:=((x4.mono (fun _ _ e=>.inl e)).alloc _).trans (k5.mono (fun _ _ e=>.inr e));have Tz:fM C w5 (w.heap.size+1) r9:=(hr4.kept (S:=fun _=>False) (ax.alloc _) id (fun _ _=>id)).kept k5 (fun e=>by have:=ja _ e;omega) (fun i hi e=>by have:=ja i e;have:=hC i hi;omega);have rX:bK w5 (w.heap.size+1+1) [.slice ao k cap,.slice none 0 0] 188:=uO.kept x5 (fun e=>e.elim (fun e=>af) (fun e=>by have:=ja _ e;omega));have nE:bK w5 w.heap.size [.slice none 0 0,.slice none 0 0] 188:=hbR.kept x5 (fun e=>e.elim (fun e=>af) (fun e=>by have:=ja _ e;omega));have TA:Ext w w5:=kk.then x5 (fun i hi e=>e.elim (fun e=>af) (fun e=>by have:=ja _ e;omega));have ks:=bI w5 (w.heap.size+1+1) 0 (.slice a' (k+1) c');have hsz:=kk.size;refine⟨⟨k+1,.slice a' (k+1) c',by go_num,af,?_,rX.set 0 _,nE.kept ks af,?_,?_,TA.then ks (fun i hi e=>af)⟩,by simp[intOf];omega⟩
   ·rw[HS.out,HA.out];exact Tz.kept ks af (fun i hi e=>by have:=hC i hi;omega)
   ·rw[HS.out,HA.out,a_];refine o5.kept ks (fun g e=>?_);rcases s5 with e'|⟨g',e1,e2⟩
    ·rw[e']at e;have:=ja g e;omega
    ·rw[e1]at e;simp only[Option.some.injEq]at e;subst e;simp at e2;have:=HZ.out;omega
   ·intro g e;rcases s5 with e'|⟨g',e1,e2⟩
    ·rw[e']at e;exact ja g e
    ·rw[e1]at e;simp only[Option.some.injEq]at e;subst e;simp at e2;have:=HZ.out;omega
  ·obtain rfl:k=cnt:=af;rw[HNM.out]at hr ho hlen;simp only at*;clear HNM
   go_wp2_with (go_at_call 142;refine(mW C _ (w.heap.size+1) r1 hq hr af 0 6 6 af af (.inl rfl) af).mono ?_;rw[hg0];rintro e w3 ⟨rfl,hr3,k3,z3⟩)
   obtain⟨hn1,hn2⟩:=hlen;subst hn1;clear hnl hk hkl;have WZ:=uO.kept k3 af;have abf:=hbR.kept k3 af;have Lx:bM (fun b=>w.heap.size+3≤b∧(Value.slice none 0 0).ownBlock≠some b) false w3 1 (.slice ao names.length cap) names.length (names.map tx):=
    ((ho.kept k3 (fun g e hq'=>by have:=hg g e;omega)).rowAt _ (fun g e=>⟨hg g e,by simp[Value.ownBlock]⟩)).weak
   have K3:Ext w w3:=kk.then k3 (fun i hi e=>af);have hs4:w.heap.size+3≤w3.heap.size:=by have:=kk.size;have:=k3.size;have:=WZ.lt;omega
   clear hr hbR kk uO ho hg k3 z3 hs3;go_loopw [26] (fun i wr=>∃(k:Nat)(gv:Value)(bJ:List Value),i=.int .i64 k∧k≤H6∧fM C wr (w.heap.size+1) (Pl.iter (Pl.fT names.length foot) k ([],r2)).2∧bK wr (w.heap.size+1+1) [.slice ao names.length cap,gv] 188∧bK wr w.heap.size [.slice none 0 0,.slice none 0 0] 188∧Own wr 2 gv k (qK bJ (Pl.iter (Pl.fT names.length foot) k ([],r2)).1)∧(∀g,gv.ownBlock=some g→w.heap.size+3≤g)∧bM (fun b=>w.heap.size+3≤b∧gv.ownBlock≠some b) false wr 1 (.slice ao names.length cap) names.length (names.map tx)∧u7 (fun b=>w.heap.size+3≤b∧gv.ownBlock≠some b) wr names.length bJ (Pl.iter (Pl.fT names.length foot) k ([],r2)).1∧Ext w wr) (fun i _=>H6-(intOf i).toNat)
   case atStart=>exact⟨0,_,[],rfl,af,hr3,WZ,abf,Own.nil _ _,fun g e=>by simp[Value.ownBlock]at e,Lx,⟨rfl,fun i pv g a=>by simp at a⟩,K3⟩
   case round=>
    obtain⟨k,gv,bJ,rfl,hk,hr,uO,hbR,ho,hg,hN,TB,kk⟩:=hrel;have hlen:=yT names.length foot k r2;clear hr3 WZ abf Lx K3;obtain⟨go,gc,rfl,amw⟩:=ho.shape;by_cases hkl:k<H6
    ·have HS:Hid (Pl.iter (Pl.fT names.length foot) (k+1) ([],r2)=Pl.fT names.length foot (Pl.iter (Pl.fT names.length foot) k ([],r2))):=hide rfl;generalize hst:Pl.iter (Pl.fT names.length foot) k ([],r2)=st at*;obtain⟨xs,r'⟩:=st;simp only at*;clear hst;have HA:Hid (Pl.fT names.length foot (xs,r')=(xs++[(Pl.ou names.length foot r').1],(Pl.ou names.length foot r').2)):=hide rfl;have HL:Hid ((Pl.ou names.length foot r').1.pages.length=names.length):=hide (vH foot names.length _).1;generalize hA:Pl.ou names.length foot r'=A at*;obtain⟨gg,r8⟩:=A;simp only at*
     go_wp2_with fail
     have c0:=uO.cell 0;have c1:=uO.cell 1;have f1:=uO.free 1;simp only[au]at c0 c1;have hS:∀u,Kp (fun k=>k≠w.heap.size+1+1) wr u→u.cell? ⟨w.heap.size+1+1,0,none⟩=some (.slice ao names.length cap)∧u.cell? ⟨w.heap.size+1+1,1,none⟩=some (.slice go k gc):=fun u hu=>⟨hu.cell c0 aj,hu.cell c1 aj⟩
     have HC:=hide hS;clear hS;have hK1:Kp (fun k=>k≠w.heap.size+1+1) wr wr.drew:=ax.drew;have hFl:=uO.lt;have hwz:=kk.size;refine bZ (n:=11) (Kp (fun k=>k≠w.heap.size+1+1) wr) (by kernel_rfl) ?_;refine Late.h HC 0 [11] rfl hK1 ?_;refine Late.h HC 1 [11] rfl hK1 ?_;refine Late.h HC 2 [11] rfl hK1 ?_;refine Late.h HC 3 [11] rfl hK1 ?_;refine Late.h HC 4 [11] rfl hK1 ?_;refine Late.h HC 5 [11] rfl hK1 ?_;refine Late.h HC 6 [11] rfl hK1 ?_;refine Late.o 7 rfl (fun K hK=>?_);refine fe rfl 144 #[PtrTo (w.heap.size+1) 0,.int .i64 names.length,.int .i64 foot] (by go_simp) ?_;refine(Kn C wr.drew (w.heap.size+1) r' (fun i hi=>by have:=hC i hi;show i<wr.heap.size;omega) hq (hr.kept (S:=fun _=>False) ax.drew id (fun _ _=>id)) af names.length foot af Lr hf).mono ?_;rw[hA];rintro e w3 ⟨pv,rfl,o3,fr3,hr3,k3⟩;have x3:Kp (fun k=>k=w.heap.size+1) wr w3:=(ax.drew).trans k3;have g3:Kp (fun k=>k≠w.heap.size+1+1) wr w3:=x3.mono (fun i _ hi=>af);refine⟨_,rfl,hK _ _ (fun _=>g3) ?_⟩;clear hK K;obtain⟨po,pc,rfl,_⟩:=o3.shape;try simp only[lX]
     refine Late.o 8 rfl (fun K hK=>?_);go_simp;refine hK _ _ (fun _=>g3.alloc _) ?_;clear hK K;try simp only[lX]
     have ho4:Own (w3.alloc (.cells #[I gg.rows,.slice po names.length pc] 229)) 2 (.slice go k gc) k (qK bJ xs):=(ho.kept x3 (fun g e hq'=>by have:=hg g e;omega)).ext (ax.alloc _);refine Late.o 9 rfl (fun K hK=>?_);refine d_ rfl _ _ 186 186 rfl 229 zFg 2 32 Tryz.underlying186 abd rfl _ _ _ (by rfl) ho4 _ (by rfl) 1 _ (dO w3 w3.heap.size rfl _ _ Tryz.underlying186 _ [I gg.rows,.slice po names.length pc] rfl (by intro u hu;simp at hu;rcases hu with rfl|rfl<;>rfl)) af af ?_;intro v' w5 o5 k5 s5;have ja:∀g,(Value.slice go k gc).ownBlock=some g→w.heap.size+3≤g:=hg;have g5:Kp (fun k=>k≠w.heap.size+1+1) wr w5:=(g3.alloc _).trans (k5.mono (fun i _ e=>by have:=ja i e;omega));refine hK _ _ (fun _=>g5) ?_;clear hK K;obtain⟨a',c',rfl,hc'⟩:=o5.shape;try simp only[lX]
     have c5:w5.cell? ⟨w.heap.size+1+1,1,none⟩=some (.slice go k gc):=g5.cell c1 aj;have f5:w5.frozen? ⟨w.heap.size+1+1,1,none⟩=false:=by rw[World.frozen?_of_block (w:=wr) (a:=⟨w.heap.size+1+1,1,none⟩) (g5.block _ hFl aj)];exact f1
     refine Late.o 10 rfl (fun K hK=>?_);go_simp;refine hK _ _ (fun _=>g5) ?_;clear hK K;try simp only[lX]
     refine Late.o 11 rfl (fun K hK=>?_);go_simp;refine hK _ _ (fun h=>absurd rfl h) ?_;clear hK K;try simp only[lX]
     refine Late.done (by kernel_rfl) ?_ _
     go_wp2_with fail
     have xa:Kp (fun k=>k=w.heap.size+1) wr (w3.alloc (.cells #[I gg.rows,.slice po names.length pc] 229)):=x3.alloc _;have hza:=xa.size;have hol:∀g,(Value.slice go k gc).ownBlock=some g→g<wr.heap.size:=fun g e=>ho.lt e
     have x5:Kp (fun i=>i=w.heap.size+1∨(Value.slice go k gc).ownBlock=some i) wr w5:=(xa.mono (fun _ _ e=>.inl e)).trans (k5.mono (fun _ _ e=>.inr e));have Tz:fM C w5 (w.heap.size+1) r8:=(hr3.kept (S:=fun _=>False) (ax.alloc _) id (fun _ _=>id)).kept k5 (fun e=>by have:=ja _ e;omega) (fun i hi e=>by have:=ja i e;have:=hC i hi;omega);have rX:bK w5 (w.heap.size+1+1) [.slice ao names.length cap,.slice go k gc] 188:=uO.kept x5 (fun e=>e.elim (fun e=>af) (fun e=>by have:=ja _ e;omega));have nE:bK w5 w.heap.size [.slice none 0 0,.slice none 0 0] 188:=hbR.kept x5 (fun e=>e.elim (fun e=>af) (fun e=>by have:=ja _ e;omega));have TA:Ext w w5:=kk.then x5 (fun i hi e=>e.elim (fun e=>af) (fun e=>by have:=ja _ e;omega));have ks:=bI w5 (w.heap.size+1+1) 1 (.slice a' (k+1) c');have hnew:∀g,(Value.slice a' (k+1) c').ownBlock=some g→(Value.slice go k gc).ownBlock=some g∨wr.heap.size≤g:=fun g e=>by
      rcases s5 with e'|⟨g',e1,e2⟩
      ·rw[e']at e;exact .inl e
      ·rw[e1]at e;simp only[Option.some.injEq]at e;subst e;exact .inr (aO hza e2)
     have YM:∀g,(Value.slice a' (k+1) c').ownBlock=some g→w.heap.size+3≤g:=fun g e=>(hnew g e).elim (ja g) (fun e=>by have:=uO.lt;omega)
     have hCx:∀i,i<wr.heap.size→(w.heap.size+3≤i∧(Value.slice go k gc).ownBlock≠some i)→w.heap.size+3≤i∧(Value.slice a' (k+1) c').ownBlock≠some i:=fun i hi hc=>⟨hc.1,fun e=>(hnew i e).elim hc.2 (fun e=>af)⟩
     have hpg:bM (fun b=>w.heap.size+3≤b∧(Value.slice a' (k+1) c').ownBlock≠some b) false w5 3 (.slice po names.length pc) names.length (gg.pages.flatMap jf):=by
      have h0:=((o3.ext (ax.alloc (.cells #[I gg.rows,.slice po names.length pc] 229))).rowAt (fun b=>wr.heap.size≤b∧b<w3.heap.size) (fun g e=>⟨fr3 g e,o3.lt e⟩)).weak;refine h0.go k5 (fun i hi e=>by have:=hol i e;omega) (fun i hi hc=>⟨af,fun e=>?_⟩);rcases s5 with e'|⟨g',e1,e2⟩
      ·rw[e']at e;have:=hol i e;omega
      ·rw[e1]at e;simp only[Option.some.injEq]at e;subst e;simp at e2;omega
     refine⟨⟨k+1,.slice a' (k+1) c',bJ++[.slice po names.length pc],by go_num,af,?_,rX.set 1 _,nE.kept ks af,?_,YM,?_,?_,TA.then ks (fun i hi e=>af)⟩,by simp[intOf];omega⟩
     ·rw[HS.out,HA.out];exact Tz.kept ks af (fun i hi e=>by have:=hC i hi;omega)
     ·rw[HS.out,HA.out,QS _ _ _ _ TB.1];exact o5.kept ks (fun g e=>by have:=YM g e;omega)
     ·exact(hN.go x5 (fun i hi e=>e.elim (fun e=>af) (fun e=>hi.2 e)) hCx).go ks (fun i hi e=>af) (fun _ _ e=>e)
     ·rw[HS.out,HA.out];exact((TB.go x5 (fun i hi e=>e.elim (fun e=>af) (fun e=>hi.2 e)) hCx).snoc HL.out hpg).go ks (fun i hi e=>af) (fun _ _ e=>e)
    ·obtain rfl:k=H6:=af;rw[HGR.out]at hr ho hlen TB;simp only at*;clear HGR;have hN':bM (fun b=>w.heap.size≤b) false wr 1 (.slice ao names.length cap) names.length (names.map tx):=hN.go (S:=fun _=>False) ax (fun _ _ f=>f) (fun i _ h=>af);have amF:u7 (fun b=>w.heap.size≤b) wr names.length bJ groups:=TB.go (S:=fun _=>False) ax (fun _ _ f=>f) (fun i _ h=>af);have hG':bM (fun b=>w.heap.size≤b) false wr 2 (.slice go k gc) k (qK bJ groups):=(ho.rowAt _ (fun g e=>by have:=hg g e;omega)).weak;have c0:=uO.cell 0;have c1:=uO.cell 1;have d0:=hbR.cell 0;have d1:=hbR.cell 1;have f0:=hbR.free 0;have f1:=hbR.free 1;simp only[au]at c0 c1 d0 d1;obtain⟨hg1,hg2⟩:=hlen;clear hfl hk hkl hg0 hgr;subst hg1;have AJ:=nW C wr (w.heap.size+1) r3 hr af;have hR2:=FO _ wr _ names hN af;have HR1:=hide AJ;have HR2:=hide hR2;clear AJ hR2;cases hb1:Pl.iN r3 with
     |false=>
      rw[hb1]at HR1;rw[hb1]at HP
      go_wp2_with fail
      refine(bH HR1).mono ?_;rintro e w4 ⟨rfl,rfl⟩
      go_wp2_with fail
      have b2:=(hbR.set 0 (.slice none 0 0)).set 1 (.slice none 0 0);have k2:=(bI w4 w.heap.size 0 (.slice none 0 0)).trans (bI (w4.setCell ⟨w.heap.size,0,none⟩ (.slice none 0 0)) w.heap.size 1 (.slice none 0 0));generalize(w4.setCell ⟨w.heap.size,0,none⟩ (.slice none 0 0)).setCell ⟨w.heap.size,1,none⟩ (.slice none 0 0)=w5 at*;have e0:=b2.cell 0;have e1:=b2.cell 1;simp only[List.set_cons_zero,List.set_cons_succ,au]at e0 e1;refine bodyPost_ret (v:=.tuple #[.agg #[.slice none 0 0,.slice none 0 0],.bool false]) (by simp[results,Tryz.results120,go_sem,e0,e1]) rfl ?_;rw[HP.out,if_neg aj];exact⟨kk.then k2 (fun i hi e=>af),.no⟩
     |true=>
      cases hb2:Pl.fJ names with
      |false=>
       rw[hb1]at HR1;rw[hb2]at HR2;rw[hb1,hb2]at HP
       go_wp2_with fail
       refine(bH HR1).mono ?_;rintro e w4 ⟨rfl,rfl⟩
       go_wp2_with fail
       refine(bH HR2).mono ?_;rintro e w4 ⟨rfl,rfl⟩
       go_wp2_with fail
       have b2:=(hbR.set 0 (.slice none 0 0)).set 1 (.slice none 0 0);have k2:=(bI w4 w.heap.size 0 (.slice none 0 0)).trans (bI (w4.setCell ⟨w.heap.size,0,none⟩ (.slice none 0 0)) w.heap.size 1 (.slice none 0 0));generalize(w4.setCell ⟨w.heap.size,0,none⟩ (.slice none 0 0)).setCell ⟨w.heap.size,1,none⟩ (.slice none 0 0)=w5 at*;have e0:=b2.cell 0;have e1:=b2.cell 1;simp only[List.set_cons_zero,List.set_cons_succ,au]at e0 e1;refine bodyPost_ret (v:=.tuple #[.agg #[.slice none 0 0,.slice none 0 0],.bool false]) (by simp[results,Tryz.results120,go_sem,e0,e1]) rfl ?_;rw[HP.out,if_neg aj];exact⟨kk.then k2 (fun i hi e=>af),.no⟩
      |true=>
       rw[hb1]at HR1;rw[hb2]at HR2;rw[hb1,hb2]at HP
       go_wp2_with fail
       refine(bH HR1).mono ?_;rintro e w4 ⟨rfl,rfl⟩
       go_wp2_with fail
       refine(bH HR2).mono ?_;rintro e w4 ⟨rfl,rfl⟩
       go_wp2_with fail
       have b2:=(hbR.set 0 (.slice ao names.length cap)).set 1 (.slice go groups.length gc);have k2:=(bI w4 w.heap.size 0 (.slice ao names.length cap)).trans (bI (w4.setCell ⟨w.heap.size,0,none⟩ (.slice ao names.length cap)) w.heap.size 1 (.slice go groups.length gc));have Lx:bM (fun b=>w.heap.size+3≤b) false w4 1 (.slice ao names.length cap) names.length (names.map tx):=hN.go (S:=fun _=>False) ax (fun _ _ f=>f) (fun i _ h=>h.1);have aij:u7 (fun b=>w.heap.size+3≤b) w4 names.length bJ groups:=TB.go (S:=fun _=>False) ax (fun _ _ f=>f) (fun i _ h=>h.1);have hG3:bM (fun b=>w.heap.size+3≤b) false w4 2 (.slice go groups.length gc) groups.length (qK bJ groups):=(ho.rowAt _ (fun g e=>hg g e)).weak;generalize(w4.setCell ⟨w.heap.size,0,none⟩ (.slice ao names.length cap)).setCell ⟨w.heap.size,1,none⟩ (.slice go groups.length gc)=w5 at*;have e0:=b2.cell 0;have e1:=b2.cell 1;simp only[List.set_cons_zero,List.set_cons_succ,au]at e0 e1;refine bodyPost_ret (v:=.tuple #[.agg #[.slice ao names.length cap,.slice go groups.length gc],.bool true]) (by simp[results,Tryz.results120,go_sem,e0,e1]) rfl ?_;rw[HP.out,if_pos aj];refine⟨kk.then k2 (fun i hi e=>af),.yes _ _ _ bJ ?_ ?_ ?_⟩
       ·exact Lx.go k2 (fun i hi e=>af) (fun i _ h=>af)
       ·exact hG3.go k2 (fun i hi e=>af) (fun i _ h=>af)
       ·exact aij.go k2 (fun i hi e=>af) (fun i _ h=>af)
inductive EH (C:Nat→Prop)(w':World):Option (List Nat)→Ending→Prop
 |no (v:Value) (hv:∃a n c,v=.slice a n c):EH C w' none (.returned (.tuple #[v,.bool false]))
 |yes (v:Value) (l:List Nat) (h0:0<l.length) (hr:bM C false w' 1 v l.length (l.map fun n:Nat=>I n)):EH C w' (some l) (.returned (.tuple #[v,.bool true]))
theorem Kr (names:List (List UInt8))(n:List UInt8)(r:List (List UInt8))(acc:List Nat):Pl.jR names (n::r) acc=match Pl.indexOf names n with
 |none=>none
 |some i=>if i∈acc then none else Pl.jR names r (acc++[i]):=rfl
theorem nZ :(Tryz.prog.info? 3).map (fun i=>(i.zero,i.size,i.bytes))=some (some (.int .i64 0),1,8):=by kernel_rfl
theorem OC (C D:Nat→Prop)(w:World)(nv gv wv:Value)(names want:List (List UInt8))(hgv:∃a n c,gv=.slice a n c)(hn:bM C false w 1 nv names.length (names.map tx))(hw:bM D false w 1 wv want.length (want.map tx))(hl:names.length≤1000)(hwl:want.length≤1000):
 Calls Tryz.prog 121 #[.agg #[nv,gv],wv] w fun e w'=>Ext w w'∧EH (fun b=>w.heap.size≤b) w' (Pl.columns names want) e:=by
 obtain⟨ga,gn,gc,rfl⟩:=hgv;have hn0:=hn;have hw0:=hw;obtain⟨na,nc,rfl,-,-⟩:=hn0.get;obtain⟨wa,wc,rfl,hwc,hw3⟩:=hw0.get;have HP:Hid (Pl.columns names want=Pl.jR names want []):=hide rfl;have b0:=bK.bO w [.slice na names.length nc,.slice ga gn gc] 188;have x0:Ext w (w.alloc (.cells #[.slice na names.length nc,.slice ga gn gc] 188)):=ax.alloc _;have HN:=hide hn;have HW:=hide hw;clear hn0 hw0 hn hw;go_enter Tryz.func121,Tryz.ntmps121
 go_wp2_with fail
 generalize w.alloc (.cells #[.slice na names.length nc,.slice ga gn gc] 188)=W at*;have YN:w.heap.size<W.heap.size:=b0.lt;go_loopw [6,12] (fun t i wr=>∃(k:Nat)(acc:List Nat),i=.int .i64 k∧k≤want.length∧acc.length=k∧Pl.jR names (want.drop k) acc=Pl.columns names want∧Own wr 1 t k (acc.map fun n:Nat=>I n)∧(∀g,t.ownBlock=some g→W.heap.size≤g)∧Ext W wr) (fun _ i _=>want.length-(intOf i).toNat)
 case atStart=>exact⟨0,[],rfl,af,rfl,rfl,Own.nil _ _,fun g e=>by simp[Value.ownBlock]at e,Kp.refl _ _⟩
 case round=>
  obtain⟨k,acc,rfl,hk,hal,hcf,ho,hg,hx⟩:=hrel;have HF:=hide hcf;clear hcf;obtain⟨ao,cap,rfl,hcap⟩:=ho.shape;have c0:wr.cell? ⟨w.heap.size,0,none⟩=some (.slice na names.length nc):=hx.cell (b0.cell 0) id;by_cases hkl:k<want.length
  ·obtain⟨wb,wo,rfl,hwb,TD⟩:=hw3 af;have d0:=(x0.trans hx).cell ((TD k af).trans (by rw[aN,ay hkl];rfl)) id;have hst:Pl.jR names (want.drop k) acc=match Pl.indexOf names want[k]with
    |none=>none
    |some i=>if i∈acc then none else Pl.jR names (want.drop (k+1)) (acc++[i]):=by rw[aV hkl];rfl
   have hIx:=FN C wr _ names want[k] ((bH HN).go (S:=fun _=>False) (x0.trans hx) (fun _ _ f=>f) (fun _ _ e=>e)) hl;have HT:=hide (hst.symm.trans HF.out);clear hst HF TD hw3;generalize want[k]=nm at*;have HI:=hide hIx;clear hIx;have amG:=Ab (l:=names) (p:=fun x=>decide (x=nm));cases hix:Pl.indexOf names nm with
   |none=>
    rw[hix]at HI HT;simp only[nX]at HI HT;have HT2:Hid (Pl.columns names want=none):=hide HT.out.symm
    go_wp2_with (go_at_call 140;refine(bH HI).mono ?_;rintro e w1 ⟨rfl,rfl⟩)
    go_ret2
    rw[HT2.out];exact⟨x0.trans hx,.no _ ⟨_,_,_,rfl⟩⟩
   |some ix=>
    have amH:ix<names.length:=(List.findIdx?_eq_some_iff_getElem.1 hix).1;rw[hix]at HI HT;simp only[nX]at HI HT;have hCn:=Kq (fun b=>W.heap.size≤b) wr (.slice ao k cap) acc ix (by rw[hal];exact(ho.rowAt _ hg).weak) af;have HC:=hide hCn;clear hCn;by_cases hin:ix∈acc
    ·rw[aH hin]at HC;have HT2:Hid (Pl.columns names want=none):=hide (by rw[←HT.out,if_pos hin]);clear hin
     go_wp2_with (first|(go_at_call 140;refine(bH HI).mono ?_;rintro e w1 ⟨rfl,rfl⟩)|(go_at_call 146;refine(bH HC).mono ?_;rintro e w1 ⟨rfl,rfl⟩))
     go_ret2
     rw[HT2.out];exact⟨x0.trans hx,.no _ ⟨_,_,_,rfl⟩⟩
    ·rw[aG hin]at HC;have HT2:Hid (Pl.jR names (want.drop (k+1)) (acc++[ix])=Pl.columns names want):=hide (by rw[←HT.out,if_neg hin]);clear hin
     go_wp2_with (first|(at_builtin;go_must (refine dI _ rfl _ _ 46 46 rfl 3 (.int .i64 0) 1 8 Tryz.underlying46 nZ rfl _ _ _ rfl (ho.dV _) _ rfl 1 _ (uJ _ _ _ Tryz.underlying46 _ [.int .i64 ix] rfl (by intro u hu;simp at hu;subst hu;rfl)) af af ?_);intro v3 w3 o3 k3 s3)|(go_at_call 140;refine(bH HI).mono ?_;rintro e w1 ⟨rfl,rfl⟩)|(go_at_call 146;refine(bH HC).mono ?_;rintro e w1 ⟨rfl,rfl⟩))
     refine⟨⟨k+1,acc++[ix],by go_num,af,by simp[hal],HT2.out,by simpa[I]using o3,fun g e=>?_,(hx.alloc _).then k3 (fun i hi e=>by have:=hg i e;omega)⟩,by simp[intOf];omega⟩;rcases eT s3 e with e'|e'
     ·exact hg g e'
     ·simp at e';have:=hx.size;omega
  ·obtain rfl:k=want.length:=af;have hfin:=HF.out;rw[List.drop_length]at hfin;simp only[Pl.jR]at hfin;have HG:=hide hfin.symm;clear hfin HF;by_cases h0:acc.length=0
   ·go_wp2_with fail
    go_ret2
    rw[HG.out,if_neg af,show decide (0<want.length)=false from aG af];exact⟨x0.trans hx,.no _ ⟨_,_,_,rfl⟩⟩
   ·go_wp2_with fail
    go_ret2
    rw[HG.out,if_pos af,show decide (0<want.length)=true from aH af];refine⟨x0.trans hx,.yes _ acc af ?_⟩;rw[hal];exact(ho.rowAt _ (fun g e=>by have:=hg g e;omega)).weak
theorem Ac (bJ:List Value)(l:List Pl.eu)(hl:bJ.length=l.length)(i j:Nat)(hi:i<l.length)(hj:j<2):(qK bJ l)[i*2+j]?=[I l[i].rows,bJ[i]'af][j]?:=by
 unfold qK;refine jB 2 _ (fun e he=>?_) i j hj _ ?_
 ·rw[List.mem_iff_getElem]at he;obtain⟨k,hk,rfl⟩:=he;rw[List.getElem_zipWith];rfl
 ·rw[ay (by simp;omega),List.getElem_zipWith]
theorem OD (C:Nat→Prop)(w:World)(gv:Value)(bJ:List Value)(gs:List Pl.eu)(bD:Nat)(hr:bM C false w 2 gv gs.length (qK bJ gs))(hp:u7 C w bD bJ gs)(hl:gs.length≤1000):
 Calls Tryz.prog 123 #[gv] w fun e w'=>∃v,e=.returned v∧Ext w w'∧bM (fun b=>w.heap.size≤b) false w' 1 v gs.length (gs.map fun g=>I g.rows):=by
 obtain⟨ga,gc,rfl,hgc,h3⟩:=hr.get;have hpl:=hp.1;have hps:∀i(hi:i<bJ.length),∃a n c,bJ[i]=.slice a n c:=fun i hi=>by
  obtain⟨-,h⟩:=hp.2 i _ _ (ay hi) (ay af);obtain⟨a,c,e,-⟩:=h.get;exact⟨_,_,_,e⟩
 clear hr hp;go_enter Tryz.func123,Tryz.ntmps123
 go_wp2_with fail
 go_loopw [3,8] (fun t i wr=>∃(k:Nat),i=.int .i64 k∧k≤gs.length∧Own wr 1 t k ((gs.take k).map fun g=>I g.rows)∧(∀g,t.ownBlock=some g→w.heap.size≤g)∧Ext w wr) (fun _ i _=>gs.length-(intOf i).toNat)
 case atStart=>exact⟨0,rfl,af,by simpa using Own.nil _ _,fun g e=>by simp[Value.ownBlock]at e,Kp.refl _ _⟩
 case round=>
  obtain⟨k,rfl,hk,ho,hg,hx⟩:=hrel;obtain⟨ao,cap,rfl,hcap⟩:=ho.shape;by_cases hkl:k<gs.length
  ·obtain⟨b,off,rfl,hb,hc⟩:=h3 af;have d0:=hx.cell ((hc (k*2+0) af).trans (Ac bJ gs hpl k 0 hkl af)) id;have d1:=hx.cell ((hc (k*2+1) af).trans (Ac bJ gs hpl k 1 hkl af)) id;obtain⟨pa,pn,pc,hpk⟩:=hps k af;have HT:Hid ((gs.take (k+1)).map (fun g=>I g.rows)=(gs.take k).map (fun g=>I g.rows)++[I gs[k].rows]):=by
    show _=_;rw[aF hkl,a_];rfl
   rw[hpk]at d1;generalize gs[k].rows=rw0 at*;clear hc h3 hpk hps;simp only[I,Nat.add_zero,←Nat.add_assoc]at d0 d1
   go_wp2_with (at_builtin;go_must (refine dI _ rfl _ _ 46 46 rfl 3 (.int .i64 0) 1 8 Tryz.underlying46 nZ rfl _ _ _ rfl ((ho.dV _).dV _) _ rfl 1 _ (dO _ _ aj _ _ Tryz.underlying46 _ [.int .i64 rw0] rfl (by intro u hu;simp at hu;subst hu;rfl)) af af ?_);intro v3 w3 o3 k3 s3)
   have x3:Ext w w3:=((hx.alloc _).alloc _).then k3 (fun i hi e=>by have:=hg i e;omega)
   go_roundw
   case rel=>exact⟨k+1,by go_num,af,by rw[HT.out];exact o3,fun g e=>by
    rcases eT s3 e with e'|e'
    ·exact hg g e'
    ·have:=hx.size;simp at e';omega,x3⟩
   case measure=>simp[intOf];omega
  ·obtain rfl:k=gs.length:=af;rw[aX]at ho
   go_wp2_with fail
   go_ret;exact⟨_,rfl,hx,(ho.rowAt _ hg).weak⟩
theorem bM.set {C:Nat→Prop}{w:World}{s b off n cap:Nat}{cs:List Value}(h:bM C true w s (.slice (some ⟨b,off,none⟩) n cap) n cs)(j:Nat)(hj:j<n*s)(u:Value):bM C true (w.setCell ⟨b,off+j,none⟩ u) s (.slice (some ⟨b,off,none⟩) n cap) n (cs.set j u):=by
 obtain⟨hl,ao,cap',e,h1,h3⟩:=h;simp only[Value.slice.injEq]at e;obtain⟨rfl,_,rfl⟩:=e;refine⟨by rw[List.length_set];exact hl,_,cap,rfl,h1,fun hp=>?_⟩;obtain⟨b',off',e,hb,hlt,hc,hf⟩:=h3 hp;simp only[Option.some.injEq,Addr.mk.injEq]at e;obtain⟨rfl,rfl,_⟩:=e;refine⟨b,off,rfl,hb,by simpa using hlt,fun i hi=>?_,fun ht i hi=>by simpa using hf ht i hi⟩;rw[List.getElem?_set];by_cases hij:j=i
 ·subst hij;rw[if_pos rfl,if_pos (by rw[hl];exact hj)];have:=hc j hj;rw[ay (by rw[hl];exact hj)]at this;exact World.cell?_setCell_same _ _ _ this
 ·rw[if_neg hij];rw[World.cell?_setCell_other _ _ _ _ (fun e=>hij (by have:=congrArg Addr.off e;simp only at this;omega))];exact hc i hi
theorem bM.n_ {C:Nat→Prop}{w:World}{s b off n cap:Nat}{cs:List Value}(h:bM C true w s (.slice (some ⟨b,off,none⟩) n cap) n cs)(j:Nat)(hj:j<n*s):w.cell? ⟨b,off+j,none⟩=cs[j]?∧w.frozen? ⟨b,off+j,none⟩=false∧C b:=by
 obtain⟨hl,ao,cap',e,h1,h3⟩:=h;simp only[Value.slice.injEq]at e;obtain⟨rfl,_,rfl⟩:=e;obtain⟨b',off',e,hb,hlt,hc,hf⟩:=h3 (Nat.pos_of_ne_zero (fun h=>by subst h;simp at hj));simp only[Option.some.injEq,Addr.mk.injEq]at e;obtain⟨rfl,rfl,_⟩:=e;exact⟨hc j hj,hf rfl j hj,hb⟩
theorem mX (eG:List Value)(l:List Pl.gF)(hl:eG.length=l.length)(i j:Nat)(hi:i<l.length)(hj:j<3):(jF eG l)[i*3+j]?=[I l[i].rows,eG[i]'af,I l[i].missing][j]?:=by
 unfold jF;refine jB 3 _ (fun e he=>?_) i j hj _ ?_
 ·rw[List.mem_iff_getElem]at he;obtain⟨k,hk,rfl⟩:=he;rw[List.getElem_zipWith];rfl
 ·rw[ay (by simp;omega),List.getElem_zipWith]
theorem BB (eG:List Value):∀(l:List Pl.gF),eG.length=l.length→(jF eG l).length=l.length*3:=by
 induction eG with
 |nil=>intro l h;simp at h;rw[aT h.symm];rfl
 |cons a r ih=>
  intro l h;cases l with
  |nil=>simp at h
  |cons p l=>
   simp at h;have:=ih l h;unfold jF at*;simp only[List.zipWith_cons_cons,List.flatten_cons,aD,aR,List.length_nil,this];omega
theorem LD (eG:List Value)(l:List Pl.gF)(hl:eG.length=l.length)(i:Nat)(hi:i<l.length)(g:Pl.gF)(hr:g.rows=l[i].rows):(jF eG l).set (i*3+2) (I g.missing)=jF eG (l.set i g):=by
 apply List.ext_getElem?;intro k;have hlen:=BB eG l hl;have hlen':=BB eG (l.set i g) (by rw[List.length_set];exact hl);by_cases hk:k<l.length*3
 ·have hq:k/3<l.length:=af;have hk':k=k/3*3+k%3:=af;have e2:=mX eG (l.set i g) (by rw[List.length_set];exact hl) (k/3) (k%3) (by rw[List.length_set];exact hq) af;have e1:=mX eG l hl (k/3) (k%3) hq af;rw[←hk']at e1 e2;rw[e2,List.getElem?_set];by_cases h2:i*3+2=k
  ·rw[if_pos h2,if_pos af];have hd:k/3=i:=af;have hm:k%3=2:=af;rw[hm];simp[hd]
  ·rw[if_neg h2,e1,List.getElem_set];by_cases hd:i=k/3
   ·rw[if_pos hd];have hm:k%3=0∨k%3=1:=af;subst hd;rcases hm with hm|hm
    ·rw[hm];simp[hr]
    ·rw[hm];rfl
   ·rw[if_neg hd]
 ·rw[bn (by rw[List.length_set,hlen];omega),bn (by rw[hlen',List.length_set];omega)]
theorem Jf {α:Type}{l:List α}{i:Nat}{x:α}{f:α→α}(h:l[i]?=some x):l.modify i f=l.set i (f x):=by
 apply List.ext_getElem?;intro k;rw[List.getElem?_modify,List.getElem?_set];by_cases e:i=k
 ·subst e;obtain⟨hl,rfl⟩:=aL.1 h;simp[hl]
 ·cases l[k]?<;>simp[e]
abbrev nG (col:bU):Nat→Prop:=fun k=>col k=.groups∨∃g,col k=.lists g
theorem Inner.Xe {col:bU}{w w':World}{P:Nat}{m:Pl.Sc}{ps qs:List Nat}{nv av wv hv gv jN:Value}{rw':Pl.Rw}(h:Inner col w P m ps qs nv av wv hv gv)(k:Kp (nG col) w w')(hg:jV col w' rw'.gone jN rw'.groups):Inner col w' P {m with rows:=rw'} ps qs nv av wv hv jN:=by
 have hno:∀(c:Col),c≠.groups→(∀g,c≠.lists g)→∀i,nG col i→col i≠c:=fun c h1 h2 i hi e=>by
  rcases hi with hi|⟨g,hi⟩
  ·exact h1 (by rw[←e,hi])
  ·exact h2 g (by rw[←e,hi])
 refine⟨h.cB,fun i hi=>h.top i (aO k.size hi),?_,?_,h.jd,?_,?_,h.jW,?_,h.nodup,?_,hg⟩
 ·exact h.names.go k (fun i hi hs=>hno .ro aj aj i hs hi) (fun _ _ e=>e)
 ·exact h.asked.kept k (fun g hg hs=>hno .asked aj aj g hs (h.jd g hg))
 ·exact h.eY.go k (fun p hp hs=>hno .part aj aj p hs (h.eY.lt hp).2) (fun p _=>hno _ aj aj) (hno _ aj aj) (fun _ _=>rfl)
 ·exact h.waiting.kept k (fun g hg hs=>hno .wait aj aj g hs (h.jW g hg))
 ·exact h.gI.go k (fun p hp hs=>hno .part aj aj p hs (h.gI.lt hp).2) (fun p _=>hno _ aj aj) (hno _ aj aj) (fun _ _=>rfl)
 ·exact h.ahead.go k (hno _ aj aj) (fun _ _=>rfl)
theorem aah (col:bU)(w:World)(P:Nat)(m:Pl.Sc)(ps qs:List Nat)(nv av wv hv gv:Value)(h:fA col w P m ps qs nv av wv hv gv)(g c i:Nat)(G:Pl.gF)(u:Value)(l:List Int)(hu:bM (fun b=>col b=.ro) false w 1 u l.length (l.map I))(hi:m.rows.gone+i=g)(hG:m.rows.groups[i]?=some G)(hgm:g≤1000000)(hc:c<G.lists.length)(hcm:c≤1000000)(hm1:1≤G.missing)(hm2:G.missing≤1000000)(hgl:m.rows.groups.length≤1000000):
 Calls Tryz.prog 170 #[PtrTo P 14,.int .i64 g,.int .i64 c,u] w fun e w'=>e=.returned (.tuple #[])∧fA col w' P {m with rows:=Pl.kz m.rows g c l} ps qs nv av wv hv gv∧Kp (nG col) w w':=by
 obtain⟨hg2,hGe⟩:=aL.1 hG;have hii:(g:Int)-(m.rows.gone:Int)=(i:Int):=af;have H7:Pl.kz m.rows g c l={m.rows with groups:=m.rows.groups.set i {G with lists:=G.lists.set c l,missing:=G.missing-1} }:=by
  unfold Pl.kz;rw[show g-m.rows.gone=i from af,Jf hG]
 have ais:=hide H7;have HI:=hide hi;clear hi H7;have s15:=h.blk.cell 15;have s16:=h.blk.cell 16;simp only[dw,I,au]at s15 s16;obtain⟨eG,hlv,hrow,hlist⟩:=h.inn.groups;have rY:=hrow;obtain⟨ga,gc,rfl,hgc,h3⟩:=rY.get;obtain⟨gb,go,rfl,-,-⟩:=h3 af;clear h3 rY;obtain⟨vs,hvl,mR,hvs⟩:=hlist i _ G (ay af) hG;have TK:=mR;obtain⟨la,lc,hle,hlc,h4⟩:=TK.get;obtain⟨lb,lo,rfl,-,-⟩:=h4 af;clear h4 TK;have e1:=(hrow.n_ (i*3+1) af).1.trans (mX eG m.rows.groups hlv i 1 hg2 af);have e2:=(hrow.n_ (i*3+2) af).1.trans (mX eG m.rows.groups hlv i 2 hg2 af);have f2:=(hrow.n_ (i*3+2) af).2.1;have qb:=(hrow.n_ (i*3+2) af).2.2;rw[hGe]at e1 e2;simp only[au,hle,I,←Nat.add_assoc]at e1 e2 f2;rw[hle]at mR;obtain⟨e3,f3,vJ⟩:=mR.n_ c af;have e3':∃y,w.cell? ⟨lb,lo+c,none⟩=some y:=⟨_,e3.trans (ay (by rw[hvl];exact hc))⟩
 obtain⟨y,e3'⟩:=e3';clear e3;have hne:lb≠gb:=fun e=>by rw[e]at vJ;rw[qb]at vJ;cases vJ
 obtain⟨ua,uc,rfl,-,-⟩:=hu.get;have Dy:=hide hle;have Px:=hide hGe;have YQ:=hide hvl;have Py:=hide hlv;clear hle hGe hvl hG;go_enter Tryz.func170,Tryz.ntmps170
 go_wp2_with fail
 go_quiet (fail);have x1:Ext w (w.drewN nq):=ax.drewN nq;have h1:=h.ext x1;have Jg:=x1.cell e1 id;have e2':=x1.cell e2 id;have amT:=x1.cell e3' id;have f2':(w.drewN nq).frozen? ⟨gb,go+i*3+2,none⟩=false:=f2;have f3':(w.drewN nq).frozen? ⟨lb,lo+c,none⟩=false:=f3;clear e1 e2 e3' f2 f3 s15 s16;generalize w.drewN nq=W1 at*
 go_wp2_with fail
 go_end0
 rw[ais.out];have hmi:((G.missing:Int)-1)=((G.missing-1:Nat):Int):=af;rw[hmi];have ka:=bI W1 lb (lo+c) (.slice ua l.length uc);have kb:=bI (W1.setCell ⟨lb,lo+c,none⟩ (.slice ua l.length uc)) gb (go+i*3+2) (.int .i64 ((G.missing-1:Nat):Int));have TL:Kp (nG col) W1 ((W1.setCell ⟨lb,lo+c,none⟩ (.slice ua l.length uc)).setCell ⟨gb,go+i*3+2,none⟩ (.int .i64 ((G.missing-1:Nat):Int))):=(ka.mono (fun k _ e=>by rw[e];exact .inr ⟨_,vJ⟩)).trans (kb.mono (fun k _ e=>by rw[e];exact .inl qb));have Di:¬nG col P:=fun e=>by
  rcases e with e|⟨g,e⟩
  ·rw[h.inn.cB]at e;cases e
  ·rw[h.inn.cB]at e;cases e
 have hga:jV col ((W1.setCell ⟨lb,lo+c,none⟩ (.slice ua l.length uc)).setCell ⟨gb,go+i*3+2,none⟩ (.int .i64 ((G.missing-1:Nat):Int))) m.rows.gone (.slice (some ⟨gb,go,none⟩) m.rows.groups.length gc) (m.rows.groups.set i {G with lists:=G.lists.set c l,missing:=G.missing-1}):=by
  have r1:=hrow.go (S:=fun _=>False) (C':=fun b=>col b=.groups) x1 (fun _ _ f=>f) (fun _ _ e=>e);have r2:=r1.go (C':=fun b=>col b=.groups) ka (fun k hk e=>by rw[e,vJ]at hk;cases hk) (fun _ _ e=>e);have r3:=r2.set (i*3+2) af (.int .i64 ((G.missing-1:Nat):Int));have es:=LD eG m.rows.groups Py.out i hg2 {G with lists:=G.lists.set c l,missing:=G.missing-1} (by rw[Px.out]);simp only[I]at es;rw[es,←Nat.add_assoc]at r3;refine⟨eG,by rw[List.length_set];exact Py.out,by rw[List.length_set];exact r3,fun k lv gk a b=>?_⟩;rw[List.getElem?_set]at b;by_cases hk:i=k
  ·subst hk;rw[if_pos rfl,if_pos hg2]at b;cases b;rw[ay (by rw[Py.out];exact hg2),Dy.out]at a;cases a;refine⟨vs.set c (.slice ua l.length uc),by simp[YQ.out],?_,fun j v xl hv hx=>?_⟩
   ·have q1:=mR.go (S:=fun _=>False) (C':=fun b=>col b=.lists (m.rows.gone+i)) x1 (fun _ _ f=>f) (fun _ _ e=>e);have q2:=q1.set c af (.slice ua l.length uc);rw[List.length_set];exact q2.go (C':=fun b=>col b=.lists (m.rows.gone+i)) kb (fun k hk e=>by rw[e,qb]at hk;cases hk) (fun _ _ e=>e)
   ·rw[List.getElem?_set]at hv hx;have abu:∀k,col k=.ro→¬(nG col k):=fun k hk e=>by
     rcases e with e|⟨g,e⟩
     ·rw[hk]at e;cases e
     ·rw[hk]at e;cases e
    by_cases hj:c=j
    ·subst hj;rw[if_pos rfl,if_pos (by rw[YQ.out];exact hc)]at hv;rw[if_pos rfl,if_pos hc]at hx;cases hv;cases hx;exact(hu.go (S:=fun _=>False) (C':=fun b=>col b=.ro) x1 (fun _ _ f=>f) (fun _ _ e=>e)).go TL (fun k hk=>abu k hk) (fun _ _ e=>e)
    ·rw[if_neg hj]at hv hx;exact((hvs j v xl hv hx).go (S:=fun _=>False) (C':=fun b=>col b=.ro) x1 (fun _ _ f=>f) (fun _ _ e=>e)).go TL (fun k hk=>abu k hk) (fun _ _ e=>e)
  ·rw[if_neg hk]at b;refine(((hlist k lv gk a b).go x1 (fun _ f=>f.elim) (fun _ f=>f.elim) (fun _ _=>rfl)).go ka (fun q hq=>?_) (fun q hq=>?_) (fun _ _=>rfl)).go kb (fun q hq=>?_) (fun q hq=>?_) (fun _ _=>rfl)
   ·rw[hq,vJ];simp;omega
   ·rw[hq,vJ];simp
   ·rw[hq,qb];simp
   ·rw[hq,qb];simp
 exact⟨rfl,⟨h1.blk.kept TL Di,h1.inn.Xe TL hga⟩,(Kp.cZ x1).trans TL⟩
theorem OE (gs:List Pl.gF)(k:Nat)(hk:k<gs.length):Pl.fu (gs.drop k)=if 0<gs[k].missing then 0 else gs[k].rows+Pl.fu (gs.drop (k+1)):=by
 rw[aV hk];rfl
structure LH (r:Pl.Rw):Prop where
 groups:r.groups.length≤1000
 rows:∀g∈r.groups,g.rows≤1000000
 missing:∀g∈r.groups,g.missing≤1000000
 row:r.row≤Pl.fu r.groups
 left:r.left≤1000000000
 gone:r.gone≤1000000
theorem Ji (col:bU)(w:World)(P:Nat)(m:Pl.Sc)(ps qs:List Nat)(nv av wv hv gv:Value)(h:fA col w P m ps qs nv av wv hv gv)(hok:LH m.rows):
 Calls Tryz.prog 107 #[PtrTo P 14] w fun e w'=>e=.returned (.int .i64 (Pl.eF m.rows))∧Ext w w':=by
 have s15:=h.blk.cell 15;have FU:=h.blk.cell 17;simp only[dw,I,au]at s15 FU;obtain⟨eG,hlv,hrow,hlist⟩:=h.inn.groups;obtain⟨ga,gc,rfl,hgc,h3⟩:=hrow.get;have FT:=h.blk.lt;have abA:∀i(hi:i<eG.length),∃a n c,eG[i]=.slice a n c:=fun i hi=>by
  obtain⟨vs,-,hr,-⟩:=hlist i _ _ (ay hi) (ay af);obtain⟨a,c,e,-⟩:=hr.get;exact⟨_,_,_,e⟩
 have hrw:=hok.row;have hgl:=hok.groups;have hgr:=hok.rows;have hgm:=hok.missing;have HR:Hid (Pl.eF m.rows=Pl.fu m.rows.groups-m.rows.row):=hide rfl;clear hrow hlist h;go_enter Tryz.func107,Tryz.ntmps107
 go_wp2_with fail
 go_loopw [3,11] (fun t i wr=>∃(k c:Nat),i=.int .i64 k∧t=.int .i64 c∧k≤m.rows.groups.length∧c≤k*1000000∧c+Pl.fu (m.rows.groups.drop k)=Pl.fu m.rows.groups∧Ext w wr) (fun _ i _=>m.rows.groups.length-(intOf i).toNat)
 case atStart=>exact⟨0,0,rfl,rfl,af,af,aj,Kp.refl _ _⟩
 case round=>
  obtain⟨k,c,rfl,rfl,hk,hc,hsum,hx⟩:=hrel;have abB:=hx.cell FU id;have hPw:P<wr.heap.size:=aY FT hx.size;by_cases hkl:k<m.rows.groups.length
  ·obtain⟨b,off,rfl,hb,hcc⟩:=h3 af;have d0:=hx.cell ((hcc (k*3+0) af).trans (mX eG m.rows.groups hlv k 0 hkl af)) id;have d1:=hx.cell ((hcc (k*3+1) af).trans (mX eG m.rows.groups hlv k 1 hkl af)) id;have d2:=hx.cell ((hcc (k*3+2) af).trans (mX eG m.rows.groups hlv k 2 hkl af)) id;obtain⟨la,ln,lc,hlk⟩:=abA k af;have hst:=OE m.rows.groups k hkl;have amU:=hgr m.rows.groups[k] (aJ hkl);have amV:=hgm m.rows.groups[k] (aJ hkl);rw[hlk]at d1;generalize m.rows.groups[k]=G at*;simp only[I,Nat.add_zero,←Nat.add_assoc]at d0 d1 d2;clear hcc h3 hlk abA;by_cases hm:0<G.missing
   ·rw[if_pos hm]at hst;have hm':(0:Int)<G.missing:=af
    go_wp2_with fail
    go_ret;rw[HR.out];refine⟨?_,hx.alloc _⟩;have:c=Pl.fu m.rows.groups:=af;rw[this];have e:((Pl.fu m.rows.groups:Nat):Int)-(m.rows.row:Int)=((Pl.fu m.rows.groups-m.rows.row:Nat):Int):=af;show Ending.returned (.int .i64 (((Pl.fu m.rows.groups:Nat):Int)-(m.rows.row:Int)))=_;rw[e]
   ·rw[if_neg hm]at hst;have hm':G.missing=0:=af;have TM:Hid (c+G.rows+Pl.fu (m.rows.groups.drop (k+1))=Pl.fu m.rows.groups):=hide af;clear hst hsum hm
    go_wp2_with fail
    refine⟨⟨k+1,c+G.rows,by go_num,by go_num,af,af,TM.out,hx.alloc _⟩,by simp[intOf];omega⟩
  ·obtain rfl:k=m.rows.groups.length:=af;rw[List.drop_length]at hsum;have ae8:c=Pl.fu m.rows.groups:=hsum
   go_wp2_with fail
   go_ret;rw[HR.out];refine⟨?_,hx⟩;rw[ae8];have e:((Pl.fu m.rows.groups:Nat):Int)-(m.rows.row:Int)=((Pl.fu m.rows.groups-m.rows.row:Nat):Int):=af;show Ending.returned (.int .i64 (((Pl.fu m.rows.groups:Nat):Int)-(m.rows.row:Int)))=_;rw[e]
theorem Inner.Jk {col:bU}{w w':World}{P:Nat}{m:Pl.Sc}{ps qs:List Nat}{nv av wv hv gv jN:Value}{rw':Pl.Rw}(h:Inner col w P m ps qs nv av wv hv gv)(k:Kp (fun k=>k=P∨col k=.groups) w w')(hg:jV col w' rw'.gone jN rw'.groups):Inner col w' P {m with rows:=rw'} ps qs nv av wv hv jN:=by
 have hno:∀(c:Col),c≠.groups→c≠.scan→∀i,(i=P∨col i=.groups)→col i≠c:=fun c h1 h2 i hi e=>by
  rcases hi with hi|hi
  ·rw[hi,h.cB]at e;exact h2 e.symm
  ·rw[hi]at e;exact h1 e.symm
 have hnp:∀q,col q=.part→¬(q=P∨col q=.groups):=fun q hq hs=>hno .part aj aj q hs hq
 refine⟨h.cB,fun i hi=>h.top i (aO k.size hi),?_,?_,h.jd,?_,?_,h.jW,?_,h.nodup,?_,hg⟩
 ·exact h.names.go k (fun i hi hs=>hno .ro aj aj i hs hi) (fun _ _ e=>e)
 ·exact h.asked.kept k (fun g hg hs=>hno .asked aj aj g hs (h.jd g hg))
 ·exact h.eY.go k (fun p hp=>hnp p (h.eY.lt hp).2) (fun p _=>hno _ aj aj) (hno _ aj aj) (fun _ _=>rfl)
 ·exact h.waiting.kept k (fun g hg hs=>hno .wait aj aj g hs (h.jW g hg))
 ·exact h.gI.go k (fun p hp=>hnp p (h.gI.lt hp).2) (fun p _=>hno _ aj aj) (hno _ aj aj) (fun _ _=>rfl)
 ·exact h.ahead.go k (hno _ aj aj) (fun _ _=>rfl)
theorem Ku (col:bU)(w:World)(P:Nat)(m:Pl.Sc)(ps qs:List Nat)(nv av wv hv gv:Value)(h:fA col w P m ps qs nv av wv hv gv)(G:Pl.gF)(rest:List Pl.gF)(hG:m.rows.groups=G::rest)(hgl:rest.length≤1000)(hgo:m.rows.gone≤1000000):
 Calls Tryz.prog 150 #[PtrTo P 14] w fun e w'=>e=.returned (.tuple #[])∧∃jN,fA col w' P {m with rows:={m.rows with groups:=rest,gone:=m.rows.gone+1,row:=0} } ps qs nv av wv hv jN∧Kp (fun k=>k=P∨col k=.groups) w w':=by
 have s15:=h.blk.cell 15;have s16:=h.blk.cell 16;have FU:=h.blk.cell 17;have f15:=h.blk.free 15;have f16:=h.blk.free 16;have f17:=h.blk.free 17;simp only[dw,I,au]at s15 s16 FU;have LJ:=h.inn.groups;rw[hG]at LJ;obtain⟨eG,hlv,hrow,hlist⟩:=LJ;simp only[aR]at hlv hrow;cases eG with
 |nil=>simp at hlv
 |cons lv eG=>
 have rY:=hrow;obtain⟨ga,gc,rfl,hgc,h3⟩:=rY.get;obtain⟨gb,go,rfl,-,-⟩:=h3 af;clear h3 rY;obtain⟨c0,f0,qb⟩:=hrow.n_ 0 af;obtain⟨c1,f1,-⟩:=hrow.n_ 1 af;obtain⟨c2,f2,-⟩:=hrow.n_ 2 af;have c0':w.cell? ⟨gb,go,none⟩=some (I G.rows):=c0;have c1':w.cell? ⟨gb,go+1,none⟩=some lv:=c1;have c2':w.cell? ⟨gb,go+2,none⟩=some (I G.missing):=c2;have f0':w.frozen? ⟨gb,go,none⟩=false:=f0;have hne:P≠gb:=fun e=>by have:=h.inn.cB;rw[e,qb]at this;cases this
 have r3:=(((hrow.set 0 af (.int .i64 0)).set 1 af (.slice none 0 0)).set 2 af (.int .i64 0)).YR (q:=1) af;rw[Nat.add_sub_cancel]at r3;have kk:Kp (fun k=>k=gb) w (((w.setCell ⟨gb,go+0,none⟩ (.int .i64 0)).setCell ⟨gb,go+1,none⟩ (.slice none 0 0)).setCell ⟨gb,go+2,none⟩ (.int .i64 0)):=((bI _ _ _ _).trans (bI _ _ _ _)).trans (bI _ _ _ _);have TN:∀(i:Nat)(lv:Value)(g:Pl.gF),eG[i]?=some lv→rest[i]?=some g→tH col w (m.rows.gone+1+i) lv g.lists:=fun i lv g a b=>by
  have:=hlist (i+1) lv g a b;rwa[show m.rows.gone+(i+1)=m.rows.gone+1+i from af]at this
 have abE:eG.length=rest.length:=by simpa using hlv
 have HL:=hide TN;have Py:=hide abE;have HR3:=hide r3;have HKK:=hide kk;clear r3 kk hlist TN hrow c0 c1 c2 f0 hlv abE;rw[Nat.add_zero]at HR3 HKK;simp only[I]at c0' c2';have abF:w.cell? ⟨P,15,none⟩=some (.slice (some ⟨gb,go,none⟩) (rest.length+1) gc):=by rw[s15]
 clear s15;go_enter Tryz.func150,Tryz.ntmps150
 go_upto_region 1 with fail
 have amW:=HKK.out.cell abF (fun e=>hne e);have amX:=HKK.out.cell s16 (fun e=>hne e);have amY:=HKK.out.cell FU (fun e=>hne e);have hb1:=h.blk.kept HKK.out (fun e=>hne e);have amZ:=hb1.free 15;have am0:=hb1.free 16;have am1:=hb1.free 17;clear abF s16 FU f15 f16 f17 c0' c1' c2' f0' f1 f2;generalize((w.setCell ⟨gb,go,none⟩ (.int .i64 0)).setCell ⟨gb,go+1,none⟩ (.slice none 0 0)).setCell ⟨gb,go+2,none⟩ (.int .i64 0)=W1 at*;have Q5:=h;clear h
 go_wp2_with fail
 ·go_end0
  have ka:=(((bI W1 P 15 (.slice (some ⟨gb,go,none⟩) rest.length 0)).trans (bI _ P 16 (.int .i64 ((m.rows.gone:Int)+1)))).trans (bI _ P 17 (.int .i64 0)))
  have TP:=((hb1.set 15 (.slice (some ⟨gb,go,none⟩) rest.length 0)).set 16 (.int .i64 ((m.rows.gone:Int)+1))).set 17 (.int .i64 0);have hce:(((dw P m nv av wv hv (.slice (some ⟨gb,go,none⟩) (rest.length+1) gc)).set 15 (.slice (some ⟨gb,go,none⟩) rest.length 0)).set 16 (.int .i64 ((m.rows.gone:Int)+1))).set 17 (.int .i64 0)=dw P {m with rows:={m.rows with groups:=rest,gone:=m.rows.gone+1,row:=0} } nv av wv hv (.slice (some ⟨gb,go,none⟩) rest.length 0):=by simp[dw,I,lT]
  rw[hce]at TP;have Q6:bM (fun b=>col b=.groups) true W1 3 (.slice (some ⟨gb,go,none⟩) rest.length 0) rest.length (jF eG rest):=by
   have:=HR3.out;rw[if_pos h,h]at this;exact this
  have rZ:Kp (fun k=>k=P∨col k=.groups) w (((W1.setCell ⟨P,15,none⟩ (.slice (some ⟨gb,go,none⟩) rest.length 0)).setCell ⟨P,16,none⟩ (.int .i64 ((m.rows.gone:Int)+1))).setCell ⟨P,17,none⟩ (.int .i64 0)):=(HKK.out.mono (fun k _ e=>.inr (by rw[e];exact qb))).trans (ka.mono (fun _ _ e=>.inl e));have EK:∀i,i=P→col i=.scan:=fun i e=>by rw[e];exact Q5.inn.cB
  have hga:jV col (((W1.setCell ⟨P,15,none⟩ (.slice (some ⟨gb,go,none⟩) rest.length 0)).setCell ⟨P,16,none⟩ (.int .i64 ((m.rows.gone:Int)+1))).setCell ⟨P,17,none⟩ (.int .i64 0)) (m.rows.gone+1) (.slice (some ⟨gb,go,none⟩) rest.length 0) rest:=by
   refine⟨eG,Py.out,Q6.go (C':=fun b=>col b=.groups) ka (fun k hk e=>by rw[EK k e]at hk;cases hk) (fun _ _ e=>e),fun i lv g a b=>?_⟩;refine((HL.out i lv g a b).go HKK.out (fun k hk=>by rw[hk,qb];simp) (fun k hk=>by rw[hk,qb];simp) (fun _ _=>rfl)).go ka (fun k hk=>by rw[EK k hk];simp) (fun k hk=>by rw[EK k hk];simp) (fun _ _=>rfl)
  exact⟨rfl,⟨_,TP,Q5.inn.Jk (rw':={m.rows with groups:=rest,gone:=m.rows.gone+1,row:=0}) rZ hga⟩,rZ⟩
 ·go_end0
  have ka:=(((bI W1 P 15 (.slice (some ⟨gb,go+3,none⟩) rest.length (gc-1))).trans (bI _ P 16 (.int .i64 ((m.rows.gone:Int)+1)))).trans (bI _ P 17 (.int .i64 0)))
  have TP:=((hb1.set 15 (.slice (some ⟨gb,go+3,none⟩) rest.length (gc-1))).set 16 (.int .i64 ((m.rows.gone:Int)+1))).set 17 (.int .i64 0);have hce:(((dw P m nv av wv hv (.slice (some ⟨gb,go,none⟩) (rest.length+1) gc)).set 15 (.slice (some ⟨gb,go+3,none⟩) rest.length (gc-1))).set 16 (.int .i64 ((m.rows.gone:Int)+1))).set 17 (.int .i64 0)=dw P {m with rows:={m.rows with groups:=rest,gone:=m.rows.gone+1,row:=0} } nv av wv hv (.slice (some ⟨gb,go+3,none⟩) rest.length (gc-1)):=by simp[dw,I,lT]
  rw[hce]at TP;have Q6:bM (fun b=>col b=.groups) true W1 3 (.slice (some ⟨gb,go+3,none⟩) rest.length (gc-1)) rest.length (jF eG rest):=by
   have:=HR3.out;rw[if_neg h]at this;exact this
  have rZ:Kp (fun k=>k=P∨col k=.groups) w (((W1.setCell ⟨P,15,none⟩ (.slice (some ⟨gb,go+3,none⟩) rest.length (gc-1))).setCell ⟨P,16,none⟩ (.int .i64 ((m.rows.gone:Int)+1))).setCell ⟨P,17,none⟩ (.int .i64 0)):=(HKK.out.mono (fun k _ e=>.inr (by rw[e];exact qb))).trans (ka.mono (fun _ _ e=>.inl e));have EK:∀i,i=P→col i=.scan:=fun i e=>by rw[e];exact Q5.inn.cB
  have hga:jV col (((W1.setCell ⟨P,15,none⟩ (.slice (some ⟨gb,go+3,none⟩) rest.length (gc-1))).setCell ⟨P,16,none⟩ (.int .i64 ((m.rows.gone:Int)+1))).setCell ⟨P,17,none⟩ (.int .i64 0)) (m.rows.gone+1) (.slice (some ⟨gb,go+3,none⟩) rest.length (gc-1)) rest:=by
   refine⟨eG,Py.out,Q6.go (C':=fun b=>col b=.groups) ka (fun k hk e=>by rw[EK k e]at hk;cases hk) (fun _ _ e=>e),fun i lv g a b=>?_⟩;refine((HL.out i lv g a b).go HKK.out (fun k hk=>by rw[hk,qb];simp) (fun k hk=>by rw[hk,qb];simp) (fun _ _=>rfl)).go ka (fun k hk=>by rw[EK k hk];simp) (fun k hk=>by rw[EK k hk];simp) (fun _ _=>rfl)
  exact⟨rfl,⟨_,TP,Q5.inn.Jk (rw':={m.rows with groups:=rest,gone:=m.rows.gone+1,row:=0}) rZ hga⟩,rZ⟩
structure LK (r:Pl.Rw)(G:Pl.gF)(rest:List Pl.gF):Prop where
 groups:r.groups=G::rest
 few:rest.length≤1000
 bD:G.lists.length=r.columns
 len:∀l∈G.lists,l.length=G.rows
 row:r.row<G.rows
 rows:G.rows≤1000000
 left:1≤r.left
 ae9:r.left≤1000000000
 gone:r.gone≤1000000
 columns:r.columns≤1000
theorem LM (col:bU)(w:World)(P:Nat)(m:Pl.Sc)(ps qs:List Nat)(nv av wv hv gv:Value)(h:fA col w P m ps qs nv av wv hv gv)(G:Pl.gF)(rest:List Pl.gF)(hok:LK m.rows G rest):
 Calls Tryz.prog 130 #[PtrTo P 14] w fun e w'=>∃rb,e=.returned (.slice (some ⟨rb,0,none⟩) m.rows.columns m.rows.columns)∧w.heap.size≤rb∧bK w' rb ((Pl.gG m.rows).1.map I) 3∧(∃jN,fA col w' P {m with rows:=(Pl.gG m.rows).2} ps qs nv av wv hv jN)∧Kp (fun k=>k=P∨col k=.groups) w w':=by
 have PE:=h.blk.cell 14;have s15:=h.blk.cell 15;have FU:=h.blk.cell 17;have TQ:=h.blk.cell 18;have f17:=h.blk.free 17;have f18:=h.blk.free 18;simp only[dw,I,au]at PE s15 FU TQ;have LJ:=h.inn.groups;rw[hok.groups]at LJ;obtain⟨eG,hlv,hrow,hlist⟩:=LJ;simp only[aR]at hlv hrow;cases eG with
 |nil=>simp at hlv
 |cons lv eG=>
 have rY:=hrow;obtain⟨ga,gc,rfl,hgc,h3⟩:=rY.get;obtain⟨gb,go,rfl,-,-⟩:=h3 af;clear h3 rY;have c0:w.cell? ⟨gb,go,none⟩=some (.int .i64 G.rows):=(hrow.n_ 0 af).1;have c1:w.cell? ⟨gb,go+1,none⟩=some lv:=(hrow.n_ 1 af).1;have c2:w.cell? ⟨gb,go+2,none⟩=some (.int .i64 G.missing):=(hrow.n_ 2 af).1;obtain⟨vs,hvl,mR,hvs⟩:=hlist 0 lv G rfl rfl;obtain⟨la,lc,rfl,hlc,hl3⟩:=mR.get;have yo:=hok.bD;have hrw:=hok.row;have hcm:=hok.columns;have hrm:=hok.rows;have hT:Pl.gG m.rows=(G.lists.map (fun l=>l.getD m.rows.row 0),if m.rows.row+1=G.rows then{m.rows with groups:=rest,gone:=m.rows.gone+1,row:=0,left:=m.rows.left-1}else{m.rows with row:=m.rows.row+1,left:=m.rows.left-1}):=by
  simp[Pl.gG,hok.groups]
 have HT:=hide hT;have FT:=h.blk.lt;clear hT;go_enter Tryz.func130,Tryz.ntmps130
 go_upto_region 2 with fail
 rw[yo]at hlc hl3 mR;have x1:Ext w (w.alloc (.cells #[.int .i64 G.rows,.slice la m.rows.columns lc,.int .i64 G.missing] 200)):=ax.alloc _;have b1:=bK.bO w [.int .i64 G.rows,.slice la m.rows.columns lc,.int .i64 G.missing] 200;have hz1:(w.alloc (.cells #[.int .i64 G.rows,.slice la m.rows.columns lc,.int .i64 G.missing] 200)).heap.size=w.heap.size+1:=aj;generalize w.alloc (.cells #[.int .i64 G.rows,.slice la m.rows.columns lc,.int .i64 G.missing] 200)=W1 at*;have ait:=x1.cell PE id;have e0:=b1.cell 0;have e1:=b1.cell 1;simp only[au]at e0 e1;clear PE;have HZ1:=hide hz1;clear hz1
 go_wp2_with (refine gT _ rfl _ _ _ rfl 3 (.int .i64 0) 8 Tryz.underlying46 nZ rfl m.rows.columns _ _ rfl rfl rfl rfl af af ?_;intro w3 b3 x3 z3;have Jg:=x3.cell e1 id)
 have PI:Ext w w3:=x1.trans x3;clear ait Jg e1;go_loopw [21] (fun i wr=>∃k:Nat,i=.int .i64 k∧k≤m.rows.columns∧bK wr W1.heap.size ((G.lists.take k).map (fun l=>I (l.getD m.rows.row 0))++List.replicate (m.rows.columns-k) (.int .i64 0)) 3∧Ext W1 wr) (fun i _=>m.rows.columns-(intOf i).toNat)
 case atStart=>exact⟨0,rfl,af,by simpa using b3,x3⟩
 case round=>
  obtain⟨k,rfl,hk,hb,hx⟩:=hrel;clear b3 x3 PI;have xw:Ext w wr:=x1.trans hx;have abB:=xw.cell FU id;by_cases hkl:k<m.rows.columns
  ·have hkg:k<G.lists.length:=af;obtain⟨lb,lo,rfl,hlb,abG⟩:=hl3 af;have hvk:vs[k]?=some (vs[k]'af):=ay af;have d0:=xw.cell ((abG k af).trans hvk) id;have m_:=hvs k _ G.lists[k] hvk (ay hkg);have hlk:=hok.len G.lists[k] (aJ hkg);obtain⟨ua,uc,hue,huc,hu3⟩:=m_.get;obtain⟨ub,uo,rfl,hub,abH⟩:=hu3 af;have d1:=xw.cell ((abH m.rows.row af).trans (by rw[aN,ay af];rfl)) id;rw[hue]at d0;have HG:Hid (G.lists[k].getD m.rows.row 0=G.lists[k][m.rows.row]'af):=hide (by rw[aC,ay af];rfl);have zn:Hid ((G.lists.take (k+1)).map (fun l=>I (l.getD m.rows.row 0))=(G.lists.take k).map (fun l=>I (l.getD m.rows.row 0))++[I (G.lists[k].getD m.rows.row 0)]):=hide (by rw[aF hkg,a_];rfl);have hlen:((G.lists.take k).map (fun l=>I (l.getD m.rows.row 0))).length=k:=by simp;omega
   rw[HG.out]at zn;generalize hval:G.lists[k][m.rows.row]'af=y at*;rw[hlk]at d0;have cw:=hb.cell k;have fw:=hb.free k;have cw':∃z,wr.cell? ⟨W1.heap.size,k,none⟩=some z:=⟨_,cw.trans (ay (by rw[aD,hlen,List.length_replicate];omega))⟩
   obtain⟨z,cw'⟩:=cw';simp only[I]at d1;clear cw abG abH hu3 hl3 hval HG hlk hvk m_ hvs hue
   go_wp2_with fail
   refine⟨⟨k+1,by go_num,af,?_,hx.setCell (p:=⟨W1.heap.size,k,none⟩) (.inr (aK _)) _⟩,by simp[intOf];omega⟩;have b2:=hb.set k (.int .i64 y);rw[zn.out];have es:((G.lists.take k).map (fun l:List Int=>I (l.getD m.rows.row 0))++List.replicate (m.rows.columns-k) (Value.int .i64 0)).set k (Value.int .i64 y)=(G.lists.take k).map (fun l:List Int=>I (l.getD m.rows.row 0))++[I y]++List.replicate (m.rows.columns-(k+1)) (Value.int .i64 0):=by
    rw[List.set_append_right _ _ (by rw[hlen];exact aK _),hlen,Nat.sub_self,show m.rows.columns-k=(m.rows.columns-(k+1))+1 from af,List.replicate_succ,List.set_cons_zero,aW];rfl
   rw[es]at b2;exact b2
  ·obtain rfl:k=m.rows.columns:=af;rw[List.take_of_length_le af,Nat.sub_self,List.replicate_zero,List.append_nil]at hb;have hrep:=h.ext xw;have aiu:=xw.cell TQ id;have aiv:=hrep.blk.free 17;have aiw:=hrep.blk.free 18;have hPw:=hrep.blk.lt;have hWP:W1.heap.size≠P:=by have:=HZ1.out;omega
   have uO:=b1.kept hx id;have hin:Inner col wr P {m with rows:={m.rows with row:=m.rows.row+1} } ps qs nv av wv hv (.slice (some ⟨gb,go,none⟩) (rest.length+1) gc):=⟨hrep.inn.cB,hrep.inn.top,hrep.inn.names,hrep.inn.asked,hrep.inn.jd,hrep.inn.eY,hrep.inn.waiting,hrep.inn.jW,hrep.inn.gI,hrep.inn.nodup,hrep.inn.ahead,hrep.inn.groups⟩
   have r4:=hrep.cellP 17 (.int .i64 ((m.rows.row:Int)+1)) (m':={m with rows:={m.rows with row:=m.rows.row+1} }) (by simp[dw,I,lT]) hin;have hleft:=hok.left;have aj3:=hok.ae9;have DC:((m.rows.left:Int)-1)=((m.rows.left-1:Nat):Int):=af;have hin2:Inner col (wr.setCell ⟨P,17,none⟩ (.int .i64 ((m.rows.row:Int)+1))) P {m with rows:={m.rows with row:=m.rows.row+1,left:=m.rows.left-1} } ps qs nv av wv hv (.slice (some ⟨gb,go,none⟩) (rest.length+1) gc):=⟨r4.inn.cB,r4.inn.top,r4.inn.names,r4.inn.asked,r4.inn.jd,r4.inn.eY,r4.inn.waiting,r4.inn.jW,r4.inn.gI,r4.inn.nodup,r4.inn.ahead,r4.inn.groups⟩
   have r5:=r4.cellP 18 (.int .i64 ((m.rows.left:Int)-1)) (m':={m with rows:={m.rows with row:=m.rows.row+1,left:=m.rows.left-1} }) (by simp[dw,I,lT,DC]) hin2;have k5:Kp (fun k=>k=P) wr ((wr.setCell ⟨P,17,none⟩ (.int .i64 ((m.rows.row:Int)+1))).setCell ⟨P,18,none⟩ (.int .i64 ((m.rows.left:Int)-1))):=(bI _ _ _ _).trans (bI _ _ _ _);clear hin hin2 r4 DC
   go_upto_region 10 with fail
   generalize(wr.setCell ⟨P,17,none⟩ (.int .i64 ((m.rows.row:Int)+1))).setCell ⟨P,18,none⟩ (.int .i64 ((m.rows.left:Int)-1))=W5 at*;have t17:=r5.blk.cell 17;simp only[dw,I,au,Int.natCast_add,Int.natCast_one]at t17;have tF:=(uO.kept k5 af).cell 0;simp only[aA]at tF;have hbR:=hb.kept k5 hWP;have kw5:Kp (fun k=>k=P∨col k=.groups) w W5:=(Kp.cZ xw).trans (k5.mono (fun _ _ e=>.inl e));clear abB aiu aiv aiw e0;by_cases he:m.rows.row+1=G.rows
   ·have he':((m.rows.row:Int)+1)=(G.rows:Int):=af;have hDF:=fun nq=>Ku col (W5.drewN nq) P _ ps qs nv av wv hv _ (r5.ext (ax.drewN nq)) G rest hok.groups hok.few hok.gone
    have HDF:=hide hDF;clear hDF;rw[he']at t17;go_quiet (fail);have x6:Ext W5 (W5.drewN nq):=ax.drewN nq;have HD:=hide ((bH HDF) nq);clear HDF t17 tF;generalize W5.drewN nq=W6 at*
    go_wp2_with fail
    refine(bH HD).mono ?_;rintro e w7 ⟨rfl,gv7,r7,k7⟩
    go_wp2_with fail
    go_ret;rw[HT.out,if_pos he];have hnc:¬(W1.heap.size=P∨col W1.heap.size=.groups):=fun e=>by
     rcases e with e|e
     ·exact hWP e
     ·rw[h.inn.top _ (by have:=HZ1.out;omega)]at e;cases e
    refine⟨W1.heap.size,rfl,by have:=HZ1.out;omega,?_,⟨gv7,r7⟩,(kw5.trans (Kp.cZ x6)).trans k7⟩;simp only[List.map_map];exact(hbR.kept x6 id).kept k7 hnc
   ·have he':¬((m.rows.row:Int)+1)=(G.rows:Int):=af;go_quiet (fail);have x6:Ext W5 (W5.drewN nq):=ax.drewN nq;have r6:=r5.ext x6;generalize W5.drewN nq=W6 at*
    go_wp2_with fail
    go_ret;rw[HT.out,if_neg he];refine⟨W1.heap.size,rfl,by have:=HZ1.out;omega,?_,⟨_,r6⟩,kw5.trans (Kp.cZ x6)⟩;simp only[List.map_map];exact hbR.kept x6 id
structure iM (C:Nat→Prop)(W:World)(Lb:Nat)(vs:List Value)(ls:List (List Int)):Prop where
 blk:bK W Lb vs 46
 new:C Lb
 len:vs.length=ls.length
 own:∀(i:Nat)v l,vs[i]?=some v→ls[i]?=some l→Own W 1 v l.length (l.map I)
 si:∀(i:Nat)v g,vs[i]?=some v→v.ownBlock=some g→C g∧g≠Lb
 apart:∀(i j:Nat)v u g,vs[i]?=some v→vs[j]?=some u→v.ownBlock=some g→u.ownBlock=some g→i=j
theorem iM.lt {C:Nat→Prop}{W:World}{Lb:Nat}{vs:List Value}{ls:List (List Int)}(h:iM C W Lb vs ls)(i:Nat)(v:Value)(g:Nat)(hv:vs[i]?=some v)(hg:v.ownBlock=some g):g<W.heap.size:=by
 have hi:=(aL.1 hv).1;exact(h.own i v _ hv (ay (by rw[←h.len];exact hi))).lt hg
theorem iM.kept {S:Nat→Prop}{C:Nat→Prop}{W W':World}{Lb:Nat}{vs:List Value}{ls:List (List Int)}(h:iM C W Lb vs ls)(k:Kp S W W')(hS:∀g,C g→g<W.heap.size→¬S g):iM C W' Lb vs ls:=
 ⟨h.blk.kept k (hS _ h.new h.blk.lt),h.new,h.len,fun i v l hv hl=>(h.own i v l hv hl).kept k (fun g hg=>hS g (h.si i v g hv hg).1 (h.lt i v g hv hg)),h.si,h.apart⟩
theorem iM.ext {C:Nat→Prop}{W W':World}{Lb:Nat}{vs:List Value}{ls:List (List Int)}(h:iM C W Lb vs ls)(k:Ext W W'):iM C W' Lb vs ls:=h.kept k (fun _ _ _ f=>f)
theorem iM.Ad {C C':Nat→Prop}{W:World}{Lb:Nat}{vs:List Value}{ls:List (List Int)}(h:iM C W Lb vs ls)(hC:∀g,C g→g<W.heap.size→C' g):iM C' W Lb vs ls:=
 ⟨h.blk,hC _ h.new h.blk.lt,h.len,h.own,fun i v g hv hg=>⟨hC _ (h.si i v g hv hg).1 (h.lt i v g hv hg),(h.si i v g hv hg).2⟩,h.apart⟩
theorem iM.put {C:Nat→Prop}{W W1:World}{Lb:Nat}{vs:List Value}{ls:List (List Int)}(h:iM C W Lb vs ls)(i:Nat)(v v':Value)(l:List Int)(hv:vs[i]?=some v)(k:Kp (Of v) W W1)(o:Own W1 1 v' l.length (l.map I))(s:Sep W v v')(h0:∀g,W.heap.size≤g→C g):iM C (W1.setCell ⟨Lb,i,none⟩ v') Lb (vs.set i v') (ls.set i l):=by
 have hk:=bI W1 Lb i v';have hL:¬Of v Lb:=fun e=>(h.si i v Lb hv e).2 rfl
 have hb':∀g,v'.ownBlock=some g→(C g∧g≠Lb)∧(v.ownBlock=some g∨W.heap.size≤g):=fun g e=>by
  rcases s with s|⟨g',s1,s2⟩
  ·rw[s]at e;exact⟨h.si i v g hv e,.inl e⟩
  ·rw[s1]at e;simp only[Option.some.injEq]at e;subst e;have:=h.blk.lt;exact⟨⟨h0 _ s2,af⟩,.inr s2⟩
 have hil:i<vs.length:=(aL.1 hv).1;refine⟨(h.blk.kept k hL).set i v',h.new,by simp[h.len],fun j u q hu hq=>?_,fun j u g hu hg=>?_,fun j1 j2 u1 u2 g h1 h2 e1 e2=>?_⟩
 ·by_cases hji:j=i
  ·subst hji;rw[List.getElem?_set_self hil]at hu;rw[List.getElem?_set_self (by rw[←h.len];exact hil)]at hq;cases hu;cases hq;exact o.kept hk (fun g hg e=>(hb' g hg).1.2 e)
  ·rw[List.getElem?_set_ne (Ne.symm hji)]at hu hq;refine((h.own j u q hu hq).kept k (fun g hg e=>hji (h.apart j i u v g hu hv hg e))).kept hk (fun g hg e=>(h.si j u g hu hg).2 e)
 ·by_cases hji:j=i
  ·subst hji;rw[List.getElem?_set_self hil]at hu;cases hu;exact(hb' g hg).1
  ·rw[List.getElem?_set_ne (Ne.symm hji)]at hu;exact h.si j u g hu hg
 ·by_cases hj1:j1=i
  ·by_cases hj2:j2=i
   ·omega
   ·exfalso;subst hj1;rw[List.getElem?_set_self hil]at h1;rw[List.getElem?_set_ne (Ne.symm hj2)]at h2;cases h1;have hlt:=h.lt j2 u2 g h2 e2;rcases(hb' g e1).2 with e|e
    ·exact hj2 (h.apart j2 j1 u2 v g h2 hv e2 e)
    ·omega
  ·rw[List.getElem?_set_ne (Ne.symm hj1)]at h1;by_cases hj2:j2=i
   ·exfalso;subst hj2;rw[List.getElem?_set_self hil]at h2;cases h2;have hlt:=h.lt j1 u1 g h1 e1;rcases(hb' g e2).2 with e|e
    ·exact hj1 (h.apart j1 j2 u1 v g h1 hv e1 e)
    ·omega
   ·rw[List.getElem?_set_ne (Ne.symm hj2)]at h2;exact h.apart j1 j2 u1 u2 g h1 h2 e1 e2
theorem iM.nil {C:Nat→Prop}{W:World}{Lb bD:Nat}(h:bK W Lb (List.replicate bD (.slice none 0 0)) 46)(hn:C Lb):iM C W Lb (List.replicate bD (.slice none 0 0)) (List.replicate bD []):=by
 have hr:∀(i:Nat)v,(List.replicate bD (Value.slice none 0 0))[i]?=some v→v=.slice none 0 0:=fun i v hv=>by
  have:=List.mem_of_getElem? hv;exact List.eq_of_mem_replicate this
 refine⟨h,hn,aj,fun i v l hv hl=>?_,fun i v g hv hg=>?_,fun i j v u g hv hu e1 e2=>?_⟩
 ·cases hr i v hv;cases List.eq_of_mem_replicate (List.mem_of_getElem? hl);exact Own.nil _ _
 ·cases hr i v hv;cases hg
 ·cases hr i v hv;cases e1
theorem bK.aix {w:World}{b c:Nat}{z:Value}{e:TypeId}(h:bK w b (List.replicate c z) e)(hc:c≤maxLen):Own w 1 (.slice (some ⟨b,0,none⟩) 0 c) 0 []:=
 ⟨aj,.inr ⟨b,c,rfl,aM _,hc,h.lt,fun j hj=>af,fun j hj=>⟨by rw[h.cell,List.getElem?_replicate,if_pos af];rfl,h.free j⟩⟩⟩
theorem OI {ops:Array Oper}{o:Oper}{a:Act}{w:World}{K:Act→World→Prop}{Q:Exit→Act→World→Prop}{E:Prop}(hg:o.guard=none)(l c:Operand)(t:TypeId)(hop:o.op=Op.makeSlice t l c)
 (e:TypeId)(z:Value)(bytes:Nat)(h1:Tryz.prog.underlying t=some (.slice e))(h2:(Tryz.prog.info? e).map (fun i=>(i.zero,i.size,i.bytes))=some (some z,1,bytes))(hz:z.cells=#[z])
 (n:Nat)(C:Int)(hl:a.eval l=.int .i64 0)(hc:a.eval c=.int .i64 C)(hC:C=n)(hb:bytes*n≤281474976710656)(hn:n≤1000000000000000)
 (hK:K (a.put o.dst (.slice (some ⟨w.heap.size,0,none⟩) 0 n)) (w.alloc (.cells (List.replicate n z).toArray e))):
 if Region.wanted o (yielded ops a.tmps)=true then Oper.wp Tryz.prog o a w K Q else E:=by
 have hw:Region.wanted o (yielded ops a.tmps)=true:=by simp[Region.wanted,hg]
 rw[if_pos hw];obtain⟨i,hi,hz0,hz1,hz2⟩:=info_parts h2;subst hC;have hrun:=run_make (P:=Tryz.prog) w t e i z h1 hi hz0 .i64 .i64 (0:Int) (n:Int) af af (by rw[hz2];omega) af;rw[Int.toNat_natCast,hz1,Nat.mul_one,hz]at hrun;have hm:madeCells #[z] n=(List.replicate n z).toArray:=by
  apply Array.ext';rw[toList_madeCells_one]
 rw[hm]at hrun;unfold Oper.wp;simp[execOp,hop,hl,hc,hrun,Result.andThen];exact hK
end Go.Proofs.YthicgffppmbamaaGreat
