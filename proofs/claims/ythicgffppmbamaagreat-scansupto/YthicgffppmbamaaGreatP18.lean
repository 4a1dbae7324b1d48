import Derived.BigQuiet
import Derived.Test.YthicgffppmbamaaGreatP10
import Derived.Test.YthicgffppmbamaaGreatP16
set_option maxRecDepth 100000
set_option maxHeartbeats 16000000
namespace Go.Proofs.YthicgffppmbamaaGreat
open Go.RowKit
def acI (w0 w':World)(e:Ending)(d:Option (List Nat)):Prop:=match d with
 |none=>∃v,e=.returned (.tuple #[v,.bool false])
 |some l=>∃v,e=.returned (.tuple #[v,.bool true])∧Own w' 1 v l.length (l.map fun(n:Nat)=>I n)∧∀g,v.ownBlock=some g→w0.heap.size≤g
def P7 (names want:List (List UInt8))(f i:Nat)(acc:List Nat):Option Nat→Option (List Nat)
 |none=>none
 |some q=>Pl.oU names want f (i+1) (acc++[q])
theorem RI (names want:List (List UInt8))(f i:Nat)(acc:List Nat):Pl.oU names want (f+1) i acc=P7 names want f i acc (Pl.rW names want i):=by
 conv=>lhs;unfold Pl.oU
 cases Pl.rW names want i<;>rfl
theorem MO (C C':Nat→Prop)(w:World)(wv nv:Value)(want names:List (List UInt8))(hw:bM C false w 1 wv want.length (want.map tx))(hn:bM C' false w 1 nv names.length (names.map tx))(hwl:want.length≤1000000000)(hnl:names.length≤1000):
 Calls Tryz.prog 133 #[wv,nv] w fun e w'=>acI w w' e (Pl.kJ want names)∧Ext w w':=by
 obtain⟨wa,wc,rfl,hwc,hw3⟩:=hw.get;obtain⟨na,nc,rfl,hnc,Pp⟩:=hn.get;clear hw hn;go_enter Tryz.func133,Tryz.ntmps133
 go_wp2_with fail
 go_loopw [6,7] (fun ov i wr=>∃(k:Nat)(acc:List Nat),i=.int .i64 k∧k≤want.length∧acc.length=k∧Hid (Pl.oU names want (want.length-k) k acc=Pl.kJ want names)∧Own wr 1 ov k (acc.map fun(n:Nat)=>I n)∧(∀g,ov.ownBlock=some g→w.heap.size≤g)∧Ext w wr) (fun _ i _=>want.length-(intOf i).toNat)
 case atStart=>exact⟨0,[],rfl,af,rfl,by show _=_;rfl,Own.nil _ _,fun g e=>by simp[Value.ownBlock]at e,Kp.refl _ _⟩
 case round=>
  obtain⟨k,acc,rfl,hk,hal,HF,ho,hg,hx⟩:=hrel;obtain⟨ao,cap,rfl,hcap⟩:=ho.shape;have FW:=hide hal;clear hal;by_cases hkl:k<want.length
  ·have k1:(k:Int)<(want.length:Int):=af;have k0:(0:Int)≤(k:Int):=af;obtain⟨b,off,rfl,hb,hc⟩:=hw3 af;have Be:want.getD k []=want[k]:=by rw[aC,ay hkl];rfl
   have hcw:∀j(hj:j<want.length),w.cell? ⟨b,off+j,none⟩=some (tx want[j]):=fun j hj=>by rw[hc j af,aN,ay hj];rfl
   have dk:=hx.cell (hcw k hkl) id;have HCW:=hide hcw;have kL:Hid (Pl.rW names want k=if want[k]∈want.take k then none else Pl.qP names want[k] names.length):=by
    show _=_;unfold Pl.rW;rw[Be]
   clear hc hcw Be hw3;generalize hX:want[k]=X at*;have HX:=hide hX;clear hX
   go_wp2_with fail
   go_loopw [8,9] (fun av i wq=>∃j:Nat,i=.int .i64 j∧j≤names.length∧av=.int .i64 (pE (Pl.qP names X j))∧Ext w wq∧Ext wr wq) (fun _ i _=>names.length-(intOf i).toNat)
   case atStart=>exact⟨0,rfl,af,rfl,hx,Kp.refl _ _⟩
   case round=>
    obtain⟨j,rfl,hj,rfl,AQ,B_⟩:=hrel;by_cases hjl:j<names.length
    ·have j1:(j:Int)<(names.length:Int):=af;have j0:(0:Int)≤(j:Int):=af;obtain⟨nb,ann,rfl,hnb,hnc'⟩:=Pp af;have dn:=AQ.cell ((hnc' j af).trans (by rw[aN,ay hjl];rfl)) id;have dk':=B_.cell dk id;have hstep:Pl.qP names X (j+1)=if names[j]=X then some j else Pl.qP names X j:=by
      conv=>lhs;unfold Pl.qP
      rw[show names.getD j []=names[j] by rw[aC,ay hjl];rfl]
     have MP:=hide hstep;clear hnc' hstep;generalize names[j]=Nm at*;by_cases he:Nm=X
     ·subst he;rw[if_pos rfl]at MP
      go_wp2_with fail
      go_quiet (fail);have xQ:Ext wr (wr.drewN nq):=ax.drewN nq;have xW:=AQ.trans xQ;have xR:=B_.trans xQ;clear dn dk';generalize wr.drewN nq=WQ at*
      go_wp2_with fail
      go_roundw
      case rel=>exact⟨j+1,by go_num,af,by rw[MP.out];rfl,xW,xR⟩
      case measure=>simp[intOf];omega
     ·rw[if_neg he]at MP;have Dx:(Nm==X)=false:=by simpa using he
      go_wp2_with fail
      go_quiet (fail);have xQ:Ext wr (wr.drewN nq):=ax.drewN nq;have xW:=AQ.trans xQ;have xR:=B_.trans xQ;clear dn dk';generalize wr.drewN nq=WQ at*
      go_wp2_with fail
      go_roundw
      case rel=>exact⟨j+1,by go_num,af,by rw[MP.out],xW,xR⟩
      case measure=>simp[intOf];omega
    ·obtain rfl:j=names.length:=af;have j1:¬(names.length:Int)<(names.length:Int):=af;obtain⟨P8,XL⟩:∃P8,P8=Pl.qP names X names.length:=⟨_,rfl⟩
     rw[←XL]at kL⊢;have acJ:∀q,P8=some q→q<names.length:=fun q hq=>(Pl.uM (XL.symm.trans hq)).1
     clear XL dk;have hoq:=ho.ext B_;clear ho B_
     go_wp2_with fail
     go_loopw [8,10] (fun av i wq=>∃(j:Nat)(an:Int),i=.int .i64 j∧j≤k∧av=.int .i64 an∧Hid (an=if X∈want.take j then -1 else pE P8)∧Ext w wq∧Ext wr wq) (fun _ i _=>k-(intOf i).toNat)
     case atStart=>exact⟨0,pE P8,rfl,af,rfl,by show _=_;simp,AQ,Kp.refl _ _⟩
     case round=>
      obtain⟨j,an,rfl,hj,rfl,Jh,AQ,B_⟩:=hrel;by_cases hjk:j<k
      ·have j1:(j:Int)<(k:Int):=af;have j0:(0:Int)≤(j:Int):=af;have j2:(j:Int)<(want.length:Int):=af;have dn:=AQ.cell (HCW.out j af) id;have dk':=AQ.cell (HCW.out k hkl) id;rw[HX.out]at dk';have hstep:X∈want.take (j+1)↔X∈want.take j∨want[j]=X:=by
        rw[aF (show j<want.length from af),aI,aZ];exact or_congr_right eq_comm
       have MP:=hide hstep;clear hstep;generalize want[j]=Nm at*;by_cases he:Nm=X
       ·subst he
        go_wp2_with fail
        go_quiet (fail);have xQ:Ext wr (wr.drewN nq):=ax.drewN nq;have xW:=AQ.trans xQ;have xR:=B_.trans xQ;clear dn dk';generalize wr.drewN nq=WQ at*
        go_wp2_with fail
        go_roundw
        case rel=>exact⟨j+1,-1,by go_num,af,rfl,by show _=_;rw[if_pos (MP.out.2 aj)],xW,xR⟩
        case measure=>simp[intOf];omega
       ·have Dx:(Nm==X)=false:=by simpa using he
        have hm:X∈want.take (j+1)↔X∈want.take j:=by rw[MP.out];exact⟨fun h=>h.elim id (fun h=>absurd h he),.inl⟩
        have HM:=hide hm;clear hm
        go_wp2_with fail
        go_quiet (fail);have xQ:Ext wr (wr.drewN nq):=ax.drewN nq;have xW:=AQ.trans xQ;have xR:=B_.trans xQ;clear dn dk';generalize wr.drewN nq=WQ at*
        go_wp2_with fail
        go_roundw
        case rel=>exact⟨j+1,an,by go_num,af,rfl,by show _=_;rw[Jh.out];simp only[HM.out],xW,xR⟩
        case measure=>simp[intOf];omega
      ·obtain rfl:j=k:=af;have j1:¬(j:Int)<(j:Int):=af;have hoz:=hoq.ext B_;obtain⟨cc,hcc⟩:∃cc:Option Nat,Pl.rW names want j=cc∧(if X∈want.take j then(-1:Int)else pE P8)=pE cc∧∀q,cc=some q→q<names.length:=by
        refine⟨_,rfl,?_,?_⟩
        ·rw[kL.out];split<;>rfl
        ·intro q hq;rw[kL.out]at hq;split at hq
         ·cases hq
         ·exact acJ q hq
       obtain⟨hc1,hc2,hc3⟩:=hcc;have han:an=pE cc:=by rw[Jh.out,hc2]
       rw[han];clear han Jh;obtain⟨f,hf⟩:∃f,want.length-j=f+1:=⟨want.length-j-1,af⟩
       have HFS:Hid (P7 names want f j acc cc=Pl.kJ want names):=by
        show _=_;have:=HF.out;rw[hf,RI,hc1]at this;exact this
       have HFf:=hide hf;clear HF hc1 hc2 kL acJ hf;cases cc with
       |none=>
        rw[show pE none=-1 from rfl]
        go_wp2_with fail
        go_ret2
        rw[←HFS.out];exact⟨⟨_,rfl⟩,AQ⟩
       |some q=>
        have hq:=hc3 q rfl;rw[show pE (some q)=(q:Int)from rfl];have q0:¬(q:Int)<0:=af;have HT:Hid ((acc++[q]).map (fun(n:Nat)=>I n)=acc.map (fun(n:Nat)=>I n)++[I q]):=by
         show _=_;rw[a_];rfl
        clear hc3
        go_wp2_with (at_builtin;go_must (refine dI _ rfl _ _ 46 46 rfl 3 (.int .i64 0) 1 8 Tryz.underlying46 nZ rfl _ _ _ rfl (hoz.dV _) _ rfl 1 _ (dO _ _ aj _ _ Tryz.underlying46 _ [.int .i64 (q:Int)] rfl (by intro u hu;simp at hu;subst hu;rfl)) af af ?_);intro v3 w3 o3 k3 s3)
        have x3:Ext w w3:=(AQ.alloc _).then k3 (fun i hi e=>by have:=hg i e;omega)
        go_roundw
        case rel=>exact⟨j+1,acc++[q],by go_num,af,by rw[aD,FW.out];rfl,by
         show _=_;rw[←HFS.out,show want.length-(j+1)=f by have:=HFf.out;omega];rfl,by rw[HT.out];exact o3,fun g e=>by
         rcases eT s3 e with e'|e'
         ·exact hg g e'
         ·have:=AQ.size;simp at e';omega,x3⟩
        case measure=>simp[intOf];omega
  ·obtain rfl:k=want.length:=af;have k1:¬(want.length:Int)<(want.length:Int):=af;have HR:Hid (Pl.kJ want names=if 0<acc.length then some acc else none):=by
    show _=_;rw[←HF.out,Nat.sub_self];rfl
   clear HF;by_cases h0:0<want.length
   ·have h0i:(0:Int)<(want.length:Int):=af;have d0:decide ((0:Int)<(want.length:Int))=true:=aH h0i
    go_wp2_with fail
    go_ret2
    rw[HR.out,if_pos (by rw[FW.out];exact h0)];exact⟨⟨_,rfl,by rw[FW.out];exact ho,hg⟩,hx⟩
   ·have h0i:¬(0:Int)<(want.length:Int):=af;have d0:decide ((0:Int)<(want.length:Int))=false:=aG h0i
    go_wp2_with fail
    go_ret2
    rw[HR.out,if_neg (by rw[FW.out];exact h0)];exact⟨⟨_,rfl⟩,hx⟩
end Go.Proofs.YthicgffppmbamaaGreat
