import Derived.Deep.QuietTactic
import Derived.BigQuiet
import Derived.Test.YthicgffppmbamaaGreatP18
import Derived.Test.YthicgffppmbamaaGreatP22
set_option maxRecDepth 100000
set_option maxHeartbeats 16000000
namespace Go.Proofs.YthicgffppmbamaaGreat
open Go.RowKit
def MI :Value:=.agg #[.int .i64 0,.int .i64 0,.int .i64 0,.int .i64 0,.string ⟨#[]⟩]
def P6 :Value:=.agg #[.int .i64 0,.int .i64 0,.int .i64 0,.string ⟨#[]⟩,.int .i64 0,.int .i64 0,.int .i64 0,.int .i64 0,.slice none 0 0]
theorem Jz :(Tryz.prog.info? 210).map (fun i=>(i.zero,i.size,i.bytes))=some (some MI,5,48):=by kernel_rfl
theorem RD :(Tryz.prog.info? 121).map (fun i=>(i.zero,i.size,i.bytes))=some (some P6,9,96):=by kernel_rfl
theorem RF (n0:Nat)(col:bU)(w:World)(Y:Nat)(r:Pl.cO)(bJ eG:List Value)(nv pv rv tv lv:Value)(l:List Pl.eU)(h:nJ n0 col w Y r bJ eG nv pv rv tv)(hl:bM (fun b=>col b=.out) false w 5 lv l.length (l.flatMap dA))(hn0:n0≤w.heap.size)(hll:l.length≤10)(hpl:r.pieces.length≤1000)(hpg:∀x∈l,x.page.place≤100000∧x.page.length≤100000)(BK:r.gap≤1000):
 Calls Tryz.prog 134 #[PtrTo Y 0,lv] w fun e w'=>e=.returned (.tuple #[])∧∃bV wM pv',nJ n0 bV w' Y {r with pieces:=r.pieces++Pl.wu r.gap l} wM eG nv pv' rv tv∧cu col w w' bV:=by
 obtain⟨la,lc,rfl,hlc,-⟩:=hl.get;obtain⟨pa0,pc0,rfl,anl⟩:=h.pieces.shape;have c7:=h.blk.cell 7;simp only[dm,I,au]at c7;go_enter Tryz.func134,Tryz.ntmps134
 go_wp2_with fail
 clear c7;go_loopw [5] (fun i wr=>∃(k:Nat)(J L:List Pl.bQ)(bV:bU)(wM:List Value)(pv':Value),i=.int .i64 k∧k≤l.length∧Hid (J=(l.take k).foldl (Pl.iX r.gap) [])∧Hid (L=r.pieces++J)∧nJ n0 bV wr Y {r with pieces:=L} wM eG nv pv' rv tv∧cu col w wr bV∧Hid (J.length≤k)∧Hid (∀p∈J,p.place≤100000∧p.length≤200000∧p.parts.length≤k)) (fun i _=>l.length-(intOf i).toNat)
 case atStart=>exact⟨0,[],r.pieces,col,bJ,_,rfl,af,by show _=_;rfl,by show _=_;simp,h,cu.refl _ _,aK 0,fun p hp=>by cases hp⟩
 case round=>
  obtain⟨k,J,L,iZ,RG,pv1,rfl,hk,HJ,HL,hR,hW,HJL,Uz⟩:=hrel;have xX:L.length≤2000:=by rw[HL.out,aD];have:=HJL.out;omega
  by_cases hkl:k<l.length
  ·have k1:(k:Int)<(l.length:Int):=af;have k0:(0:Int)≤(k:Int):=af;obtain⟨pa,pc,rfl,hpc⟩:∃pa pc,pv1=.slice pa L.length pc∧L.length≤pc:=hR.pieces.shape;have hl1:bM (fun b=>iZ b=.out) false wr 5 (.slice la l.length lc) l.length (l.flatMap dA):=hl.go hW.kept (fun i hi hs=>hs hi) (fun i hlt e=>by rw[hW.same i hlt];exact e);obtain⟨-,la',lc',he,-,hx3⟩:=hl1;cases he;obtain⟨lb,lo,rfl,XJ,anm,acA,-⟩:=hx3 af;have hcc:∀j,j<5→wr.cell? ⟨lb,lo+(k*5+j),none⟩=(dA l[k])[j]?:=fun j hj=>(acA _ af).trans (ET l k j hkl hj)
   have hxb:=hpg l[k] (aJ hkl);have HT:Hid (l.take (k+1)=l.take k++[l[k]]):=by show _=_;exact aF hkl
   obtain⟨x,hxe⟩:∃x,x=l[k]:=⟨_,rfl⟩
   rw[←hxe]at hcc hxb HT;clear hxe hx3 acA;have d0:=hcc 0 af;have d1:=hcc 1 af;have d2:=hcc 2 af;have d3:=hcc 3 af;have d4:=hcc 4 af;simp only[dA,I,tx,au,Nat.add_zero,←Nat.add_assoc]at d0 d1 d2 d3 d4;clear hcc;have c7:=hR.blk.cell 7;have c5:=hR.blk.cell 5;simp only[dm,I,au]at c7 c5;have hw1:IntKind.i64.wrap ((L.length:Int)-1)=(L.length:Int)-1:=by simp[IntKind.wrap,IntKind.bits,IntKind.signed];omega
   have HJN:Hid ((Pl.iX r.gap J x)=(l.take (k+1)).foldl (Pl.iX r.gap) []):=by
    show _=_;rw[HT.out,List.foldl_append,←HJ.out];rfl
   have hsplit:(∃J' q,J=J'++[q]∧x.page.place≤q.place+q.length+r.gap∧Pl.jC q x≤64)∨J=[]∨(∃J' q,J=J'++[q]∧¬x.page.place≤q.place+q.length+r.gap)∨(∃J' q,J=J'++[q]∧x.page.place≤q.place+q.length+r.gap∧¬Pl.jC q x≤64):=by
    by_cases e:J=[]
    ·exact .inr (.inl e)
    ·have e1:=(List.dropLast_concat_getLast e).symm;by_cases c1:x.page.place≤(J.getLast e).place+(J.getLast e).length+r.gap
     ·by_cases c2:Pl.jC (J.getLast e) x≤64
      ·exact .inl ⟨_,_,e1,c1,c2⟩
      ·exact .inr (.inr (.inr ⟨_,_,e1,c1,c2⟩))
     ·exact .inr (.inr (.inl ⟨_,_,e1,c1⟩))
   rcases hsplit with⟨J',q,wN,hc1,hc2⟩|D9
   ·obtain⟨ix,su⟩:∃ix,ix=r.pieces.length+J'.length:=⟨_,rfl⟩
    have D_:L.length=ix+1:=by rw[HL.out,wN,su];simp;omega
    have ze:L[ix]?=some q:=by rw[HL.out,wN,su,←aW,aP aj];simp
    have AP:=Uz.out q (by rw[wN];simp);have yx:Hid (q.parts.length≤k):=AP.2.2;obtain⟨pg,acB,hpe,-,Y7,-⟩:=hR.pieces.at (by show 0<L.length;omega);cases hpe;obtain⟨xv,hxv,hce⟩:=hR.piece ix (by show ix<L.length;omega);have wO:({r with pieces:=L}:Pl.cO).pieces[ix]'(by show ix<L.length;omega)=q:=by
     have:=aL.1 ze;exact this.2
    rw[wO]at hce;have e0:=(hce 0 af).1;have e1:=(hce 1 af).1;have e2:=(hce 2 af).1;have e3:=(hce 3 af).1;have e4:=(hce 4 af).1;have e5:=(hce 5 af).1;have e6:=(hce 6 af).1;have e7:=(hce 7 af).1;have e8:=(hce 8 af).1;simp only[dx,I,tx,au,Nat.add_zero]at e0 e1 e2 e3 e4 e5 e6 e7 e8;obtain⟨xa1,mU,rfl⟩:∃xa1 mU,xv=.slice xa1 q.parts.length mU:=by
     obtain⟨a1,a2,a3,-⟩:=(hR.parts ix xv q hxv ze).1.shape;exact⟨a1,a2,a3⟩
    have hw2:IntKind.i64.wrap ((L.length:Int)-1)=(ix:Int):=by rw[hw1];omega
    have g0:(r.pieces.length:Int)≤(ix:Int):=af;have g1:(0:Int)≤(ix:Int):=af;have g2:(ix:Int)<(L.length:Int):=af;have Gh:=hide D_;have HIX:=hide su;clear hw1 D_ su hce wO;have Ls:∀u:World,(Builtin.max_ #[3,3] 3 #[.int .i64 ((x.page.place:Int)+(x.page.length:Int)-(q.place:Int)),.int .i64 (q.length:Int)]).run Tryz.prog u=.ok (.int .i64 ((Pl.jC q x:Nat):Int)) u:=fun u=>by
     have e:(if(q.length:Int)>(x.page.place:Int)+(x.page.length:Int)-(q.place:Int)then(q.length:Int)else(x.page.place:Int)+(x.page.length:Int)-(q.place:Int))=((Pl.jC q x:Nat):Int):=by unfold Pl.jC;split<;>omega
     rw[←e];rfl
    have acD:Pl.jC q x≤300000:=by unfold Pl.jC;omega
    generalize BX:Pl.jC q x=lg at*;have HLG:=hide BX;clear BX;have g3:(x.page.place:Int)≤(q.place:Int)+(q.length:Int)+(r.gap:Int):=af;have g4:(lg:Int)≤64:=af
    go_wp2_with fail
    go_quiet (fail);generalize hWf:World.drewN _ _=Wf;have xf:Ext wr Wf:=by rw[←hWf];exact ax.drewN _
    clear hWf;have uP:=xf.cell d2 id;have UA:=xf.cell d3 id;have yw:=xf.cell c5 id;have JA:=xf.cell c7 id;replace e0:=xf.cell e0 id;replace e1:=xf.cell e1 id;replace e2:=xf.cell e2 id;replace e3:=xf.cell e3 id;replace e4:=xf.cell e4 id;replace e5:=xf.cell e5 id;replace e6:=xf.cell e6 id;replace e7:=xf.cell e7 id;replace e8:=xf.cell e8 id;have bP:=bK.bO Wf [.int .i64 q.kind,.int .i64 q.place,.int .i64 q.length,.string ⟨q.got.toArray⟩,.int .i64 q.failed,.int .i64 q.id,.int .i64 q.due,.int .i64 q.turn,.slice xa1 q.parts.length mU] 121;have xp:Ext Wf (Wf.alloc (.cells #[.int .i64 q.kind,.int .i64 q.place,.int .i64 q.length,.string ⟨q.got.toArray⟩,.int .i64 q.failed,.int .i64 q.id,.int .i64 q.due,.int .i64 q.turn,.slice xa1 q.parts.length mU] 121)):=ax.alloc _
    go_upto_region 9 with fail
    generalize Wf.alloc (.cells #[.int .i64 q.kind,.int .i64 q.place,.int .i64 q.length,.string ⟨q.got.toArray⟩,.int .i64 q.failed,.int .i64 q.id,.int .i64 q.due,.int .i64 q.turn,.slice xa1 q.parts.length mU] 121)=Wp at*;clear e0 e1 e2 e3 e4 e5 e6 e7 e8 JA UA;have p1:=bP.cell 1;have p2:=bP.cell 2;simp only[au]at p1 p2;replace uP:=xp.cell uP id;replace yw:=xp.cell yw id;go_quiet (fail)
    go_upto_region 10 with fail
    generalize BZ:World.drewN _ _=Wq;have xq:Ext wr Wq:=by rw[←BZ];exact(xf.trans xp).drewN _
    clear BZ uP yw p1 p2 bP xp xf;have qj:=hR.ext xq;have MJ:=qj.cB pg rfl;have kY:¬Y=pg:=fun e=>by rw[←e,hR.gP]at MJ;cases MJ
    have kl:¬lb=pg:=fun e=>by rw[←e,XJ]at MJ;cases MJ
    have c7q:=xq.cell c7 id;have d0q:=xq.cell d0 id;have d1q:=xq.cell d1 id;have d2q:=xq.cell d2 id;have d3q:=xq.cell d3 id;have d4q:=xq.cell d4 id;obtain⟨xv',XK,RH⟩:=qj.piece ix (by show ix<L.length;omega);obtain rfl:xv'=.slice xa1 q.parts.length mU:=by rw[hxv]at XK;exact(Option.some.inj XK).symm
    have wO:({r with pieces:=L}:Pl.cO).pieces[ix]'(by show ix<L.length;omega)=q:=(aL.1 ze).2;rw[wO]at RH;obtain⟨q2,MK⟩:=RH 2 af;obtain⟨q8,q8f⟩:=RH 8 af;simp only[dx,I,tx,au]at q2 q8;clear RH wO XK;obtain⟨hxo,hxc⟩:=qj.parts ix _ q hxv ze;have hxg:∀b,(Value.slice xa1 q.parts.length mU).ownBlock=some b→¬b=pg:=fun b hb e=>by have:=(hxc b hb).1;rw[e,MJ]at this;cases this
    have acF:Hid (Wq.setCell ⟨pg,ix*9+2,none⟩ (.int .i64 (lg:Int))=Wq.setCell ⟨pg,ix*9+2,none⟩ (I lg)):=by show _=_;rfl
    have k10:=bI Wq pg (ix*9+2) (.int .i64 (lg:Int));have c7r:=k10.cell c7q kY;have d0r:=k10.cell d0q kl;have d1r:=k10.cell d1q kl;have d2r:=k10.cell d2q kl;have d3r:=k10.cell d3q kl;have d4r:=k10.cell d4q kl;have q8r:(Wq.setCell ⟨pg,ix*9+2,none⟩ (.int .i64 (lg:Int))).cell? ⟨pg,ix*9+8,none⟩=some (.slice xa1 q.parts.length mU):=by
     rw[World.cell?_setCell_other _ _ _ _ (fun e=>by simp at e)];exact q8
    have q8g:(Wq.setCell ⟨pg,ix*9+2,none⟩ (.int .i64 (lg:Int))).frozen? ⟨pg,ix*9+8,none⟩=false:=by rw[World.frozen?_setCell];exact q8f
    have Y8:=hxo.kept k10 (fun g hg e=>hxg g hg e);clear q8 q8f d0q d1q d2q d3q d4q
    go_upto_region 11 with fail
    generalize Wq.setCell ⟨pg,ix*9+2,none⟩ (.int .i64 (lg:Int))=wP at*;clear c7q q2 MK;have hS0:wP.drew.cell? ⟨Y,7,none⟩=some (.slice (some ⟨pg,0,none⟩) L.length pc)∧wP.drew.cell? ⟨pg,ix*9+8,none⟩=some (.slice xa1 q.parts.length mU)∧wP.drew.cell? ⟨lb,lo+k*5,none⟩=some (.int .i64 x.group)∧wP.drew.cell? ⟨lb,lo+k*5+1,none⟩=some (.int .i64 x.want)∧wP.drew.cell? ⟨lb,lo+k*5+2,none⟩=some (.int .i64 x.page.place)∧wP.drew.cell? ⟨lb,lo+k*5+3,none⟩=some (.int .i64 x.page.length)∧wP.drew.cell? ⟨lb,lo+k*5+4,none⟩=some (.string ⟨(Pl.dz x.page.sum).toArray⟩):=⟨c7r,q8r,d0r,d1r,d2r,d3r,d4r⟩
    refine bZ (n:=21) (fun u=>u.cell? ⟨Y,7,none⟩=some (.slice (some ⟨pg,0,none⟩) L.length pc)∧u.cell? ⟨pg,ix*9+8,none⟩=some (.slice xa1 q.parts.length mU)∧u.cell? ⟨lb,lo+k*5,none⟩=some (.int .i64 x.group)∧u.cell? ⟨lb,lo+k*5+1,none⟩=some (.int .i64 x.want)∧u.cell? ⟨lb,lo+k*5+2,none⟩=some (.int .i64 x.page.place)∧u.cell? ⟨lb,lo+k*5+3,none⟩=some (.int .i64 x.page.length)∧u.cell? ⟨lb,lo+k*5+4,none⟩=some (.string ⟨(Pl.dz x.page.sum).toArray⟩)) (by kernel_rfl) ?_;generalize hWd:wP.drew=Wd at hS0⊢;have xd:Ext wP Wd:=by rw[←hWd];exact ax.drew
    have q8h:Wd.frozen? ⟨pg,ix*9+8,none⟩=false:=by rw[←hWd];exact q8g
    clear hWd;refine Late.t 0 [21] rfl hS0 ?_;refine Late.t 1 [21] rfl hS0 ?_;refine Late.t 2 [21] rfl hS0 ?_;refine Late.t 3 [21] rfl hS0 ?_;refine Late.t 4 [21] rfl hS0 ?_;refine Late.t 5 [21] rfl hS0 ?_;refine Late.t 6 [21] rfl hS0 ?_;refine Late.t 7 [21] rfl hS0 ?_;refine Late.t 8 [21] rfl hS0 ?_;refine Late.t 9 [21] rfl hS0 ?_;refine Late.t 10 [21] rfl hS0 ?_;refine Late.t 11 [21] rfl hS0 ?_;refine Late.t 12 [21] rfl hS0 ?_;refine Late.t 13 [21] rfl hS0 ?_;refine Late.t 14 [21] rfl hS0 ?_;refine Late.t 15 [21] rfl hS0 ?_;refine Late.t 16 [21] rfl hS0 ?_;have xa:Ext Wd (Wd.alloc (.cells #[.int .i64 x.group,.int .i64 x.want,.int .i64 x.page.place,.int .i64 x.page.length,.string ⟨(Pl.dz x.page.sum).toArray⟩] 210)):=ax.alloc _;have hS1:(Wd.alloc (.cells #[.int .i64 x.group,.int .i64 x.want,.int .i64 x.page.place,.int .i64 x.page.length,.string ⟨(Pl.dz x.page.sum).toArray⟩] 210)).cell? ⟨Y,7,none⟩=some (.slice (some ⟨pg,0,none⟩) L.length pc)∧(Wd.alloc (.cells #[.int .i64 x.group,.int .i64 x.want,.int .i64 x.page.place,.int .i64 x.page.length,.string ⟨(Pl.dz x.page.sum).toArray⟩] 210)).cell? ⟨pg,ix*9+8,none⟩=some (.slice xa1 q.parts.length mU)∧(Wd.alloc (.cells #[.int .i64 x.group,.int .i64 x.want,.int .i64 x.page.place,.int .i64 x.page.length,.string ⟨(Pl.dz x.page.sum).toArray⟩] 210)).cell? ⟨lb,lo+k*5,none⟩=some (.int .i64 x.group)∧(Wd.alloc (.cells #[.int .i64 x.group,.int .i64 x.want,.int .i64 x.page.place,.int .i64 x.page.length,.string ⟨(Pl.dz x.page.sum).toArray⟩] 210)).cell? ⟨lb,lo+k*5+1,none⟩=some (.int .i64 x.want)∧(Wd.alloc (.cells #[.int .i64 x.group,.int .i64 x.want,.int .i64 x.page.place,.int .i64 x.page.length,.string ⟨(Pl.dz x.page.sum).toArray⟩] 210)).cell? ⟨lb,lo+k*5+2,none⟩=some (.int .i64 x.page.place)∧(Wd.alloc (.cells #[.int .i64 x.group,.int .i64 x.want,.int .i64 x.page.place,.int .i64 x.page.length,.string ⟨(Pl.dz x.page.sum).toArray⟩] 210)).cell? ⟨lb,lo+k*5+3,none⟩=some (.int .i64 x.page.length)∧(Wd.alloc (.cells #[.int .i64 x.group,.int .i64 x.want,.int .i64 x.page.place,.int .i64 x.page.length,.string ⟨(Pl.dz x.page.sum).toArray⟩] 210)).cell? ⟨lb,lo+k*5+4,none⟩=some (.string ⟨(Pl.dz x.page.sum).toArray⟩):=⟨xa.cell hS0.1 id,xa.cell hS0.2.1 id,xa.cell hS0.2.2.1 id,xa.cell hS0.2.2.2.1 id,xa.cell hS0.2.2.2.2.1 id,xa.cell hS0.2.2.2.2.2.1 id,xa.cell hS0.2.2.2.2.2.2 id⟩
    refine Late.o 17 rfl (fun K hK=>?_);go_simp;refine hK _ _ (fun _=>hS1) ?_;clear hK K;try simp only[lX]
    have acG:=(Y8.ext xd).ext xa;have hpw:pg<wP.heap.size:=by have:=k10.size;have:=qj.pieces.lt (g:=pg) rfl;omega
    refine Late.o 18 rfl (fun K hK=>?_);refine d_ rfl _ _ 119 119 rfl 210 MI 5 48 Tryz.underlying119 Jz rfl _ _ _ (by rfl) acG _ (by rfl) 1 _ (dO _ _ rfl _ _ Tryz.underlying119 _ [.int .i64 x.group,.int .i64 x.want,.int .i64 x.page.place,.int .i64 x.page.length,.string ⟨(Pl.dz x.page.sum).toArray⟩] rfl (by intro u hu;simp at hu;rcases hu with rfl|rfl|rfl|rfl|rfl<;>rfl)) (by have:=yx.out;omega) (by have:=yx.out;omega) ?_;intro v8 W8 o8 k8 s8;obtain⟨wQ,wR,rfl,-⟩:=o8.shape;have nY:¬Of (.slice xa1 q.parts.length mU) Y:=fun e=>by have:=(hxc Y e).1;rw[hR.gP]at this;cases this
    have nl:¬Of (.slice xa1 q.parts.length mU) lb:=fun e=>by have:=(hxc lb e).1;rw[XJ]at this;cases this
    have ng:¬Of (.slice xa1 q.parts.length mU) pg:=fun e=>hxg pg e rfl
    have nI:W8.cell? ⟨Y,7,none⟩=some (.slice (some ⟨pg,0,none⟩) L.length pc)∧W8.cell? ⟨pg,ix*9+8,none⟩=some (.slice xa1 q.parts.length mU)∧W8.cell? ⟨lb,lo+k*5,none⟩=some (.int .i64 x.group)∧W8.cell? ⟨lb,lo+k*5+1,none⟩=some (.int .i64 x.want)∧W8.cell? ⟨lb,lo+k*5+2,none⟩=some (.int .i64 x.page.place)∧W8.cell? ⟨lb,lo+k*5+3,none⟩=some (.int .i64 x.page.length)∧W8.cell? ⟨lb,lo+k*5+4,none⟩=some (.string ⟨(Pl.dz x.page.sum).toArray⟩):=⟨k8.cell hS1.1 nY,k8.cell hS1.2.1 ng,k8.cell hS1.2.2.1 nl,k8.cell hS1.2.2.2.1 nl,k8.cell hS1.2.2.2.2.1 nl,k8.cell hS1.2.2.2.2.2.1 nl,k8.cell hS1.2.2.2.2.2.2 nl⟩
    have ML:W8.frozen? ⟨pg,ix*9+8,none⟩=false:=by
     have e1:=k8.block pg (aY hpw (xd.trans xa).size) ng;have e2:=xa.block pg (aY hpw xd.size) id;rw[World.frozen?_of_block (w:=Wd) (a:=⟨pg,ix*9+8,none⟩) (e1.trans e2)];exact q8h
    have g8:=nI.2.1;refine hK _ _ (fun _=>nI) ?_;clear hK K;try simp only[lX]
    refine Late.o 19 rfl (fun K hK=>?_);go_simp;refine hK _ _ (fun _=>nI) ?_;clear hK K;try simp only[lX]
    refine Late.o 20 rfl (fun K hK=>?_);go_simp;refine hK _ _ (fun _=>nI) ?_;clear hK K;try simp only[lX]
    refine Late.o 21 rfl (fun K hK=>?_);go_simp;refine hK _ _ (fun h=>absurd rfl h) ?_;clear hK K;try simp only[lX]
    refine Late.done (by kernel_rfl) ?_ _;have kE:Kp (fun b=>(Value.slice xa1 q.parts.length mU).ownBlock=some b) wP W8:=(Kp.cZ (xd.trans xa)).trans k8;have sE:Sep wP (.slice xa1 q.parts.length mU) (.slice wQ (q.parts.length+1) wR):=s8.imp id (fun⟨g,a,b⟩=>⟨g,a,aO (xd.trans xa).size b⟩);have hM:=nJ.XI (long:=lg) (y:=x) (w3:=W8) (v':=.slice wQ (q.parts.length+1) wR) qj ze hxv (aO hn0 (hW.trans (cu.ext xq)).kept.size) (by rw[←acF.out];exact kE) (by rw[←acF.out];exact sE) o8;have HM:=hide (And.intro hM.1 ((hW.trans (cu.ext xq)).trans hM.2));have MN:Hid (Pl.iX r.gap J x=J'++[{q with length:=lg,parts:=q.parts++[x]}]):=by
     show _=_;rw[wN];unfold Pl.iX;rw[List.getLast?_append,List.getLast?_singleton,Option.some_or];simp only;rw[HLG.out,if_pos ⟨hc1,hc2⟩,List.dropLast_concat]
    have HLN:Hid (L.modify ix (fun p=>{p with length:=lg,parts:=p.parts++[x]})=r.pieces++Pl.iX r.gap J x):=by
     show _=_;rw[Jf ze,MN.out,HL.out,wN,HIX.out,←aW,List.set_append_right _ _ aj];simp
    clear hM hS0 hS1 nI g8 ML o8 k8 s8 kE sE acG Y8 hxo c7r q8r d0r d1r d2r d3r d4r c7 d0 d1 d2 d3 d4
    go_wp2_with fail
    go_roundw
    case rel=>exact⟨k+1,Pl.iX r.gap J x,_,_,_,_,by go_num,af,HJN,HLN,HM.out.1,HM.out.2,by show _≤_;rw[MN.out];have:=HJL.out;rw[wN]at this;simp at this⊢;omega,fun p hp=>by
     rw[MN.out]at hp;rcases aI.1 hp with hp|hp
     ·have:=Uz.out p (by rw[wN];simp[hp]);omega
     ·obtain rfl:=aZ.1 hp;show q.place≤_∧lg≤_∧(q.parts++[x]).length≤_;rw[aD];have:=yx.out;simp;omega⟩
    case measure=>simp[intOf];omega
   ·have MN:Hid (Pl.iX r.gap J x=J++[Pl.zW x]):=by
     show _=_;rcases D9 with rfl|⟨J',q,rfl,hc⟩|⟨J',q,rfl,-,hc⟩
     ·rfl
     ·unfold Pl.iX;rw[List.getLast?_append,List.getLast?_singleton,Option.some_or];simp only;rw[if_neg (fun e=>hc e.1)]
     ·unfold Pl.iX;rw[List.getLast?_append,List.getLast?_singleton,Option.some_or];simp only;rw[if_neg (fun e=>hc e.2)]
    refine Or.elim D9 ?c1 (fun D9=>Or.elim D9 ?c2 ?c3)
    case' c1=>
     intro hJ0;have hLn:L.length=r.pieces.length:=by rw[HL.out,hJ0];simp
     have g0:¬(r.pieces.length:Int)≤(L.length:Int)-1:=af;clear hLn hJ0
     go_wp2_with fail
     go_quiet (fail)
     go_upto_region 12 with fail
     generalize BZ:World.drewN _ _=Wq;have xq:Ext wr Wq:=by rw[←BZ];exact ax.drewN _
     clear BZ g0
    case' c2=>
     intro D9;obtain⟨J',q,wN,hc1⟩:=D9;obtain⟨ix,su⟩:∃ix,ix=r.pieces.length+J'.length:=⟨_,rfl⟩
     have D_:L.length=ix+1:=by rw[HL.out,wN,su];simp;omega
     have ze:L[ix]?=some q:=by rw[HL.out,wN,su,←aW,aP aj];simp
     have AP:=Uz.out q (by rw[wN];simp);have yx:Hid (q.parts.length≤k):=AP.2.2;obtain⟨pg,acB,hpe,-,Y7,-⟩:=hR.pieces.at (by show 0<L.length;omega);cases hpe;obtain⟨xv,hxv,hce⟩:=hR.piece ix (by show ix<L.length;omega);have wO:({r with pieces:=L}:Pl.cO).pieces[ix]'(by show ix<L.length;omega)=q:=by
      have:=aL.1 ze;exact this.2
     rw[wO]at hce;have e0:=(hce 0 af).1;have e1:=(hce 1 af).1;have e2:=(hce 2 af).1;have e3:=(hce 3 af).1;have e4:=(hce 4 af).1;have e5:=(hce 5 af).1;have e6:=(hce 6 af).1;have e7:=(hce 7 af).1;have e8:=(hce 8 af).1;simp only[dx,I,tx,au,Nat.add_zero]at e0 e1 e2 e3 e4 e5 e6 e7 e8;obtain⟨xa1,mU,rfl⟩:∃xa1 mU,xv=.slice xa1 q.parts.length mU:=by
      obtain⟨a1,a2,a3,-⟩:=(hR.parts ix xv q hxv ze).1.shape;exact⟨a1,a2,a3⟩
     have hw2:IntKind.i64.wrap ((L.length:Int)-1)=(ix:Int):=by rw[hw1];omega
     have g0:(r.pieces.length:Int)≤(ix:Int):=af;have g1:(0:Int)≤(ix:Int):=af;have g2:(ix:Int)<(L.length:Int):=af;have Gh:=hide D_;have HIX:=hide su;clear hw1 D_ su hce wO;have Ls:∀u:World,(Builtin.max_ #[3,3] 3 #[.int .i64 ((x.page.place:Int)+(x.page.length:Int)-(q.place:Int)),.int .i64 (q.length:Int)]).run Tryz.prog u=.ok (.int .i64 ((Pl.jC q x:Nat):Int)) u:=fun u=>by
      have e:(if(q.length:Int)>(x.page.place:Int)+(x.page.length:Int)-(q.place:Int)then(q.length:Int)else(x.page.place:Int)+(x.page.length:Int)-(q.place:Int))=((Pl.jC q x:Nat):Int):=by unfold Pl.jC;split<;>omega
      rw[←e];rfl
     have acD:Pl.jC q x≤300000:=by unfold Pl.jC;omega
     generalize BX:Pl.jC q x=lg at*;have HLG:=hide BX;clear BX;have g3:decide ((x.page.place:Int)≤(q.place:Int)+(q.length:Int)+(r.gap:Int))=false:=aG af
     go_wp2_with fail
     go_quiet (fail);generalize hWf:World.drewN _ _=Wf;have xf:Ext wr Wf:=by rw[←hWf];exact ax.drewN _
     clear hWf;have uP:=xf.cell d2 id;have UA:=xf.cell d3 id;have yw:=xf.cell c5 id;have JA:=xf.cell c7 id;replace e0:=xf.cell e0 id;replace e1:=xf.cell e1 id;replace e2:=xf.cell e2 id;replace e3:=xf.cell e3 id;replace e4:=xf.cell e4 id;replace e5:=xf.cell e5 id;replace e6:=xf.cell e6 id;replace e7:=xf.cell e7 id;replace e8:=xf.cell e8 id;have bP:=bK.bO Wf [.int .i64 q.kind,.int .i64 q.place,.int .i64 q.length,.string ⟨q.got.toArray⟩,.int .i64 q.failed,.int .i64 q.id,.int .i64 q.due,.int .i64 q.turn,.slice xa1 q.parts.length mU] 121;have xp:Ext Wf (Wf.alloc (.cells #[.int .i64 q.kind,.int .i64 q.place,.int .i64 q.length,.string ⟨q.got.toArray⟩,.int .i64 q.failed,.int .i64 q.id,.int .i64 q.due,.int .i64 q.turn,.slice xa1 q.parts.length mU] 121)):=ax.alloc _
     go_upto_region 9 with fail
     generalize Wf.alloc (.cells #[.int .i64 q.kind,.int .i64 q.place,.int .i64 q.length,.string ⟨q.got.toArray⟩,.int .i64 q.failed,.int .i64 q.id,.int .i64 q.due,.int .i64 q.turn,.slice xa1 q.parts.length mU] 121)=Wp at*;clear e0 e1 e2 e3 e4 e5 e6 e7 e8 JA UA;have p1:=bP.cell 1;have p2:=bP.cell 2;simp only[au]at p1 p2;replace uP:=xp.cell uP id;replace yw:=xp.cell yw id;go_quiet (fail)
     go_upto_region 12 with fail
     generalize BZ:World.drewN _ _=Wq;have xq:Ext wr Wq:=by rw[←BZ];exact(xf.trans xp).drewN _
     clear BZ uP yw p1 p2 bP xp xf;obtain⟨pa,hpa⟩:∃pa,pa=some (⟨pg,0,none⟩:Addr):=⟨_,rfl⟩
     rw[←hpa]at hR c7;clear hpa
    case' c3=>
     intro D9;obtain⟨J',q,wN,hc1,hc2⟩:=D9;obtain⟨ix,su⟩:∃ix,ix=r.pieces.length+J'.length:=⟨_,rfl⟩
     have D_:L.length=ix+1:=by rw[HL.out,wN,su];simp;omega
     have ze:L[ix]?=some q:=by rw[HL.out,wN,su,←aW,aP aj];simp
     have AP:=Uz.out q (by rw[wN];simp);have yx:Hid (q.parts.length≤k):=AP.2.2;obtain⟨pg,acB,hpe,-,Y7,-⟩:=hR.pieces.at (by show 0<L.length;omega);cases hpe;obtain⟨xv,hxv,hce⟩:=hR.piece ix (by show ix<L.length;omega);have wO:({r with pieces:=L}:Pl.cO).pieces[ix]'(by show ix<L.length;omega)=q:=by
      have:=aL.1 ze;exact this.2
     rw[wO]at hce;have e0:=(hce 0 af).1;have e1:=(hce 1 af).1;have e2:=(hce 2 af).1;have e3:=(hce 3 af).1;have e4:=(hce 4 af).1;have e5:=(hce 5 af).1;have e6:=(hce 6 af).1;have e7:=(hce 7 af).1;have e8:=(hce 8 af).1;simp only[dx,I,tx,au,Nat.add_zero]at e0 e1 e2 e3 e4 e5 e6 e7 e8;obtain⟨xa1,mU,rfl⟩:∃xa1 mU,xv=.slice xa1 q.parts.length mU:=by
      obtain⟨a1,a2,a3,-⟩:=(hR.parts ix xv q hxv ze).1.shape;exact⟨a1,a2,a3⟩
     have hw2:IntKind.i64.wrap ((L.length:Int)-1)=(ix:Int):=by rw[hw1];omega
     have g0:(r.pieces.length:Int)≤(ix:Int):=af;have g1:(0:Int)≤(ix:Int):=af;have g2:(ix:Int)<(L.length:Int):=af;have Gh:=hide D_;have HIX:=hide su;clear hw1 D_ su hce wO;have Ls:∀u:World,(Builtin.max_ #[3,3] 3 #[.int .i64 ((x.page.place:Int)+(x.page.length:Int)-(q.place:Int)),.int .i64 (q.length:Int)]).run Tryz.prog u=.ok (.int .i64 ((Pl.jC q x:Nat):Int)) u:=fun u=>by
      have e:(if(q.length:Int)>(x.page.place:Int)+(x.page.length:Int)-(q.place:Int)then(q.length:Int)else(x.page.place:Int)+(x.page.length:Int)-(q.place:Int))=((Pl.jC q x:Nat):Int):=by unfold Pl.jC;split<;>omega
      rw[←e];rfl
     have acD:Pl.jC q x≤300000:=by unfold Pl.jC;omega
     generalize BX:Pl.jC q x=lg at*;have HLG:=hide BX;clear BX;have g3:(x.page.place:Int)≤(q.place:Int)+(q.length:Int)+(r.gap:Int):=af;have g4:¬(lg:Int)≤64:=af
     go_wp2_with fail
     go_quiet (fail);generalize hWf:World.drewN _ _=Wf;have xf:Ext wr Wf:=by rw[←hWf];exact ax.drewN _
     clear hWf;have uP:=xf.cell d2 id;have UA:=xf.cell d3 id;have yw:=xf.cell c5 id;have JA:=xf.cell c7 id;replace e0:=xf.cell e0 id;replace e1:=xf.cell e1 id;replace e2:=xf.cell e2 id;replace e3:=xf.cell e3 id;replace e4:=xf.cell e4 id;replace e5:=xf.cell e5 id;replace e6:=xf.cell e6 id;replace e7:=xf.cell e7 id;replace e8:=xf.cell e8 id;have bP:=bK.bO Wf [.int .i64 q.kind,.int .i64 q.place,.int .i64 q.length,.string ⟨q.got.toArray⟩,.int .i64 q.failed,.int .i64 q.id,.int .i64 q.due,.int .i64 q.turn,.slice xa1 q.parts.length mU] 121;have xp:Ext Wf (Wf.alloc (.cells #[.int .i64 q.kind,.int .i64 q.place,.int .i64 q.length,.string ⟨q.got.toArray⟩,.int .i64 q.failed,.int .i64 q.id,.int .i64 q.due,.int .i64 q.turn,.slice xa1 q.parts.length mU] 121)):=ax.alloc _
     go_upto_region 9 with fail
     generalize Wf.alloc (.cells #[.int .i64 q.kind,.int .i64 q.place,.int .i64 q.length,.string ⟨q.got.toArray⟩,.int .i64 q.failed,.int .i64 q.id,.int .i64 q.due,.int .i64 q.turn,.slice xa1 q.parts.length mU] 121)=Wp at*;clear e0 e1 e2 e3 e4 e5 e6 e7 e8 JA UA;have p1:=bP.cell 1;have p2:=bP.cell 2;simp only[au]at p1 p2;replace uP:=xp.cell uP id;replace yw:=xp.cell yw id;go_quiet (fail)
     go_upto_region 12 with fail
     generalize BZ:World.drewN _ _=Wq;have xq:Ext wr Wq:=by rw[←BZ];exact(xf.trans xp).drewN _
     clear BZ uP yw p1 p2 bP xp xf;obtain⟨pa,hpa⟩:∃pa,pa=some (⟨pg,0,none⟩:Addr):=⟨_,rfl⟩
     rw[←hpa]at hR c7;clear hpa
    all_goals(
     have qj:=hR.ext xq;replace d0:=xq.cell d0 id;replace d1:=xq.cell d1 id;replace d2:=xq.cell d2 id;replace d3:=xq.cell d3 id;replace d4:=xq.cell d4 id;replace c7:=xq.cell c7 id;have hf7:=qj.blk.free 7;have hS0:Wq.drew.cell? ⟨Y,7,none⟩=some (.slice pa L.length pc)∧Wq.drew.cell? ⟨lb,lo+k*5,none⟩=some (.int .i64 x.group)∧Wq.drew.cell? ⟨lb,lo+k*5+1,none⟩=some (.int .i64 x.want)∧Wq.drew.cell? ⟨lb,lo+k*5+2,none⟩=some (.int .i64 x.page.place)∧Wq.drew.cell? ⟨lb,lo+k*5+3,none⟩=some (.int .i64 x.page.length)∧Wq.drew.cell? ⟨lb,lo+k*5+4,none⟩=some (.string ⟨(Pl.dz x.page.sum).toArray⟩):=⟨c7,d0,d1,d2,d3,d4⟩
     refine bZ (n:=27) (fun u=>u.cell? ⟨Y,7,none⟩=some (.slice pa L.length pc)∧u.cell? ⟨lb,lo+k*5,none⟩=some (.int .i64 x.group)∧u.cell? ⟨lb,lo+k*5+1,none⟩=some (.int .i64 x.want)∧u.cell? ⟨lb,lo+k*5+2,none⟩=some (.int .i64 x.page.place)∧u.cell? ⟨lb,lo+k*5+3,none⟩=some (.int .i64 x.page.length)∧u.cell? ⟨lb,lo+k*5+4,none⟩=some (.string ⟨(Pl.dz x.page.sum).toArray⟩)) (by kernel_rfl) ?_;generalize hWd:Wq.drew=Wd at hS0⊢;have xd:Ext Wq Wd:=by rw[←hWd];exact ax.drew
     clear hWd;refine Late.t 0 [27] rfl hS0 ?_;refine Late.t 1 [27] rfl hS0 ?_;refine Late.t 2 [27] rfl hS0 ?_;refine Late.t 3 [27] rfl hS0 ?_;refine Late.t 4 [27] rfl hS0 ?_;refine Late.t 5 [27] rfl hS0 ?_;refine Late.t 6 [27] rfl hS0 ?_;refine Late.t 7 [27] rfl hS0 ?_;refine Late.t 8 [27] rfl hS0 ?_;refine Late.t 9 [27] rfl hS0 ?_;refine Late.t 10 [27] rfl hS0 ?_;refine Late.t 11 [27] rfl hS0 ?_;refine Late.t 12 [27] rfl hS0 ?_;refine Late.t 13 [27] rfl hS0 ?_;refine Late.t 14 [27] rfl hS0 ?_;refine Late.t 15 [27] rfl hS0 ?_;refine Late.t 16 [27] rfl hS0 ?_;refine Late.t 17 [27] rfl hS0 ?_;refine Late.t 18 [27] rfl hS0 ?_;refine Late.t 19 [27] rfl hS0 ?_;refine Late.t 20 [27] rfl hS0 ?_;have xa:Ext Wd (Wd.alloc (.cells #[.int .i64 x.group,.int .i64 x.want,.int .i64 x.page.place,.int .i64 x.page.length,.string ⟨(Pl.dz x.page.sum).toArray⟩] 210)):=ax.alloc _;have hS1:(Wd.alloc (.cells #[.int .i64 x.group,.int .i64 x.want,.int .i64 x.page.place,.int .i64 x.page.length,.string ⟨(Pl.dz x.page.sum).toArray⟩] 210)).cell? ⟨Y,7,none⟩=some (.slice pa L.length pc)∧(Wd.alloc (.cells #[.int .i64 x.group,.int .i64 x.want,.int .i64 x.page.place,.int .i64 x.page.length,.string ⟨(Pl.dz x.page.sum).toArray⟩] 210)).cell? ⟨lb,lo+k*5,none⟩=some (.int .i64 x.group)∧(Wd.alloc (.cells #[.int .i64 x.group,.int .i64 x.want,.int .i64 x.page.place,.int .i64 x.page.length,.string ⟨(Pl.dz x.page.sum).toArray⟩] 210)).cell? ⟨lb,lo+k*5+1,none⟩=some (.int .i64 x.want)∧(Wd.alloc (.cells #[.int .i64 x.group,.int .i64 x.want,.int .i64 x.page.place,.int .i64 x.page.length,.string ⟨(Pl.dz x.page.sum).toArray⟩] 210)).cell? ⟨lb,lo+k*5+2,none⟩=some (.int .i64 x.page.place)∧(Wd.alloc (.cells #[.int .i64 x.group,.int .i64 x.want,.int .i64 x.page.place,.int .i64 x.page.length,.string ⟨(Pl.dz x.page.sum).toArray⟩] 210)).cell? ⟨lb,lo+k*5+3,none⟩=some (.int .i64 x.page.length)∧(Wd.alloc (.cells #[.int .i64 x.group,.int .i64 x.want,.int .i64 x.page.place,.int .i64 x.page.length,.string ⟨(Pl.dz x.page.sum).toArray⟩] 210)).cell? ⟨lb,lo+k*5+4,none⟩=some (.string ⟨(Pl.dz x.page.sum).toArray⟩):=⟨xa.cell hS0.1 id,xa.cell hS0.2.1 id,xa.cell hS0.2.2.1 id,xa.cell hS0.2.2.2.1 id,xa.cell hS0.2.2.2.2.1 id,xa.cell hS0.2.2.2.2.2 id⟩
     have bA:=bK.bO Wd [.int .i64 x.group,.int .i64 x.want,.int .i64 x.page.place,.int .i64 x.page.length,.string ⟨(Pl.dz x.page.sum).toArray⟩] 210;refine Late.o 21 rfl (fun K hK=>?_);go_simp;refine hK _ _ (fun _=>hS1) ?_;clear hK K;try simp only[lX]
     generalize hWa:Wd.alloc (.cells #[.int .i64 x.group,.int .i64 x.want,.int .i64 x.page.place,.int .i64 x.page.length,.string ⟨(Pl.dz x.page.sum).toArray⟩] 210)=Wa at*;clear hWa;refine Late.o 22 rfl (fun K hK=>?_);go_simp;refine hK _ _ (fun _=>hS1) ?_;clear hK K;try simp only[lX]
     have xb:Ext Wa (Wa.alloc (.cells #[.int .i64 2,.int .i64 x.page.place,.int .i64 x.page.length,.string ⟨#[]⟩,.int .i64 0,.int .i64 0,.int .i64 0,.int .i64 0,.slice (some ⟨Wd.heap.size,0,none⟩) 1 1] 121)):=ax.alloc _;refine Late.o 23 rfl (fun K hK=>?_);go_simp;refine hK _ _ (fun _=>⟨xb.cell hS1.1 id,xb.cell hS1.2.1 id,xb.cell hS1.2.2.1 id,xb.cell hS1.2.2.2.1 id,xb.cell hS1.2.2.2.2.1 id,xb.cell hS1.2.2.2.2.2 id⟩) ?_;clear hK K;try simp only[lX]
     have xE:Ext wr (Wa.alloc (.cells #[.int .i64 2,.int .i64 x.page.place,.int .i64 x.page.length,.string ⟨#[]⟩,.int .i64 0,.int .i64 0,.int .i64 0,.int .i64 0,.slice (some ⟨Wd.heap.size,0,none⟩) 1 1] 121)):=((xq.trans xd).trans xa).trans xb;have zx:=hR.ext xE;refine Late.o 24 rfl (fun K hK=>?_);refine d_ rfl _ _ 116 116 rfl 121 P6 9 96 Tryz.underlying116 RD rfl _ _ _ (by rfl) zx.pieces _ (by rfl) 1 _ (dO _ _ rfl _ _ Tryz.underlying116 _ [.int .i64 2,.int .i64 x.page.place,.int .i64 x.page.length,.string ⟨#[]⟩,.int .i64 0,.int .i64 0,.int .i64 0,.int .i64 0,.slice (some ⟨Wd.heap.size,0,none⟩) 1 1] rfl (by intro u hu;simp at hu;rcases hu with rfl|rfl|rfl|rfl|rfl|rfl<;>rfl)) (by show(L.length+1)*96≤_;omega) (by show L.length+1≤_;omega) ?_;intro v8 W8 o8 k8 s8;obtain⟨wQ,wR,rfl,-⟩:=o8.shape;have kY:¬Of (.slice pa L.length pc) Y:=fun e=>by have:=hR.cB Y e;rw[hR.gP]at this;cases this
     have kl:¬Of (.slice pa L.length pc) lb:=fun e=>by have:=hR.cB lb e;rw[XJ]at this;cases this
     have bF:=zx.blk.kept k8 kY;have g8:=bF.cell 7;have ML:=bF.free 7;simp only[dm,I,au]at g8;refine hK _ _ (fun _=>⟨g8,k8.cell (xb.cell hS1.2.1 id) kl,k8.cell (xb.cell hS1.2.2.1 id) kl,k8.cell (xb.cell hS1.2.2.2.1 id) kl,k8.cell (xb.cell hS1.2.2.2.2.1 id) kl,k8.cell (xb.cell hS1.2.2.2.2.2 id) kl⟩) ?_;clear hK K;try simp only[lX]
     have nI:=(⟨g8,k8.cell (xb.cell hS1.2.1 id) kl,k8.cell (xb.cell hS1.2.2.1 id) kl,k8.cell (xb.cell hS1.2.2.2.1 id) kl,k8.cell (xb.cell hS1.2.2.2.2.1 id) kl,k8.cell (xb.cell hS1.2.2.2.2.2 id) kl⟩:_∧_∧_∧_∧_∧_)
     refine Late.o 25 rfl (fun K hK=>?_);go_simp;refine hK _ _ (fun _=>nI) ?_;clear hK K;try simp only[lX]
     refine Late.o 26 rfl (fun K hK=>?_);go_simp;refine hK _ _ (fun _=>nI) ?_;clear hK K;try simp only[lX]
     refine Late.o 27 rfl (fun K hK=>?_);go_simp;refine hK _ _ (fun h=>absurd rfl h) ?_;clear hK K;try simp only[lX]
     refine Late.done (by kernel_rfl) ?_ _;have UB:Own (Wa.alloc (.cells #[.int .i64 2,.int .i64 x.page.place,.int .i64 x.page.length,.string ⟨#[]⟩,.int .i64 0,.int .i64 0,.int .i64 0,.int .i64 0,.slice (some ⟨Wd.heap.size,0,none⟩) 1 1] 121)) 5 (.slice (some ⟨Wd.heap.size,0,none⟩) 1 1) (Pl.zW x).parts.length ((Pl.zW x).parts.flatMap dA):=(bA.kept xb id).L_;have hM:=hR.Uw (q:=Pl.zW x) xE UB (fun g hg=>by simp[Value.ownBlock]at hg;have:=(xq.trans xd).size;omega) (aO hn0 hW.kept.size) k8 s8 o8;have HM:=hide (And.intro hM.1 (hW.trans hM.2));have HLN:Hid (L++[Pl.zW x]=r.pieces++Pl.iX r.gap J x):=by
      show _=_;rw[MN.out,HL.out,aW]
     clear hM UB nI g8 ML bF hS0 hS1 c7 d0 d1 d2 d3 d4 hf7 qj zx o8 k8 s8
     go_wp2_with fail
     go_roundw
     case rel=>exact⟨k+1,Pl.iX r.gap J x,L++[Pl.zW x],_,_,_,by go_num,af,HJN,HLN,HM.out.1,HM.out.2,by show _≤_;rw[MN.out];have:=HJL.out;simp;omega,fun p hp=>by
      rw[MN.out]at hp;rcases aI.1 hp with hp|hp
      ·have:=Uz.out p hp;omega
      ·obtain rfl:=aZ.1 hp;show x.page.place≤_∧x.page.length≤_∧1≤_;omega⟩
     case measure=>simp[intOf];omega)
  ·obtain rfl:k=l.length:=af;have k1:¬(l.length:Int)<(l.length:Int):=af;have HE:Hid (L=r.pieces++Pl.wu r.gap l):=by
    show _=_;rw[HL.out,HJ.out,aX];rfl
   go_wp2_with fail
   go_end0
   refine⟨rfl,iZ,⟨RG,pv1,?_⟩,hW⟩;rw[←HE.out];exact hR
inductive ny (col:bU)(w w':World)(e:Ending)(Y:Nat)(r:Pl.cO)(nv:Value):Prop
 |mk (bV:bU) (wM:List Value) (pv' rv' tv':Value) (he:e=.returned (.tuple #[])) (hr:dK bV w' Y r wM nv pv' rv' tv') (hw:cu col w w' bV) (ht:r.there=[]→tv'=.slice none 0 0):ny col w w' e Y r nv
theorem UC {n:Nat}{col bV:bU}{w w':World}(h:cu col w w' bV)(hn:w.heap.size≤n):cu col w w' (BV n bV):=⟨h.kept,fun k hk=>by unfold BV;rw[if_neg af];exact h.same k hk⟩
theorem acL :(Tryz.prog.info? 46).map (fun i=>(i.zero,i.size,i.bytes))=some (some (.slice none 0 0),1,24):=by kernel_rfl
theorem aau :(Tryz.prog.info? 51).map (fun i=>(i.zero,i.size,i.bytes))=some (some (.slice none 0 0),1,24):=by kernel_rfl
theorem MQ (col:bU)(w:World)(Y:Nat)(r:Pl.cO)(bJ:List Value)(nv pv rv jK j_ jZ:Value)(names:List (List UInt8))(rows:List Nat)(pages:List (List Pl.ku))(wS:List Value)
 (h:dK col w Y r bJ nv pv rv (.slice none 0 0))(ht:r.there=[])(hn:bM (fun b=>col b=.out) false w 1 jK names.length (names.map tx))(hr:bM (fun b=>col b=.ro) false w 1 j_ rows.length (rows.map fun(n:Nat)=>I n))
 (hp:bM (fun b=>col b=.out) false w 1 jZ pages.length wS)(hpl:wS.length=pages.length)(hps:∀(i:Nat)v l,wS[i]?=some v→pages[i]?=some l→bM (fun b=>col b=.out) false w 3 v l.length (l.flatMap wL))
 (hnl:names.length≤1000)(hwl:r.want.length≤1000000000)(hpn:pages.length≤100)(hpb:∀l∈pages,names.length≤l.length∧∀x∈l,x.place≤100000∧x.length≤100000)(hc:∀bD,Pl.kJ r.want names=some bD→bD.length≤4∧∀c∈bD,c<names.length)(BK:r.gap≤1000):
 Calls Tryz.prog 110 #[PtrTo Y 0,.agg #[jK,j_,jZ]] w fun e w'=>ny col w w' e Y (Pl.nU r names rows pages) nv:=by
 obtain⟨na,nc,rfl,hnc,-⟩:=hn.get;obtain⟨ra,rc,rfl,hrc,-⟩:=hr.get;obtain⟨ga,gc,rfl,hgc,-⟩:=hp.get;obtain⟨wa,wc,rfl,hwc,-⟩:=h.inn.names.get;have x0:Ext w (w.alloc (.cells #[.slice na names.length nc,.slice ra rows.length rc,.slice ga pages.length gc] 179)):=ax.alloc _;have b0:=bK.bO w [.slice na names.length nc,.slice ra rows.length rc,.slice ga pages.length gc] 179;have Y9:col w.heap.size=.out:=h.inn.top _ (aK _);go_enter Tryz.func110,Tryz.ntmps110
 go_upto_region 1 with fail
 generalize w.alloc (.cells #[.slice na names.length nc,.slice ra rows.length rc,.slice ga pages.length gc] 179)=W0 at*;have h0:=h.ext x0;have c1:=h0.blk.cell 1;have f0:=b0.cell 0;simp only[dm,I,au]at c1 f0;have hS0:W0.drew.cell? ⟨Y,1,none⟩=some (.slice wa r.want.length wc)∧W0.drew.cell? ⟨w.heap.size,0,none⟩=some (.slice na names.length nc):=⟨c1,f0⟩
 have hn0:=hn.go (C':=fun b=>col b=.out) x0 (fun _ _ f=>f) (fun _ _ e=>e);refine bZ (n:=11) (fun u=>u.cell? ⟨Y,1,none⟩=some (.slice wa r.want.length wc)∧u.cell? ⟨w.heap.size,0,none⟩=some (.slice na names.length nc)) (by kernel_rfl) ?_;generalize hWd:W0.drew=Wd at hS0⊢;have xd:Ext W0 Wd:=by rw[←hWd];exact ax.drew
 clear hWd;refine Late.t 0 [11] rfl hS0 ?_;refine Late.t 1 [11] rfl hS0 ?_;refine Late.t 2 [11] rfl hS0 ?_;refine Late.t 3 [11] rfl hS0 ?_;refine Late.t 4 [11] rfl hS0 ?_;refine Late.t 5 [11] rfl hS0 ?_;have HC:=hide (MO (fun b=>col b=.ro) (fun b=>col b=.out) Wd _ _ r.want names ((h0.ext xd).inn.names) (hn0.go xd (fun _ _ f=>f) (fun _ _ e=>e)) hwl hnl);refine Late.o 6 rfl (fun K hK=>?_);refine fe rfl 133 #[.slice wa r.want.length wc,.slice na names.length nc] (by go_simp) ?_;refine(bH HC).mono ?_;rintro e W1 ⟨hca,x1⟩;have IZ:Ext w W1:=(x0.trans xd).trans x1;have hS1:W1.cell? ⟨Y,1,none⟩=some (.slice wa r.want.length wc)∧W1.cell? ⟨w.heap.size,0,none⟩=some (.slice na names.length nc):=⟨x1.cell hS0.1 id,x1.cell hS0.2 id⟩
 have h1:=h.ext IZ;have b1:=(b0.kept xd id).kept x1 id;cases hcd:Pl.kJ r.want names with
 |none=>
  rw[hcd]at hca;obtain⟨cv,rfl⟩:=hca;refine⟨_,rfl,hK _ _ (fun _=>hS1) ?_⟩;clear hK K;try simp only[lX]
  refine Late.t 7 [11] rfl hS1 ?_;refine Late.t 8 [11] rfl hS1 ?_;refine Late.t 9 [11] rfl hS1 ?_;refine Late.t 10 [11] rfl hS1 ?_;refine Late.o 11 rfl (fun K hK=>?_);go_simp;refine hK _ _ (fun h=>absurd rfl h) ?_;clear hK K;try simp only[lX]
  refine Late.done (by kernel_rfl) ?_ _;have c6:=h1.blk.cell 6;have f6:=h1.blk.free 6;simp only[dm,I,au]at c6;have h7:=h1.p8 6 (.int .i64 3) (r':={r with state:=3}) (by simp[dm,I]) ⟨h1.inn.gP,h1.inn.top,h1.inn.names,h1.inn.iA,h1.inn.pieces,h1.inn.cB,h1.inn.parts,h1.inn.rows,h1.inn.there⟩;have k7:=h1.p9 6 (.int .i64 3);have HH:=hide (And.intro h7 ((cu.ext IZ).trans ⟨k7,fun _ _=>rfl⟩));have HE:Hid (Pl.nU r names rows pages={r with state:=3}):=by show _=_;unfold Pl.nU;rw[hcd]
  clear h7 k7
  go_wp2_with fail
  refine bodyPost_ret (results_none rfl _ _ _) rfl ?_;rw[HE.out];exact ny.mk col bJ _ _ _ rfl HH.out.1 HH.out.2 (fun _=>rfl)
 |some bD=>
  rw[hcd]at hca;obtain⟨cv,rfl,hcO,hcN⟩:=hca;obtain⟨ca,cc,rfl,hcc⟩:=hcO.shape;obtain⟨hcl,hcm⟩:=hc bD hcd;refine⟨_,rfl,hK _ _ (fun _=>hS1) ?_⟩;clear hK K;try simp only[lX]
  refine Late.t 7 [11] rfl hS1 ?_;refine Late.t 8 [11] rfl hS1 ?_;refine Late.t 9 [11] rfl hS1 ?_;refine Late.t 10 [11] rfl hS1 ?_;refine Late.o 11 rfl (fun K hK=>?_);go_simp;refine hK _ _ (fun h=>absurd rfl h) ?_;clear hK K;try simp only[lX]
  refine Late.done (by kernel_rfl) ?_ _;have c7:=h1.blk.cell 7;have f7:=h1.blk.free 7;have c11:=h1.blk.cell 11;have f11:=h1.blk.free 11;have F1:=b1.cell 1;simp only[dm,I,au]at c7 c11 F1;have hYF:¬w.heap.size=Y:=fun e=>by rw[e,h.inn.gP]at Y9;cases Y9
  have ano:¬Y=w.heap.size:=fun e=>hYF e.symm
  have hr1:bM (fun b=>col b=.ro) false W1 1 (.slice ra rows.length rc) rows.length (rows.map fun(n:Nat)=>I n):=hr.go IZ (fun _ _ f=>f) (fun _ _ e=>e);have k2:Kp (fun b=>b=Y) W1 ((W1.setCell ⟨Y,7,none⟩ (.slice none 0 0)).setCell ⟨Y,11,none⟩ (.slice ra rows.length rc)):=(bI _ _ _ _).trans (bI _ _ _ _);have hB2:bK ((W1.setCell ⟨Y,7,none⟩ (.slice none 0 0)).setCell ⟨Y,11,none⟩ (.slice ra rows.length rc)) Y (dm {r with pieces:=[],rows:=rows} (.slice wa r.want.length wc) (.slice none 0 0) (.slice ra rows.length rc) (.slice none 0 0)) 118:=(h1.blk.set 7 _).set 11 _;have hST:=nJ.start (n:=w.heap.size) h1 ht k2 hB2 hr1;have kM:Kp (Mine col) W1 ((W1.setCell ⟨Y,7,none⟩ (.slice none 0 0)).setCell ⟨Y,11,none⟩ (.slice ra rows.length rc)):=k2.mono (fun i _ e=>by show col i≠.out;rw[e,h.inn.gP];simp);have hb2:=b1.kept k2 hYF;have hcR:bM (fun b=>col b=.out) false ((W1.setCell ⟨Y,7,none⟩ (.slice none 0 0)).setCell ⟨Y,11,none⟩ (.slice ra rows.length rc)) 1 (.slice ca bD.length cc) bD.length (bD.map fun(n:Nat)=>I n):=by
   have hcY:∀g,(Value.slice ca bD.length cc).ownBlock=some g→col g=.out:=fun g hg=>h.inn.top g (by have:=hcN g hg;have:=(x0.trans xd).size;omega)
   exact((hcO.kept k2 (fun g hg e=>by have:=hcY g hg;rw[e,h.inn.gP]at this;cases this)).rowAt (fun b=>col b=.out) hcY).weak
  go_wp2_with fail
  generalize(W1.setCell ⟨Y,7,none⟩ (.slice none 0 0)).setCell ⟨Y,11,none⟩ (.slice ra rows.length rc)=W2 at*;have hW2:cu col w W2 col:=(cu.ext IZ).trans ⟨kM,fun _ _=>rfl⟩;have hp2:=hp.go (C':=fun b=>col b=.out) hW2.kept (fun i hi hs=>hs hi) (fun _ _ e=>e);have MR:∀(i:Nat)v l,wS[i]?=some v→pages[i]?=some l→bM (fun b=>col b=.out) false W2 3 v l.length (l.flatMap wL):=fun i v l a b=>(hps i v l a b).go hW2.kept (fun i hi hs=>hs hi) (fun _ _ e=>e)
  have PU:=hide MR;have UD:=hide hpb;have HCM:=hide hcm;clear hps MR hpb hcm hc hcO hcN hS0 hS1 c1 f0 c7 f7 c11 f11 F1 h1 h0 hr1 hB2 k2 kM hn hn0 hp hr HC;go_loopw [6] (fun i wr=>∃(g:Nat)(bV:bU)(wM ai0:List Value)(pv' tv':Value),i=.int .i64 g∧g≤pages.length∧nJ w.heap.size bV wr Y {r with pieces:=Pl.gL r.gap bD pages g,rows:=rows,there:=List.replicate g (List.replicate bD.length [])} wM ai0 (.slice wa r.want.length wc) pv' (.slice ra rows.length rc) tv'∧cu col W2 wr bV∧Hid (g=0→tv'=.slice none 0 0)) (fun i _=>pages.length-(intOf i).toNat)
  case atStart=>exact⟨0,col,[],[],_,_,rfl,aM _,by rw[ht]at hST;exact hST,cu.refl _ _,fun _=>rfl⟩
  case round=>
   obtain⟨g,iZ,RG,ai1,pv1,tv1,rfl,hg,hR,hW,HT0⟩:=hrel;have bF:=hb2.kept hW.kept (fun e=>e Y9);have F2:=bF.cell 2;simp only[au]at F2;by_cases hgl:g<pages.length
   ·have g1:(g:Int)<(pages.length:Int):=af;have g0:(0:Int)≤(g:Int):=af;have c12:=hR.blk.cell 12;have acN:=hcR.go (C':=fun b=>iZ b=.out) hW.kept (fun i hi hs=>hs hi) (fun i hlt e=>by rw[hW.same i hlt];exact e);obtain⟨ta,tc,rfl,htc⟩:∃ta tc,tv1=.slice ta g tc∧g≤tc:=by
     obtain⟨a1,a2,a3,a4⟩:=hR.D7.shape;simp only[List.length_replicate]at a3 a4;exact⟨a1,a2,a3,a4⟩
    simp only[dm,I,au]at c12
    go_upto_region 9 with fail
    have hS0:wr.drew.cell? ⟨Y,12,none⟩=some (.slice ta g tc):=c12;refine bZ (n:=12) (fun u=>u.cell? ⟨Y,12,none⟩=some (.slice ta g tc)) (by kernel_rfl) ?_;generalize hWd:wr.drew=Wd at hS0⊢;have xd:Ext wr Wd:=by rw[←hWd];exact ax.drew
    clear hWd;refine Late.t 0 [12] rfl hS0 ?_;refine Late.t 1 [12] rfl hS0 ?_;refine Late.t 2 [12] rfl hS0 ?_;refine Late.t 3 [12] rfl hS0 ?_;refine Late.t 4 [12] rfl hS0 ?_;refine Late.t 5 [12] rfl hS0 ?_;refine Late.t 6 [12] rfl hS0 ?_;refine Late.o 7 rfl (fun K hK=>?_);refine OT rfl _ _ 51 rfl 46 (.slice none 0 0) 24 Tryz.underlying51 acL rfl bD.length _ _ (by rfl) (by rfl) rfl rfl af af ?_;intro Wm hBm xm zm;clear zm;have hS1:Wm.cell? ⟨Y,12,none⟩=some (.slice ta g tc):=xm.cell hS0 id;refine hK _ _ (fun _=>hS1) ?_;clear hK K;try simp only[lX]
    have xb:Ext Wm (Wm.alloc (.cells #[.slice (some ⟨Wd.heap.size,0,none⟩) bD.length bD.length] 51)):=ax.alloc _;refine Late.o 8 rfl (fun K hK=>?_);go_simp;refine hK _ _ (fun _=>xb.cell hS1 id) ?_;clear hK K;try simp only[lX]
    have xE:Ext wr (Wm.alloc (.cells #[.slice (some ⟨Wd.heap.size,0,none⟩) bD.length bD.length] 51)):=(xd.trans xm).trans xb;have zx:=hR.ext xE;have acO:Own (Wm.alloc (.cells #[.slice (some ⟨Wd.heap.size,0,none⟩) bD.length bD.length] 51)) 1 (.slice ta g tc) g ai1:=by have:=zx.D7;simp only[List.length_replicate]at this;exact this
    refine Late.o 9 rfl (fun K hK=>?_);refine d_ rfl _ _ 40 40 rfl 51 (.slice none 0 0) 1 24 Tryz.underlying40 aau rfl _ _ _ (by rfl) acO _ (by rfl) 1 _ (dO _ _ rfl _ _ Tryz.underlying40 _ [.slice (some ⟨Wd.heap.size,0,none⟩) bD.length bD.length] rfl (by intro u hu;simp at hu;subst hu;rfl)) af af ?_;intro v8 W8 o8 k8 s8;obtain⟨wQ,wR,rfl,-⟩:=o8.shape;have kY:¬Of (.slice ta g tc) Y:=fun e=>by have:=hR.wK Y e;rw[hR.gP]at this;cases this
    have bY:=zx.blk.kept k8 kY;have g8:=bY.cell 12;have ML:=bY.free 12;simp only[dm,I,au]at g8;refine hK _ _ (fun _=>g8) ?_;clear hK K;try simp only[lX]
    refine Late.o 10 rfl (fun K hK=>?_);go_simp;refine hK _ _ (fun _=>g8) ?_;clear hK K;try simp only[lX]
    refine Late.o 11 rfl (fun K hK=>?_);go_simp;refine hK _ _ (fun _=>g8) ?_;clear hK K;try simp only[lX]
    refine Late.o 12 rfl (fun K hK=>?_);go_simp;refine hK _ _ (fun h=>absurd rfl h) ?_;clear hK K;try simp only[lX]
    refine Late.done (by kernel_rfl) ?_ _;have UB:Own (Wm.alloc (.cells #[.slice (some ⟨Wd.heap.size,0,none⟩) bD.length bD.length] 51)) 1 (.slice (some ⟨Wd.heap.size,0,none⟩) bD.length bD.length) bD.length (List.replicate bD.length (.slice none 0 0)):=(hBm.aiZ (by unfold maxLen;omega)).ext xb;have hM:=hR.Ut (m:=bD.length) xE UB (fun b hb=>by simp[Value.ownBlock]at hb;have:=xd.size;omega) k8 s8 (by simp only[List.length_replicate];exact o8);simp only[List.length_replicate,←List.replicate_succ']at hM;obtain⟨hM1,hM2⟩:=hM;have hW3:=hW.trans hM2;generalize jM (jM iZ (.slice (some ⟨Wd.heap.size,0,none⟩) bD.length bD.length) (.lists g)) (.slice wQ (g+1) wR) .groups=qR at*;have ai2:=acN.go (C':=fun b=>qR b=.out) hM2.kept (fun i hi hs=>hs hi) (fun i hlt e=>by rw[hM2.same i hlt];exact e);clear hS0 hS1 zx acO g8 ML bY o8 k8 s8 UB hM2 acN bF F2 c12 hBm
    go_wp2_with fail
    generalize W8.setCell ⟨Y,12,none⟩ (.slice wQ (g+1) wR)=WB at*;have XM:pages[g]?=some pages[g]:=ay hgl;have hpv1:wS[g]?=some (wS[g]'af):=ay _;have acP:=UD.out pages[g] (aJ hgl);have RJ:=PU.out g _ _ hpv1 XM;have Ti:Hid (pages.getD g []=pages[g]):=by show _=_;rw[aC,XM];rfl
    have afg:=hp2;obtain⟨pg,acQ⟩:∃pg,pg=pages[g]:=⟨_,rfl⟩
    obtain⟨anp,Y_⟩:∃v,v=wS[g]'af:=⟨_,rfl⟩
    rw[←acQ]at acP RJ Ti;rw[←Y_]at RJ hpv1;clear acQ XM Y_;obtain⟨pga,P9,rfl,ai3,-⟩:=RJ.get;go_loopw [7,8] (fun lv i wq=>∃(j:Nat),i=.int .i64 j∧j≤bD.length∧Own wq 5 lv j ((l_ g pg bD j).flatMap dA)∧(∀b,lv.ownBlock=some b→WB.heap.size≤b)∧Ext WB wq) (fun _ i _=>bD.length-(intOf i).toNat)
    case atStart=>exact⟨0,rfl,aM _,Own.nil _ _,fun b e=>by simp[Value.ownBlock]at e,Kp.refl _ _⟩
    case round=>
     obtain⟨j,rfl,hj,hO,JB,xj⟩:=hrel;obtain⟨sa,sc,rfl,hsc⟩:=hO.shape;by_cases hjl:j<bD.length
     ·have j1:(j:Int)<(bD.length:Int):=af;have j0:(0:Int)≤(j:Int):=af;have xWB:=xj;have bF:=hb2.kept hW3.kept (fun e=>e Y9);have F2:=bF.cell 2;simp only[au]at F2;obtain⟨-,ca',cc',he,-,hx3⟩:=ai2;cases he;obtain⟨cb,co,rfl,-,-,hcv,-⟩:=hx3 af;have e1:=hcv j af;rw[aN,ay hjl]at e1;have hci:=HCM.out bD[j] (aJ hjl);have HCD:Hid (bD.getD j 0=bD[j]):=by show _=_;rw[aC,ay hjl];rfl
      obtain⟨cj,acS⟩:∃c,c=bD[j]:=⟨_,rfl⟩
      rw[←acS]at e1 hci HCD;simp only[Option.map_some,I]at e1;clear hx3 hcv acS;have ai4:=afg.go (C':=fun b=>qR b=.out) hW3.kept (fun i hi hs=>hs hi) (fun i hlt e=>by rw[hW3.same i hlt];exact e);obtain⟨-,ga',gc',he,-,hx3⟩:=ai4;cases he;obtain⟨gb,go,rfl,-,-,hgv,-⟩:=hx3 af;have e2:=(hgv g af).trans hpv1;clear hx3 hgv;have ai5:=RJ.go (C':=fun b=>qR b=.out) hW3.kept (fun i hi hs=>hs hi) (fun i hlt e=>by rw[hW3.same i hlt];exact e);have hcp:cj<pg.length:=af;obtain⟨-,pa',pc',he,-,hx3⟩:=ai5;cases he;obtain⟨pb,po,rfl,-,-,hpv,-⟩:=hx3 af;have EO:∀q,q<3→WB.cell? ⟨pb,po+(cj*3+q),none⟩=(wL pg[cj])[q]?:=fun q hq=>(hpv _ af).trans (aat pg cj q hcp hq)
      have y0:=EO 0 af;have y1:=EO 1 af;have y2:=EO 2 af;have HPD:Hid (pg.getD cj default=pg[cj]):=by show _=_;rw[aC,ay hcp];rfl
      obtain⟨fp,hfp⟩:∃f,f=pg[cj]:=⟨_,rfl⟩
      rw[←hfp]at y0 y1 y2 HPD;simp only[wL,I,tx,au,Nat.add_zero,←Nat.add_assoc]at y0 y1 y2;clear hx3 hpv EO hfp;have c0:(0:Int)≤(cj:Int):=af;have c1:(cj:Int)<(pg.length:Int):=af;have MS:Hid (∀u,Ext WB u→u.cell? ⟨w.heap.size,2,none⟩=some (.slice (some ⟨gb,go,none⟩) pages.length gc)∧u.cell? ⟨cb,co+j,none⟩=some (.int .i64 cj)∧u.cell? ⟨gb,go+g,none⟩=some (.slice (some ⟨pb,po,none⟩) pg.length P9)∧u.cell? ⟨pb,po+cj*3,none⟩=some (.int .i64 fp.place)∧u.cell? ⟨pb,po+cj*3+1,none⟩=some (.int .i64 fp.length)∧u.cell? ⟨pb,po+cj*3+2,none⟩=some (.string ⟨(Pl.dz fp.sum).toArray⟩)):=fun u hu=>⟨hu.cell F2 id,hu.cell e1 id,hu.cell e2 id,hu.cell y0 id,hu.cell y1 id,hu.cell y2 id⟩
      clear F2 e1 e2 y0 y1 y2;obtain⟨F2,e1,e2,y0,y1,y2⟩:=MS.out wr xj
      go_upto_region 14 with fail
      have hS0:wr.drew.cell? ⟨w.heap.size,2,none⟩=some (.slice (some ⟨gb,go,none⟩) pages.length gc)∧wr.drew.cell? ⟨cb,co+j,none⟩=some (.int .i64 cj)∧wr.drew.cell? ⟨gb,go+g,none⟩=some (.slice (some ⟨pb,po,none⟩) pg.length P9)∧wr.drew.cell? ⟨pb,po+cj*3,none⟩=some (.int .i64 fp.place)∧wr.drew.cell? ⟨pb,po+cj*3+1,none⟩=some (.int .i64 fp.length)∧wr.drew.cell? ⟨pb,po+cj*3+2,none⟩=some (.string ⟨(Pl.dz fp.sum).toArray⟩):=⟨F2,e1,e2,y0,y1,y2⟩
      refine bZ (n:=17) (fun u=>u.cell? ⟨w.heap.size,2,none⟩=some (.slice (some ⟨gb,go,none⟩) pages.length gc)∧u.cell? ⟨cb,co+j,none⟩=some (.int .i64 cj)∧u.cell? ⟨gb,go+g,none⟩=some (.slice (some ⟨pb,po,none⟩) pg.length P9)∧u.cell? ⟨pb,po+cj*3,none⟩=some (.int .i64 fp.place)∧u.cell? ⟨pb,po+cj*3+1,none⟩=some (.int .i64 fp.length)∧u.cell? ⟨pb,po+cj*3+2,none⟩=some (.string ⟨(Pl.dz fp.sum).toArray⟩)) (by kernel_rfl) ?_;generalize hWd:wr.drew=Wd at hS0⊢;have Za:Ext wr Wd:=by rw[←hWd];exact ax.drew
      clear hWd;refine Late.t 0 [17] rfl hS0 ?_;refine Late.t 1 [17] rfl hS0 ?_;refine Late.t 2 [17] rfl hS0 ?_;refine Late.t 3 [17] rfl hS0 ?_;refine Late.t 4 [17] rfl hS0 ?_;refine Late.t 5 [17] rfl hS0 ?_;refine Late.t 6 [17] rfl hS0 ?_;refine Late.t 7 [17] rfl hS0 ?_;refine Late.t 8 [17] rfl hS0 ?_;refine Late.t 9 [17] rfl hS0 ?_;refine Late.t 10 [17] rfl hS0 ?_;refine Late.t 11 [17] rfl hS0 ?_;refine Late.t 12 [17] rfl hS0 ?_;refine Late.t 13 [17] rfl hS0 ?_;refine Late.t 14 [17] rfl hS0 ?_;have Ca:Ext Wd (Wd.alloc (.cells #[.int .i64 g,.int .i64 j,.int .i64 fp.place,.int .i64 fp.length,.string ⟨(Pl.dz fp.sum).toArray⟩] 210)):=ax.alloc _;have hS1:(Wd.alloc (.cells #[.int .i64 g,.int .i64 j,.int .i64 fp.place,.int .i64 fp.length,.string ⟨(Pl.dz fp.sum).toArray⟩] 210)).cell? ⟨w.heap.size,2,none⟩=some (.slice (some ⟨gb,go,none⟩) pages.length gc)∧(Wd.alloc (.cells #[.int .i64 g,.int .i64 j,.int .i64 fp.place,.int .i64 fp.length,.string ⟨(Pl.dz fp.sum).toArray⟩] 210)).cell? ⟨cb,co+j,none⟩=some (.int .i64 cj)∧(Wd.alloc (.cells #[.int .i64 g,.int .i64 j,.int .i64 fp.place,.int .i64 fp.length,.string ⟨(Pl.dz fp.sum).toArray⟩] 210)).cell? ⟨gb,go+g,none⟩=some (.slice (some ⟨pb,po,none⟩) pg.length P9)∧(Wd.alloc (.cells #[.int .i64 g,.int .i64 j,.int .i64 fp.place,.int .i64 fp.length,.string ⟨(Pl.dz fp.sum).toArray⟩] 210)).cell? ⟨pb,po+cj*3,none⟩=some (.int .i64 fp.place)∧(Wd.alloc (.cells #[.int .i64 g,.int .i64 j,.int .i64 fp.place,.int .i64 fp.length,.string ⟨(Pl.dz fp.sum).toArray⟩] 210)).cell? ⟨pb,po+cj*3+1,none⟩=some (.int .i64 fp.length)∧(Wd.alloc (.cells #[.int .i64 g,.int .i64 j,.int .i64 fp.place,.int .i64 fp.length,.string ⟨(Pl.dz fp.sum).toArray⟩] 210)).cell? ⟨pb,po+cj*3+2,none⟩=some (.string ⟨(Pl.dz fp.sum).toArray⟩):=⟨Ca.cell hS0.1 id,Ca.cell hS0.2.1 id,Ca.cell hS0.2.2.1 id,Ca.cell hS0.2.2.2.1 id,Ca.cell hS0.2.2.2.2.1 id,Ca.cell hS0.2.2.2.2.2 id⟩
      refine Late.o 15 rfl (fun K hK=>?_);go_simp;refine hK _ _ (fun _=>hS1) ?_;clear hK K;try simp only[lX]
      have hOA:=(hO.ext Za).ext Ca;refine Late.o 16 rfl (fun K hK=>?_);refine d_ rfl _ _ 119 119 rfl 210 MI 5 48 Tryz.underlying119 Jz rfl _ _ _ (by rfl) hOA _ (by rfl) 1 _ (dO _ _ rfl _ _ Tryz.underlying119 _ [.int .i64 g,.int .i64 j,.int .i64 fp.place,.int .i64 fp.length,.string ⟨(Pl.dz fp.sum).toArray⟩] rfl (by intro u hu;simp at hu;rcases hu with rfl|rfl|rfl|rfl|rfl<;>rfl)) af af ?_;intro v9 W9 o9 k9 s9;have hlow:∀b,b<WB.heap.size→¬Of (.slice sa j sc) b:=fun b hb e=>by have:=JB b e;omega
      have xW9:Ext WB W9:=((xj.trans Za).trans Ca).then k9 (fun i hi e=>hlow i hi e);have Zb:∀b,v9.ownBlock=some b→WB.heap.size≤b:=fun b hb=>by
       rcases eT s9 hb with e|e
       ·exact JB b e
       ·have:=((xj.trans Za).trans Ca).size;omega
      obtain⟨lb,XO,rfl,hlc,amA,-⟩:=o9.at af;refine hK _ _ (fun _=>MS.out W9 xW9) ?_;clear hK K;try simp only[lX]
      refine Late.o 17 rfl (fun K hK=>?_);go_simp;refine hK _ _ (fun h=>absurd rfl h) ?_;clear hK K;try simp only[lX]
      refine Late.done (by kernel_rfl) ?_ _;have HX:Hid (l_ g pg bD (j+1)=Pl.Bw (l_ g pg bD j) ⟨g,j,fp⟩):=by show _=_;rw[yU g pg bD j hjl,HCD.out,HPD.out]
      have hsl:=vM g pg bD j hj;generalize l_ g pg bD j=SJ at*;clear hS0 hS1 hO JB hOA Za Ca k9 s9 F2 e1 e2 y0 y1 y2 bF hlow MS
      go_wp2_with fail
      obtain⟨x,hxe⟩:∃x,x=(⟨g,j,fp⟩:Pl.eU):=⟨_,rfl⟩
      have o9':Own W9 5 (.slice (some ⟨lb,0,none⟩) (j+1) XO) (j+1) ((SJ++[x]).flatMap dA):=by
       rw[hxe,List.flatMap_append];simpa[dA,I,tx]using o9
      rw[←hxe]at HX;clear o9 hxe;go_loopw [9] (fun kk wq=>∃A B:List Pl.eU,kk=.int .i64 A.length∧Hid (SJ=A++B)∧Hid (∀b∈B,x.page.place<b.page.place)∧Own wq 5 (.slice (some ⟨lb,0,none⟩) (j+1) XO) (j+1) ((A++[x]++B).flatMap dA)∧Ext WB wq) (fun kk _=>(intOf kk).toNat)
      case atStart=>exact⟨SJ,[],by rw[hsl],by show _=_;simp,fun b hb=>absurd hb (List.not_mem_nil),by simpa using o9',xW9⟩
      case round=>
       obtain⟨A,B,rfl,P_,HBB,hO,xk⟩:=hrel;have DI:A.length+B.length=j:=by rw[←hsl,P_.out,aD]
       rcases(show A=[]∨∃A' a,A=A'++[a]from by
        by_cases e:A=[]
        ·exact .inl e
        ·exact .inr ⟨_,_,(List.dropLast_concat_getLast e).symm⟩)with hA|⟨A',a,hA⟩
       ·subst hA;have k1:¬(0:Int)<((([]:List Pl.eU).length:Nat):Int):=aj
        go_wp2_with fail
        go_quiet (fail)
        go_wp2_with fail
        go_roundw
        case rel=>exact⟨j+1,by go_num,af,by
         rw[HX.out,P_.out];unfold Pl.Bw;rw[MH _ [] B x HBB.out (fun a ha=>by simp at ha)];exact hO.ext (ax.drewN _),Zb,xk.drewN _⟩
        case measure=>simp[intOf];omega
       ·subst hA;obtain⟨ka,hka⟩:∃ka,ka=A'.length:=⟨_,rfl⟩
        obtain⟨kb,hkb⟩:∃kb,kb=(A'++[a]).length:=⟨_,rfl⟩
        have hkk:kb=ka+1:=by rw[hkb,hka];simp
        have hia:(A'++[a]++[x]++B)[ka]?=some a:=by rw[hka];simp
        have hib:(A'++[a]++[x]++B)[kb]?=some x:=by rw[hkb];simp
        have hkj:kb≤j:=by rw[hkb];omega
        obtain⟨p0,MU⟩:=hO.partAt hia af 0 af;obtain⟨p1,Zc⟩:=hO.partAt hia af 1 af;obtain⟨p2,Zd⟩:=hO.partAt hia af 2 af;obtain⟨p3,Ze⟩:=hO.partAt hia af 3 af;obtain⟨p4,Zf⟩:=hO.partAt hia af 4 af;simp only[dA,I,tx,au,Nat.add_zero]at p0 p1 p2 p3 p4 MU;obtain⟨q0,JC⟩:=hO.partAt hib af 0 af;obtain⟨q1,UE⟩:=hO.partAt hib af 1 af;obtain⟨q2,MK⟩:=hO.partAt hib af 2 af;obtain⟨q3,UF⟩:=hO.partAt hib af 3 af;obtain⟨q4,UG⟩:=hO.partAt hib af 4 af;simp only[dA,I,tx,au,Nat.add_zero]at q0 q1 q2 q3 q4 JC;have m1:IntKind.i64.wrap ((kb:Int)-1)=(ka:Int):=by simp[IntKind.wrap,IntKind.bits,IntKind.signed];omega
        have m0:(0:Int)<(kb:Int):=af;have m2:(0:Int)≤(ka:Int):=af;have m3:(0:Int)≤(kb:Int):=af;have m4:(ka:Int)<((j+1:Nat):Int):=af;have m5:(kb:Int)<((j+1:Nat):Int):=af;have m6:(ka:Int)<(j:Int)+1:=af;have m7:(kb:Int)<(j:Int)+1:=af;have m9:0<kb:=af;have m10:decide (0<kb)=true:=aH m9;have m11:decide ((0:Int)<(kb:Int))=true:=aH m0;rw[←hkb];have Zg:=hide hka;have HKB:=hide hkb;have HKK:=hide hkk;have Qa:=hide hia;have Ea:=hide hib;clear hka hkb hkk hia hib DI;by_cases hgt:x.page.place<a.page.place
        ·have m8:decide ((x.page.place:Int)<(a.page.place:Int))=true:=aH af;have m12:decide (x.page.place<a.page.place)=true:=aH hgt
         go_wp2_with fail
         go_quiet (fail);generalize hWf:World.drewN _ _=Wf;have xf:Ext wr Wf:=by rw[←hWf];exact ax.drewN _
         clear hWf;have MV:=hO.ext xf;clear p0 p1 p2 p3 p4 q0 q1 q2 q3 q4 MU Zc Zd Ze Zf JC UE MK UF UG;obtain⟨q0,JC⟩:=MV.partAt Ea.out af 0 af;obtain⟨q1,UE⟩:=MV.partAt Ea.out af 1 af;obtain⟨q2,MK⟩:=MV.partAt Ea.out af 2 af;obtain⟨q3,UF⟩:=MV.partAt Ea.out af 3 af;obtain⟨q4,UG⟩:=MV.partAt Ea.out af 4 af;simp only[dA,I,tx,au,Nat.add_zero]at q0 q1 q2 q3 q4 JC;have bX:=bK.bO Wf [.int .i64 x.group,.int .i64 x.want,.int .i64 x.page.place,.int .i64 x.page.length,.string ⟨(Pl.dz x.page.sum).toArray⟩] 210;have xg:Ext Wf (Wf.alloc (.cells #[.int .i64 x.group,.int .i64 x.want,.int .i64 x.page.place,.int .i64 x.page.length,.string ⟨(Pl.dz x.page.sum).toArray⟩] 210)):=ax.alloc _;have hlf:¬Wf.heap.size=lb:=fun e=>by have:=hO.lt (g:=lb) rfl;have:=xf.size;omega
         have anq:¬lb=Wf.heap.size:=fun e=>hlf e.symm
         go_upto_region 19 with fail
         generalize Wf.alloc (.cells #[.int .i64 x.group,.int .i64 x.want,.int .i64 x.page.place,.int .i64 x.page.length,.string ⟨(Pl.dz x.page.sum).toArray⟩] 210)=Wg at*;have AR:=MV.ext xg;clear q0 q1 q2 q3 q4 JC UE MK UF UG;obtain⟨p0,MU⟩:=AR.partAt Qa.out af 0 af;obtain⟨p1,Zc⟩:=AR.partAt Qa.out af 1 af;obtain⟨p2,Zd⟩:=AR.partAt Qa.out af 2 af;obtain⟨p3,Ze⟩:=AR.partAt Qa.out af 3 af;obtain⟨p4,Zf⟩:=AR.partAt Qa.out af 4 af;simp only[dA,I,tx,au,Nat.add_zero]at p0 p1 p2 p3 p4 MU;obtain⟨q0,JC⟩:=AR.partAt Ea.out af 0 af;obtain⟨q1,UE⟩:=AR.partAt Ea.out af 1 af;obtain⟨q2,MK⟩:=AR.partAt Ea.out af 2 af;obtain⟨q3,UF⟩:=AR.partAt Ea.out af 3 af;obtain⟨q4,UG⟩:=AR.partAt Ea.out af 4 af;simp only[dA,I,tx,au,Nat.add_zero]at q0 q1 q2 q3 q4 JC;have hO2:Own (((((Wg.setCell ⟨lb,kb*5,none⟩ (.int .i64 (a.group:Int))).setCell ⟨lb,kb*5+1,none⟩ (.int .i64 (a.want:Int))).setCell ⟨lb,kb*5+2,none⟩ (.int .i64 (a.page.place:Int))).setCell ⟨lb,kb*5+3,none⟩ (.int .i64 (a.page.length:Int))).setCell ⟨lb,kb*5+4,none⟩ (.string ⟨(Pl.dz a.page.sum).toArray⟩)) 5 (.slice (some ⟨lb,0,none⟩) (j+1) XO) (j+1) (((A'++[a]++[x]++B).set kb a).flatMap dA):=AR.Il (by have:=HKK.out;have:=Zg.out;have:=congrArg List.length P_.out;simp at this⊢;omega) kb af a;have bX2:=bX.kept (Im Wg lb (kb*5) a) hlf;have xh:=Im Wg lb (kb*5) a
         go_upto_region 20 with fail
         have xh':Kp (fun b=>b=lb) Wg (((((Wg.setCell ⟨lb,kb*5,none⟩ (.int .i64 (a.group:Int))).setCell ⟨lb,kb*5+1,none⟩ (.int .i64 (a.want:Int))).setCell ⟨lb,kb*5+2,none⟩ (.int .i64 (a.page.place:Int))).setCell ⟨lb,kb*5+3,none⟩ (.int .i64 (a.page.length:Int))).setCell ⟨lb,kb*5+4,none⟩ (.string ⟨(Pl.dz a.page.sum).toArray⟩)):=xh;have Qb:bK (((((Wg.setCell ⟨lb,kb*5,none⟩ (.int .i64 (a.group:Int))).setCell ⟨lb,kb*5+1,none⟩ (.int .i64 (a.want:Int))).setCell ⟨lb,kb*5+2,none⟩ (.int .i64 (a.page.place:Int))).setCell ⟨lb,kb*5+3,none⟩ (.int .i64 (a.page.length:Int))).setCell ⟨lb,kb*5+4,none⟩ (.string ⟨(Pl.dz a.page.sum).toArray⟩)) Wf.heap.size [.int .i64 x.group,.int .i64 x.want,.int .i64 x.page.place,.int .i64 x.page.length,.string ⟨(Pl.dz x.page.sum).toArray⟩] 210:=bX2;clear xh bX2 p0 p1 p2 p3 p4 q0 q1 q2 q3 q4 MU Zc Zd Ze Zf JC UE MK UF UG;generalize((((Wg.setCell ⟨lb,kb*5,none⟩ (.int .i64 (a.group:Int))).setCell ⟨lb,kb*5+1,none⟩ (.int .i64 (a.want:Int))).setCell ⟨lb,kb*5+2,none⟩ (.int .i64 (a.page.place:Int))).setCell ⟨lb,kb*5+3,none⟩ (.int .i64 (a.page.length:Int))).setCell ⟨lb,kb*5+4,none⟩ (.string ⟨(Pl.dz a.page.sum).toArray⟩)=Wh at*;have Io:((A'++[a]++[x]++B).set kb a)[ka]?=some a:=by rw[List.getElem?_set_ne (by have:=HKK.out;omega)];exact Qa.out
         obtain⟨p0,MU⟩:=hO2.partAt Io af 0 af;obtain⟨p1,Zc⟩:=hO2.partAt Io af 1 af;obtain⟨p2,Zd⟩:=hO2.partAt Io af 2 af;obtain⟨p3,Ze⟩:=hO2.partAt Io af 3 af;obtain⟨p4,Zf⟩:=hO2.partAt Io af 4 af;simp only[dA,I,tx,au,Nat.add_zero]at p0 p1 p2 p3 p4 MU;have y0:=Qb.cell 0;have y1:=Qb.cell 1;have y2:=Qb.cell 2;have y3:=Qb.cell 3;have y4:=Qb.cell 4;simp only[au]at y0 y1 y2 y3 y4;have hO3:=hO2.Il (by have:=HKK.out;have:=Zg.out;have:=congrArg List.length P_.out;simp at this⊢;omega) ka af x;have HE3:Hid (((A'++[a]++[x]++B).set kb a).set ka x=A'++[x]++(a::B)):=by
          show _=_;rw[HKK.out,Zg.out];exact aas A' B a x
         rw[HE3.out]at hO3;have xe:Ext WB (Il Wh lb (ka*5) x):=(((xk.trans xf).trans xg).then xh' (fun i hi e=>by have:=Zb lb rfl;omega)).then (Im Wh lb (ka*5) x) (fun i hi e=>by have:=Zb lb rfl;omega);have HF:=hide (And.intro hO3 xe);clear hO3 xe hO2 AR MV bX Qb Io
         go_wp2_with fail
         go_roundw
         case rel=>exact⟨A',a::B,by have:=Zg.out;rw[←this],by show _=_;rw[P_.out];simp,fun b hb=>by
          rcases List.mem_cons.1 hb with rfl|hb
          ·exact hgt
          ·exact HBB.out b hb,HF.out.1,HF.out.2⟩
         case measure=>have:=HKK.out;simp[intOf];omega
        ·have m8:decide ((x.page.place:Int)<(a.page.place:Int))=false:=aG af;have m12:decide (x.page.place<a.page.place)=false:=aG hgt
         go_wp2_with fail
         go_quiet (fail)
         go_wp2_with fail
         go_roundw
         case rel=>exact⟨j+1,by go_num,af,by
          rw[HX.out,P_.out];unfold Pl.Bw;rw[MH _ (A'++[a]) B x HBB.out (fun a' ha=>by simp at ha;subst ha;exact hgt)];exact hO.ext (ax.drewN _),Zb,xk.drewN _⟩
         case measure=>simp[intOf];omega
     ·obtain rfl:j=bD.length:=af;have j1:¬(bD.length:Int)<(bD.length:Int):=af;have hsl:=vM g pg bD bD.length (aK _);have hmem:=Gd g pg bD bD.length (aK _);have HSA:Hid (Pl.gL r.gap bD pages (g+1)=Pl.gL r.gap bD pages g++Pl.wu r.gap (l_ g pg bD bD.length)):=by
       show _=_;rw[Gf,←Ti.out];rfl
      have XP:=D8 r.gap bD pages g;generalize l_ g pg bD bD.length=SJ at*;have hlr:bM (fun b=>qR b=.out) false wr 5 (.slice sa bD.length sc) SJ.length (SJ.flatMap dA):=by
       rw[hsl];exact(hO.rowAt (fun b=>qR b=.out) (fun b hb=>hM1.top b (JB b hb))).weak
      have HJ:=hide (RF w.heap.size qR wr Y _ _ _ _ _ _ _ _ SJ (hM1.ext xj) hlr (by have:=hW2.kept.size;have:=hW3.kept.size;have:=xj.size;omega) af (by
       show(Pl.gL r.gap bD pages g).length≤1000;have:g*bD.length≤100*4:=Nat.mul_le_mul af af;omega) (fun y hy=>by
        rcases hmem y hy with e|e
        ·exact acP.2 _ e
        ·rw[e];exact⟨aM _,aM _⟩) BK)
      clear hlr hO hmem XP hsl
      go_wp2_with (go_at_call 134;refine(bH HJ).mono ?_;rintro e W9 ⟨rfl,MW,XQ,Pq,uR,MX⟩)
      go_roundw
      case rel=>exact⟨g+1,MW,XQ,_,Pq,_,by go_num,af,by rw[HSA.out];exact uR,(hW3.trans (cu.ext xj)).trans MX,fun e=>absurd e af⟩
      case measure=>simp[intOf];omega
   ·obtain rfl:g=pages.length:=af;have g1:¬(pages.length:Int)<(pages.length:Int):=af;have HE:Hid (Pl.nU r names rows pages={r with pieces:=Pl.gL r.gap bD pages pages.length,rows:=rows,there:=List.replicate pages.length (List.replicate bD.length []),state:=if pages.length=0 then 1 else r.state}):=by show _=_;unfold Pl.nU;rw[hcd]
    have hD:=hR.done;have hWD:=UC (n:=w.heap.size) (hW2.trans hW) (aK _);by_cases hz:pages.length=0
    ·have hzb:((pages.length:Int)==0)=true:=by simp[hz]
     have c6:=hD.blk.cell 6;have f6:=hD.blk.free 6;simp only[dm,I,au]at c6;have h7:=hD.p8 6 (.int .i64 1) (r':={r with pieces:=Pl.gL r.gap bD pages pages.length,rows:=rows,there:=List.replicate pages.length (List.replicate bD.length []),state:=1}) (by simp[dm,I]) ⟨hD.inn.gP,hD.inn.top,hD.inn.names,hD.inn.iA,hD.inn.pieces,hD.inn.cB,hD.inn.parts,hD.inn.rows,hD.inn.there⟩;have k7:=hD.p9 6 (.int .i64 1);have HH:=hide (And.intro h7 (hWD.trans ⟨k7,fun _ _=>rfl⟩));have HTZ:Hid (tv1=.slice none 0 0):=HT0.out hz;clear h7 k7
     go_wp2_with fail
     go_end0
     rw[HE.out,if_pos hz];exact ny.mk _ RG _ _ _ rfl HH.out.1 HH.out.2 (fun _=>HTZ.out)
    ·have hzb:((pages.length:Int)==0)=false:=by simp[hz]
     go_wp2_with fail
     go_end0
     rw[HE.out,if_neg hz];refine ny.mk _ RG _ _ _ rfl hD hWD (fun e=>?_);have:=congrArg List.length e;simp at this;exact absurd this (fun e=>hz (by rw[e];rfl))
end Go.Proofs.YthicgffppmbamaaGreat
