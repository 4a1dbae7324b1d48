import Derived.Test.YthicgffppmbamaaGreatRows
import Derived.Lib.SmallJoins
import Derived.Deep.Strs
import Derived.Test.YthicgffppmbamaaGreatP15
import Derived.Test.YthicgffppmbamaaGreatP17
import Derived.Test.YthicgffppmbamaaGreatP21
import Derived.Test.YthicgffppmbamaaGreatP23
import Derived.Test.YthicgffppmbamaaGreatP24
set_option maxRecDepth 100000
set_option maxHeartbeats 16000000
namespace Go.Proofs.YthicgffppmbamaaGreat
open Go.RowKit
structure Nk (r:Pl.cO)(p:Pl.bQ):Prop where
 tail:p.kind=0→p.got.length=6∧r.size≤4000
 foot:p.kind=1→p.got.length≤4000∧4≤p.place∧p.place≤4000∧r.there=[]
 pages:p.kind≠0→p.kind≠1→p.parts.length≤1000∧r.there.length=r.rows.length∧r.rows.length≤1000∧(∀n∈r.rows,1≤n∧n≤1000)∧p.got.length≤10000∧∀x∈p.parts,acv p r x
 gap:r.gap≤1000
 want:r.want.length≤1000000000
theorem Cm (p:Pl.bQ):∀(l:List Pl.eU)(r:Pl.cO),(Pl.iB p l r).there.length=r.there.length
 |[],r=>rfl
 |x::t,r=>by
  unfold Pl.iB;split
  ·rfl
  ·split
   ·rw[Cm p t];simp
   ·rfl
theorem six {l:List UInt8}(h:l.length=6):∃a b t,l=a::b::t∧t.length=4:=by
 match l,h with
 |a::b::t,h=>exact⟨a,b,t,rfl,by simpa using h⟩
theorem Ir {α:Type}{l:List α}{f g:α→List Value}(h:∀x∈l,f x=g x):l.flatMap f=l.flatMap g:=by
 induction l with
 |nil=>rfl
 |cons a t ih=>rw[List.flatMap_cons,List.flatMap_cons,h a aj,ih (fun x hx=>h x (by simp[hx]))]
theorem dK.Yc {col:bU}{w u:World}{Y:Nat}{r:Pl.cO}{bJ:List Value}{nv pv rv tv v':Value}{q:Pl.bQ}(h:dK col w Y r bJ nv pv rv tv)(x:Ext w u)(hq:q.parts=[])(ho:Own u 9 v' 1 (dx (.slice none 0 0) q))(hn:∀g,v'.ownBlock=some g→w.heap.size≤g):
 dK (jM col v' .asked) (u.setCell ⟨Y,7,none⟩ v') Y {r with pieces:=[q]} [.slice none 0 0] nv v' rv tv∧cu col w (u.setCell ⟨Y,7,none⟩ v') (jM col v' .asked):=by
 have hc:∀b,b<w.heap.size→jM col v' .asked b=col b:=Ag hn;have kq:Kp (fun b=>b=Y) w (u.setCell ⟨Y,7,none⟩ v'):=(Kp.cZ x).trans (bI u Y 7 v');have hno:∀c,c≠.scan→∀i,i=Y→col i≠c:=fun c h1 i hi e=>by rw[hi,h.inn.gP]at e;exact h1 e.symm
 have hz:(u.setCell ⟨Y,7,none⟩ v').heap.size=u.heap.size:=size_set _ _ _;have Uv:¬v'.ownBlock=some Y:=fun e=>by have:=hn Y e;have:=h.blk.lt;omega
 refine⟨⟨(h.blk.kept x id).set 7 v',by rw[hc Y h.blk.lt];exact h.inn.gP,fun i hi=>?_,h.inn.names.go kq (fun i hi hs=>hno _ aj i hs hi) (fun i hlt e=>by rw[hc i hlt];exact e),rfl,?_,fun g hg=>pG hg,fun i y p a b=>?_,h.inn.rows.go kq (fun i hi hs=>hno _ aj i hs hi) (fun i hlt e=>by rw[hc i hlt];exact e),h.inn.there.go kq (hno _ aj) (fun g=>hno _ aj) (hno _ aj) hc⟩,kq.mono (fun i _ e=>hno .out aj i e),hc⟩
 ·rw[hz]at hi;rw[mY (fun e=>by have:=ho.lt e;omega)];exact h.inn.top i (by have:=x.size;omega)
 ·have:=ho.kept (bI u Y 7 v') (fun g hg e=>Uv (by rw[←e];exact hg));show Own _ 9 v' 1 (kU [.slice none 0 0] [q]);simpa[kU]using this
 ·cases i with
  |zero=>
   simp at a b;subst a;subst b;rw[hq];exact bM.nil _ _ _ _
  |succ i=>simp at a
theorem aaC (col:bU)(w:World)(Y:Nat)(r:Pl.cO)(bJ:List Value)(nv pv rv tv:Value)(p:Pl.bQ)(xq:Value)(h:dK col w Y r bJ nv pv rv tv)(sJ:r.there=[]→tv=.slice none 0 0)(hq:jG col w xq p.parts)(hok:Nk r p)(hk0:p.kind=0):
 Calls Tryz.prog 93 #[PtrTo Y 0,.agg (dx xq p).toArray] w fun e w'=>ny col w w' e Y (Pl.dN r p) nv:=by
 obtain⟨xa,xc,rfl,hxc,-⟩:=hq.get;have Nl:=hide hk0;clear hk0;have hag:(Value.agg (dx (.slice xa p.parts.length xc) p).toArray)=.agg #[.int .i64 p.kind,.int .i64 p.place,.int .i64 p.length,.string ⟨p.got.toArray⟩,.int .i64 p.failed,.int .i64 p.id,.int .i64 p.due,.int .i64 p.turn,.slice xa p.parts.length xc]:=rfl;rw[hag];have x0:Ext w (w.alloc (.cells #[.int .i64 p.kind,.int .i64 p.place,.int .i64 p.length,.string ⟨p.got.toArray⟩,.int .i64 p.failed,.int .i64 p.id,.int .i64 p.due,.int .i64 p.turn,.slice xa p.parts.length xc] 121)):=ax.alloc _;have b0:=bK.bO w [.int .i64 p.kind,.int .i64 p.place,.int .i64 p.length,.string ⟨p.got.toArray⟩,.int .i64 p.failed,.int .i64 p.id,.int .i64 p.due,.int .i64 p.turn,.slice xa p.parts.length xc] 121;have h0:=h.ext x0;have hq0:jG col _ (.slice xa p.parts.length xc) p.parts:=bM.go hq x0 (fun _ _ f=>f) (fun _ _ e=>e);clear hag;go_enter Tryz.func93,Tryz.ntmps93
 go_upto_region 1 with fail
 generalize w.alloc (.cells #[.int .i64 p.kind,.int .i64 p.place,.int .i64 p.length,.string ⟨p.got.toArray⟩,.int .i64 p.failed,.int .i64 p.id,.int .i64 p.due,.int .i64 p.turn,.slice xa p.parts.length xc] 121)=W0 at*;have hk0:=Nl.out;have d0:=b0.cell 0;have d1:=b0.cell 1;have d2:=b0.cell 2;have d3:=b0.cell 3;have d4:=b0.cell 4;have d5:=b0.cell 5;have d6:=b0.cell 6;have d7:=b0.cell 7;have d8:=b0.cell 8;have c0:=h0.blk.cell 0;simp only[dm,I,au]at d0 d1 d2 d3 d4 d5 d6 d7 d8 c0;obtain⟨t1,t3⟩:=hok.tail hk0;obtain⟨a,b,t,wU,Zz⟩:=six t1;have hz:((p.kind:Int)==0)=true:=by simp[hk0]
 rw[wU]at d3;have i0:({data:=(a::b::t).toArray}:ByteArray)[0]'(by show 0<(a::b::t).toArray.size;simp)=a:=rfl;have i1:({data:=(a::b::t).toArray}:ByteArray)[1]'(by show 1<(a::b::t).toArray.size;simp)=b:=rfl
 go_upto_region 4 with fail
 go_quiet (fail);obtain⟨n,hne⟩:∃n,n=Pl.qD p.got:=⟨_,rfl⟩
 have ha:=a.toNat_lt;have hb:=b.toNat_lt;have ZA:n=256*a.toNat+b.toNat:=by rw[hne,wU];rfl
 have hnb:n≤70000:=af;have hn:wrap64 (wrap64 (256*wrap64 (a.toNat:Int))+wrap64 (b.toNat:Int))=(n:Int):=by
  rw[wz (n:=(a.toNat:Int)) ⟨af,af⟩,wz (n:=(b.toNat:Int)) ⟨af,af⟩,wz (n:=256*(a.toNat:Int)) ⟨af,af⟩,wz ⟨af,af⟩];omega
 rw[hn];have Aw:=hide hne;clear hn hne ZA ha hb i0 i1;generalize hWf:World.drewN _ _=Wf;have xf:Ext W0 Wf:=by rw[←hWf];exact ax.drewN _
 clear hWf;have hf:=h0.ext xf;replace d3:=xf.cell d3 id;replace c0:=xf.cell c0 id;have hcut:({data:=(a::b::t).toArray}:ByteArray).extract 2 6=⟨t.toArray⟩:=by
  rw[show(6:Nat)=2+4 from rfl,DZ (a::b::t) 2 4,show((a::b::t).drop 2).take 4=t from List.take_of_length_le (by simp[Zz])]
 have c6:=hf.blk.cell 6;have f6:=hf.blk.free 6;have c7:=hf.blk.cell 7;have f7:=hf.blk.free 7;simp only[dm,I,au]at c6 c7;have hsz:IntKind.i64.wrap ((r.size:Int)-10)=(r.size:Int)-10:=by simp[IntKind.wrap,IntKind.bits,IntKind.signed];omega
 by_cases hall:1≤n∧n+10≤r.size∧t=Pl.mark
 ·obtain⟨q1,q2,q3⟩:=hall;obtain⟨pl,hpl⟩:∃pl,pl=r.size-6-n:=⟨_,rfl⟩
  have HW:Hid (Pl.dN r p={r with pieces:=[{kind:=1,place:=pl,length:=n}]}):=by
   show _=_;unfold Pl.dN;rw[if_pos hk0,←Aw.out,hpl,if_neg];rw[wU,q3];simp;omega
  have e1:decide ((n:Int)<1)=false:=aG af;have e2:decide ((r.size:Int)-10<(n:Int))=false:=aG af;have e3:(t==[67,79,76,49])=true:=by rw[q3];rfl
  have e4:IntKind.i64.wrap ((r.size:Int)-6)=(r.size:Int)-6:=by simp[IntKind.wrap,IntKind.bits,IntKind.signed];omega
  have e5:IntKind.i64.wrap ((r.size:Int)-6-(n:Int))=(pl:Int):=by simp[IntKind.wrap,IntKind.bits,IntKind.signed];omega
  clear q3 hpl;have xa7:Ext Wf (Wf.alloc (.cells #[.int .i64 1,.int .i64 (pl:Int),.int .i64 n,.string ⟨#[]⟩,.int .i64 0,.int .i64 0,.int .i64 0,.int .i64 0,.slice none 0 0] 121)):=ax.alloc _;have hM:=hf.Yc (q:={kind:=1,place:=pl,length:=n}) xa7 rfl (bK.bO Wf [.int .i64 1,.int .i64 (pl:Int),.int .i64 n,.string ⟨#[]⟩,.int .i64 0,.int .i64 0,.int .i64 0,.int .i64 0,.slice none 0 0] 121).L_ (fun g hg=>by simp[Value.ownBlock]at hg;omega);have HM:=hide (And.intro hM.1 ((cu.ext (x0.trans xf)).trans hM.2));have bY7:=hf.blk.kept xa7 id;have c7a:=bY7.cell 7;have f7a:=bY7.free 7;simp only[dm,I,au]at c7a;clear bY7;clear hM
  go_wp2_with fail
  go_end0
  rw[HW.out];exact ny.mk _ _ _ _ _ rfl HM.out.1 HM.out.2 sJ
 ·have hst:Hid (Pl.dN r p={r with state:=2}):=by
   show _=_;unfold Pl.dN;rw[if_pos hk0,←Aw.out,if_pos];rw[wU];by_cases q1:n<1
   ·exact .inl q1
   ·by_cases q2:r.size-10<n
    ·exact .inr (.inl q2)
    ·exact .inr (.inr (fun e=>hall ⟨af,af,by simpa using e⟩))
  have h7:=hf.p8 6 (.int .i64 2) (r':={r with state:=2}) (by simp[dm,I]) ⟨hf.inn.gP,hf.inn.top,hf.inn.names,hf.inn.iA,hf.inn.pieces,hf.inn.cB,hf.inn.parts,hf.inn.rows,hf.inn.there⟩;have k7:=hf.p9 6 (.int .i64 2);have HH:=hide (And.intro h7 ((cu.ext (x0.trans xf)).trans ⟨k7,fun _ _=>rfl⟩));clear h7 k7;by_cases q1:n<1
  ·have e1:decide ((n:Int)<1)=true:=aH af
   go_wp2_with fail
   refine bodyPost_ret (results_none rfl _ _ _) rfl ?_;rw[hst.out];exact ny.mk col bJ _ _ _ rfl HH.out.1 HH.out.2 sJ
  ·have e1:decide ((n:Int)<1)=false:=aG af;by_cases q2:r.size-10<n
   ·have e2:decide ((r.size:Int)-10<(n:Int))=true:=aH af
    go_wp2_with fail
    refine bodyPost_ret (results_none rfl _ _ _) rfl ?_;rw[hst.out];exact ny.mk col bJ _ _ _ rfl HH.out.1 HH.out.2 sJ
   ·have e2:decide ((r.size:Int)-10<(n:Int))=false:=aG af;have e3:(t==[67,79,76,49])=false:=by
     have:¬t=[67,79,76,49]:=fun e=>hall ⟨af,af,e⟩
     simpa using this
    go_wp2_with fail
    refine bodyPost_ret (results_none rfl _ _ _) rfl ?_;rw[hst.out];exact ny.mk col bJ _ _ _ rfl HH.out.1 HH.out.2 sJ
theorem aaD (col:bU)(w:World)(Y:Nat)(r:Pl.cO)(bJ:List Value)(nv pv rv tv:Value)(p:Pl.bQ)(xq:Value)(h:dK col w Y r bJ nv pv rv tv)(sJ:r.there=[]→tv=.slice none 0 0)(hq:jG col w xq p.parts)(hok:Nk r p)(hk0:¬p.kind=0)(hk1:p.kind=1):
 Calls Tryz.prog 93 #[PtrTo Y 0,.agg (dx xq p).toArray] w fun e w'=>ny col w w' e Y (Pl.dN r p) nv:=by
 obtain⟨xa,xc,rfl,hxc,-⟩:=hq.get;have Nl:=hide hk0;clear hk0;have Yd:=hide hk1;clear hk1;have hag:(Value.agg (dx (.slice xa p.parts.length xc) p).toArray)=.agg #[.int .i64 p.kind,.int .i64 p.place,.int .i64 p.length,.string ⟨p.got.toArray⟩,.int .i64 p.failed,.int .i64 p.id,.int .i64 p.due,.int .i64 p.turn,.slice xa p.parts.length xc]:=rfl;rw[hag];have x0:Ext w (w.alloc (.cells #[.int .i64 p.kind,.int .i64 p.place,.int .i64 p.length,.string ⟨p.got.toArray⟩,.int .i64 p.failed,.int .i64 p.id,.int .i64 p.due,.int .i64 p.turn,.slice xa p.parts.length xc] 121)):=ax.alloc _;have b0:=bK.bO w [.int .i64 p.kind,.int .i64 p.place,.int .i64 p.length,.string ⟨p.got.toArray⟩,.int .i64 p.failed,.int .i64 p.id,.int .i64 p.due,.int .i64 p.turn,.slice xa p.parts.length xc] 121;have h0:=h.ext x0;have hq0:jG col _ (.slice xa p.parts.length xc) p.parts:=bM.go hq x0 (fun _ _ f=>f) (fun _ _ e=>e);clear hag;go_enter Tryz.func93,Tryz.ntmps93
 go_upto_region 1 with fail
 generalize w.alloc (.cells #[.int .i64 p.kind,.int .i64 p.place,.int .i64 p.length,.string ⟨p.got.toArray⟩,.int .i64 p.failed,.int .i64 p.id,.int .i64 p.due,.int .i64 p.turn,.slice xa p.parts.length xc] 121)=W0 at*;have hk0:=Nl.out;have hk1:=Yd.out;have d0:=b0.cell 0;have d1:=b0.cell 1;have d2:=b0.cell 2;have d3:=b0.cell 3;have d4:=b0.cell 4;have d5:=b0.cell 5;have d6:=b0.cell 6;have d7:=b0.cell 7;have d8:=b0.cell 8;have c0:=h0.blk.cell 0;simp only[dm,I,au]at d0 d1 d2 d3 d4 d5 d6 d7 d8 c0;have hz:((p.kind:Int)==0)=false:=by simp[hk0]
 obtain⟨t1,t2,t3,t4⟩:=hok.foot hk1;have Nn:=sJ t4;subst Nn;have hz1:((p.kind:Int)==1)=true:=by simp[hk1]
 have Vb:=hide (UN W0 p.got p.place af t3)
 go_upto_region 10 with(go_at_call 109;refine(bH Vb).mono ?_;rintro e W1 ⟨k,F,Q,jK,j_,jZ,wS,c,rfl,hf⟩;obtain⟨na,nc,rfl,-⟩:=hf.Eb.shape;obtain⟨ra,rc,rfl,-⟩:=hf.row.shape;obtain⟨ga,gc,rfl,-⟩:=hf.Gi.shape)
 have xF:Ext W1 (W1.alloc (.cells #[.slice na (Pl.iL p.got).1.length nc,.slice ra (Pl.dJ p.got p.place).1.1.length rc,.slice ga (Pl.dJ p.got p.place).1.2.length gc] 179)):=ax.alloc _;have bF:=bK.bO W1 [.slice na (Pl.iL p.got).1.length nc,.slice ra (Pl.dJ p.got p.place).1.1.length rc,.slice ga (Pl.dJ p.got p.place).1.2.length gc] 179;generalize W1.alloc (.cells #[.slice na (Pl.iL p.got).1.length nc,.slice ra (Pl.dJ p.got p.place).1.1.length rc,.slice ga (Pl.dJ p.got p.place).1.2.length gc] 179)=W2 at*;have I9:Ext W0 W2:=hf.ext.trans xF;obtain⟨iZ,GH⟩:∃iZ:bU,iZ=fun b=>if k b=4 then .ro else col b:=⟨_,rfl⟩
 have hsame:∀i,i<W0.heap.size→iZ i=col i:=fun i hi=>by rw[GH];simp only;rw[if_neg (by rw[hf.low i hi];omega)]
 have htop:∀i,W2.heap.size≤i→iZ i=.out:=fun i hi=>by
  rw[GH];simp only;have:=xF.size;rw[if_neg (by rw[hf.top i af];omega)];exact h0.inn.top i (by have:=I9.size;omega)
 have h2:dK iZ W2 Y r bJ nv pv rv (.slice none 0 0):=⟨h0.blk.kept I9 id,h0.inn.go I9 h0.blk.lt (Jw col) (fun _ _ f=>f) hsame htop⟩
 have hW2:cu col w W2 iZ:=(cu.ext x0).trans ⟨Kp.cZ I9,hsame⟩;have hnew:∀b d,k b=d→d≠0→d≠4→iZ b=.out:=fun b d hb h1 h4=>by
  rw[GH];simp only;rw[if_neg af];exact h0.inn.top b (hf.ge hb h1)
 rcases Pl.FD p.got p.place af t3 with⟨hno,-⟩|⟨hyes,hfo,hnm,hg6,hgl,hrw,hpp⟩
 ·rw[hno];have HW:Hid (Pl.dN r p={r with state:=2}):=by
   show _=_;unfold Pl.dN;rw[if_neg hk0,if_pos hk1,hno,if_neg aj]
  have c6:=h2.blk.cell 6;have f6:=h2.blk.free 6;simp only[dm,I,au]at c6;have h7:=h2.p8 6 (.int .i64 2) (r':={r with state:=2}) (by simp[dm,I]) ⟨h2.inn.gP,h2.inn.top,h2.inn.names,h2.inn.iA,h2.inn.pieces,h2.inn.cB,h2.inn.parts,h2.inn.rows,h2.inn.there⟩;have k7:=h2.p9 6 (.int .i64 2);have HH:=hide (And.intro h7 (hW2.trans ⟨k7,fun _ _=>rfl⟩));clear h7 k7
  go_wp2_with fail
  refine bodyPost_ret (results_none rfl _ _ _) rfl ?_;rw[HW.out];exact ny.mk iZ bJ _ _ _ rfl HH.out.1 HH.out.2 (fun _=>rfl)
 ·rw[hyes];have HW:Hid (Pl.dN r p=Pl.nU r (Pl.iL p.got).1 (Pl.dJ p.got p.place).1.1 ((Pl.dJ p.got p.place).1.2.map (·.map Pl.kI))):=by
   show _=_;unfold Pl.dN;rw[if_neg hk0,if_pos hk1,hyes,if_pos rfl]
  have adP:=Pl.qL p.got p.place t2 _ hfo;have hn2:bM (fun b=>iZ b=.out) false W2 1 (.slice na (Pl.iL p.got).1.length nc) (Pl.iL p.got).1.length ((Pl.iL p.got).1.map tx):=((hf.Eb.rowAt (fun b=>iZ b=.out) (fun g hg=>hnew g 3 (hf.nk g hg) af af)).weak).go xF (fun _ _ f=>f) (fun _ _ e=>e);have hr2:bM (fun b=>iZ b=.ro) false W2 1 (.slice ra (Pl.dJ p.got p.place).1.1.length rc) (Pl.dJ p.got p.place).1.1.length ((Pl.dJ p.got p.place).1.1.map fun(n:Nat)=>I n):=((hf.row.rowAt (fun b=>iZ b=.ro) (fun g hg=>by rw[GH];simp only;rw[if_pos (hf.rk g hg)])).weak).go xF (fun _ _ f=>f) (fun _ _ e=>e);have hp2:bM (fun b=>iZ b=.out) false W2 1 (.slice ga (Pl.dJ p.got p.place).1.2.length gc) ((Pl.dJ p.got p.place).1.2.map (·.map Pl.kI)).length wS:=by
   rw[aQ];exact((hf.Gi.rowAt (fun b=>iZ b=.out) (fun g hg=>hnew g 5 (hf.pk g hg) af af)).weak).go xF (fun _ _ f=>f) (fun _ _ e=>e)
  have MR:∀(i:Nat)v l,wS[i]?=some v→((Pl.dJ p.got p.place).1.2.map (·.map Pl.kI))[i]?=some l→bM (fun b=>iZ b=.out) false W2 3 v l.length (l.flatMap wL):=fun i v l a b=>by
   rw[aN]at b;cases hq:(Pl.dJ p.got p.place).1.2[i]? with
   |none=>rw[hq]at b;cases b
   |some l0=>
    rw[hq]at b;obtain rfl:=Option.some.inj b;have hl0:=(hf.lists i v l0 a hq).go (C':=fun b=>iZ b=.out) xF (fun _ _ f=>f) (fun b _ e=>hnew b 6 e af af);have e:l0.flatMap yV=(l0.map Pl.kI).flatMap wL:=by
     rw[List.flatMap_map];refine Ir (fun x hx=>?_);have:=(hpp l0 (List.mem_of_getElem? hq)).2 x hx;show yV x=wL (Pl.kI x);unfold yV wL Pl.kI;rw[Pl.QE _ this]
    rw[aQ,←e];exact hl0
  have ajm:(Pl.iL p.got).1.length≤4:=by
   unfold Pl.fJ at hnm;simp at hnm;exact hnm.1.1.2
  have Iu:∀l∈(Pl.dJ p.got p.place).1.2.map (·.map Pl.kI),(Pl.iL p.got).1.length≤l.length∧∀x∈l,x.place≤100000∧x.length≤100000:=fun l hl=>by
   obtain⟨l0,hl0,rfl⟩:=List.mem_map.1 hl;refine⟨by rw[aQ,(hpp l0 hl0).1];exact aK _,fun x hx=>?_⟩;obtain⟨i,hi⟩:=List.getElem?_of_mem hl0;have hi':i<(Pl.dJ p.got p.place).1.1.length:=by rw[←hgl];exact(aL.1 hi).1
   have hmem:(⟨(Pl.dJ p.got p.place).1.1[i],l0.map Pl.kI⟩:Pl.eu)∈Pl.lU (Pl.dJ p.got p.place).1.1 (Pl.dJ p.got p.place).1.2:=by
    unfold Pl.lU;refine List.mem_of_getElem? (i:=i) ?_;rw[List.getElem?_zipWith,ay hi',hi]
   have:=(adP.groups _ hmem).ends x hx;omega
  have hcl:∀bD,Pl.kJ r.want (Pl.iL p.got).1=some bD→bD.length≤4∧∀c∈bD,c<(Pl.iL p.got).1.length:=fun bD e=>by
   rw[Pl.yQ _ _ hnm]at e;obtain⟨c1,-,c3,-⟩:=Pl.vL _ _ _ e;refine⟨?_,c3⟩;rw[c1];unfold Pl.dU;split
   ·rename_i hw;unfold Pl.fJ at hw;simp at hw;exact hw.1.1.2
   ·simp
  have yx:=hide (MQ iZ W2 Y r bJ nv pv rv _ _ _ (Pl.iL p.got).1 (Pl.dJ p.got p.place).1.1 ((Pl.dJ p.got p.place).1.2.map (·.map Pl.kI)) wS h2 t4 hn2 hr2 (by rw[aQ];rw[aQ]at hp2;exact hp2) (by rw[aQ];exact hf.iA) MR af hok.want (by rw[aQ];omega) Iu hcl hok.gap);have F0:=bF.cell 0;have F1:=bF.cell 1;have F2:=bF.cell 2;simp only[au]at F0 F1 F2;clear Iu hcl MR hp2 hr2 hn2 adP hpp hrw hfo hnm GH hsame htop hnew hg6 hgl hf hyes Vb hk1 ajm d0 d1 d2 d3 d4 d5 d6 d7 d8 c0
  go_wp2_with (go_at_call 110;refine(bH yx).mono ?_;rintro e W3 ⟨MW,XQ,Pq,Vd,tv3,rfl,uR,hW3,ht3⟩)
  go_end0
  rw[HW.out];exact ny.mk MW XQ Pq Vd tv3 rfl uR (hW2.trans hW3) ht3
theorem aaE (col:bU)(w:World)(Y:Nat)(r:Pl.cO)(bJ:List Value)(nv pv rv tv:Value)(p:Pl.bQ)(xq:Value)(h:dK col w Y r bJ nv pv rv tv)(sJ:r.there=[]→tv=.slice none 0 0)(hq:jG col w xq p.parts)(hok:Nk r p)(hk0:¬p.kind=0)(hk1:¬p.kind=1):
 Calls Tryz.prog 93 #[PtrTo Y 0,.agg (dx xq p).toArray] w fun e w'=>ny col w w' e Y (Pl.dN r p) nv:=by
 obtain⟨xa,xc,rfl,hxc,-⟩:=hq.get;have Nl:=hide hk0;clear hk0;have Yd:=hide hk1;clear hk1;have hag:(Value.agg (dx (.slice xa p.parts.length xc) p).toArray)=.agg #[.int .i64 p.kind,.int .i64 p.place,.int .i64 p.length,.string ⟨p.got.toArray⟩,.int .i64 p.failed,.int .i64 p.id,.int .i64 p.due,.int .i64 p.turn,.slice xa p.parts.length xc]:=rfl;rw[hag];have x0:Ext w (w.alloc (.cells #[.int .i64 p.kind,.int .i64 p.place,.int .i64 p.length,.string ⟨p.got.toArray⟩,.int .i64 p.failed,.int .i64 p.id,.int .i64 p.due,.int .i64 p.turn,.slice xa p.parts.length xc] 121)):=ax.alloc _;have b0:=bK.bO w [.int .i64 p.kind,.int .i64 p.place,.int .i64 p.length,.string ⟨p.got.toArray⟩,.int .i64 p.failed,.int .i64 p.id,.int .i64 p.due,.int .i64 p.turn,.slice xa p.parts.length xc] 121;have h0:=h.ext x0;have hq0:jG col _ (.slice xa p.parts.length xc) p.parts:=bM.go hq x0 (fun _ _ f=>f) (fun _ _ e=>e);clear hag;go_enter Tryz.func93,Tryz.ntmps93
 go_upto_region 1 with fail
 generalize w.alloc (.cells #[.int .i64 p.kind,.int .i64 p.place,.int .i64 p.length,.string ⟨p.got.toArray⟩,.int .i64 p.failed,.int .i64 p.id,.int .i64 p.due,.int .i64 p.turn,.slice xa p.parts.length xc] 121)=W0 at*;have hk0:=Nl.out;have hk1:=Yd.out;have d0:=b0.cell 0;have d1:=b0.cell 1;have d2:=b0.cell 2;have d3:=b0.cell 3;have d4:=b0.cell 4;have d5:=b0.cell 5;have d6:=b0.cell 6;have d7:=b0.cell 7;have d8:=b0.cell 8;have c0:=h0.blk.cell 0;simp only[dm,I,au]at d0 d1 d2 d3 d4 d5 d6 d7 d8 c0;have hz:((p.kind:Int)==0)=false:=by simp[hk0]
 obtain⟨t1,t2,t3,t4,t5,t6⟩:=hok.pages hk0 hk1;have hz1:((p.kind:Int)==1)=false:=by
  have:¬(p.kind:Int)=1:=af;simpa using this
 have HPG:=hide (Rx col W0 Y r bJ nv pv rv tv p _ h0 hq0 t1 t2 t3 t4 t5 t6);have HW:Hid (Pl.dN r p=Pl.iB p p.parts r):=by
  show _=_;unfold Pl.dN;rw[if_neg hk0,if_neg hk1]
 have htl:=Cm p p.parts r;have Y4:=hide htl;clear htl
 go_wp2_with (go_at_call 111;refine(bH HPG).mono ?_;rintro e W3 ⟨rfl,MW,uR,hW3⟩)
 go_end0
 rw[HW.out];refine ny.mk MW bJ _ _ _ rfl uR ((cu.ext x0).trans hW3) (fun e=>sJ ?_);have:=Y4.out;rw[e]at this;exact aT this.symm
theorem R7 (col:bU)(w:World)(Y:Nat)(r:Pl.cO)(bJ:List Value)(nv pv rv tv:Value)(p:Pl.bQ)(xq:Value)(h:dK col w Y r bJ nv pv rv tv)(sJ:r.there=[]→tv=.slice none 0 0)(hq:jG col w xq p.parts)(hok:Nk r p):
 Calls Tryz.prog 93 #[PtrTo Y 0,.agg (dx xq p).toArray] w fun e w'=>ny col w w' e Y (Pl.dN r p) nv:=by
 by_cases hk0:p.kind=0
 ·exact aaC col w Y r bJ nv pv rv tv p xq h sJ hq hok hk0
 ·by_cases hk1:p.kind=1
  ·exact aaD col w Y r bJ nv pv rv tv p xq h sJ hq hok hk0 hk1
  ·exact aaE col w Y r bJ nv pv rv tv p xq h sJ hq hok hk0 hk1
theorem uG :∀(f i n:Nat)(r:Pl.cO),(Pl.fZ f i n r).there=r.there
 |0,_,_,_=>rfl
 |f+1,i,n,r=>by
  unfold Pl.fZ;split
  ·split
   ·exact uG f _ _ _
   ·split
    ·rw[uG f];rfl
    ·exact uG f _ _ _
  ·rfl
theorem R8 (r:Pl.cO):(Pl.iQ r).there=r.there:=uG _ _ _ _
inductive Ak (col:bU)(w w':World)(e:Ending)(Y:Nat)(r:Pl.cO)(v:Int)(nv:Value):Prop
 |mk (bV:bU) (wM:List Value) (pv' rv' tv':Value) (he:e=.returned (.int .i64 v)) (hr:dK bV w' Y r wM nv pv' rv' tv') (hw:cu col w w' bV) (ht:r.there=[]→tv'=.slice none 0 0):Ak col w w' e Y r v nv
structure adQ (r:Pl.cO)(id:Int)(data:List UInt8):Prop where
 few:r.pieces.length≤1000
 now:r.now≤1000000000000
 fails:r.fails≤1000000000000
 made:r.made≤1000000000000
 tries:r.tries≤100
 pF:∀p∈r.pieces,p.length≤5000∧p.got.length≤p.length∧p.place≤5000
 failed:∀i,Pl.iO r id=some i→(Pl.jE r i).failed≤10
 whole:∀i,Pl.iO r id=some i→data.length≤(Pl.jE r i).length-(Pl.jE r i).got.length→¬((Pl.jE r i).got++data).length<(Pl.jE r i).length→Nk {r with pieces:=r.pieces.modify i fun p=>{p with got:=p.got++data,id:=0} } (Pl.jE {r with pieces:=r.pieces.modify i fun p=>{p with got:=p.got++data,id:=0} } i)
 after:∀i,Pl.iO r id=some i→data.length≤(Pl.jE r i).length-(Pl.jE r i).got.length→¬((Pl.jE r i).got++data).length<(Pl.jE r i).length→(Pl.dN {r with pieces:=r.pieces.modify i fun p=>{p with got:=p.got++data,id:=0} } (Pl.jE {r with pieces:=r.pieces.modify i fun p=>{p with got:=p.got++data,id:=0} } i)).made≤100000000000000∧(Pl.dN {r with pieces:=r.pieces.modify i fun p=>{p with got:=p.got++data,id:=0} } (Pl.jE {r with pieces:=r.pieces.modify i fun p=>{p with got:=p.got++data,id:=0} } i)).pieces.length≤1000∧∀p∈(Pl.dN {r with pieces:=r.pieces.modify i fun p=>{p with got:=p.got++data,id:=0} } (Pl.jE {r with pieces:=r.pieces.modify i fun p=>{p with got:=p.got++data,id:=0} } i)).pieces,p.length≤1000000∧p.got.length≤1000000
theorem OV (col:bU)(w:World)(Y:Nat)(r:Pl.cO)(id:Int)(data:List UInt8)(bJ:List Value)(nv pv rv tv:Value)(h:dK col w Y r bJ nv pv rv tv)(sJ:r.there=[]→tv=.slice none 0 0)(hok:adQ r id data)(hd:data.length≤1000000000):
 Calls Tryz.prog 66 #[PtrTo Y 0,.int .i64 id,tx data] w fun e w'=>Ak col w w' e Y (Pl.fF r id data).1 (Pl.fF r id data).2 nv:=by
 change Calls Tryz.prog 66 #[PtrTo Y 0,.int .i64 id,.string ⟨data.toArray⟩] w _;have HF:=hide (Jb col w Y r id bJ nv pv rv tv h hok.few);obtain⟨pa,pc,rfl,hpc⟩:=h.inn.pieces.shape;have c7:=h.blk.cell 7;simp only[dm,I,au]at c7;have hpl:=hok.few;cases l8:Pl.iO r id with
 |none=>
  rw[l8]at HF;have HE:Hid (Pl.fF r id data=(r,3)):=by show _=_;unfold Pl.fF;rw[l8]
  go_enter Tryz.func66,Tryz.ntmps66
  go_wp2_with (go_at_call 92;refine(bH HF).mono ?_;rintro e w1 ⟨rfl,hw1⟩;have Ye:=hw1.symm;subst Ye;clear hw1;try simp only[pE])
  go_ret;rw[HE.out];exact Ak.mk col bJ _ _ _ rfl h (cu.refl _ _) sJ
 |some i=>
  rw[l8]at HF;have hil:i<r.pieces.length:=by
   unfold Pl.iO at l8;split at l8
   ·exact(List.findIdx?_eq_some_iff_findIdx_eq.1 l8).1
   ·cases l8
  obtain⟨g,cap,he,-,oh,-⟩:=h.inn.pieces.at af;cases he;obtain⟨xv,hxv,hce⟩:=h.piece i hil;have EZ:Pl.jE r i=r.pieces[i]:=by unfold Pl.jE;rw[aC,ay hil];rfl
  have hpi:r.pieces[i]?=some r.pieces[i]:=ay hil;have hxp:=h.inn.parts i xv _ hxv hpi;have hpb:=hok.pF _ (aJ hil);obtain⟨p,hp⟩:∃p,p=r.pieces[i]:=⟨_,rfl⟩
  rw[←hp]at hce EZ hpi hxp hpb;obtain⟨xa,xc,rfl,hxc,-⟩:=hxp.get;have e0:=hce 0 af;have e1:=hce 1 af;have e2:=hce 2 af;have e3:=hce 3 af;have e4:=hce 4 af;have e5:=hce 5 af;have e6:=hce 6 af;have e7:=hce 7 af;have e8:=hce 8 af;simp only[dx,I,tx,au,Nat.add_zero]at e0 e1 e2 e3 e4 e5 e6 e7 e8;have i0:(0:Int)≤(i:Int):=af;have i1:(i:Int)<(r.pieces.length:Int):=af;have i2:decide ((i:Int)<0)=false:=aG af;have x1:Ext w (w.alloc (.cells #[.int .i64 p.kind,.int .i64 p.place,.int .i64 p.length,.string ⟨p.got.toArray⟩,.int .i64 p.failed,.int .i64 p.id,.int .i64 p.due,.int .i64 p.turn,.slice xa p.parts.length xc] 121)):=ax.alloc _;have b1:=bK.bO w [.int .i64 p.kind,.int .i64 p.place,.int .i64 p.length,.string ⟨p.got.toArray⟩,.int .i64 p.failed,.int .i64 p.id,.int .i64 p.due,.int .i64 p.turn,.slice xa p.parts.length xc] 121;have HP:=hide hp;have DU:=hide EZ;have HXV:=hide hxv;clear hp hce hxv hpi EZ;go_enter Tryz.func66,Tryz.ntmps66
  go_upto_region 5 with(go_at_call 92;refine(bH HF).mono ?_;rintro e w1 ⟨rfl,hw1⟩;have Ye:=hw1.symm;subst Ye;clear hw1;try simp only[pE])
  generalize w.alloc (.cells #[.int .i64 p.kind,.int .i64 p.place,.int .i64 p.length,.string ⟨p.got.toArray⟩,.int .i64 p.failed,.int .i64 p.id,.int .i64 p.due,.int .i64 p.turn,.slice xa p.parts.length xc] 121)=W1 at*;have h1:=h.ext x1;have d2:=b1.cell 2;have d3:=b1.cell 3;have JA:=x1.cell c7 (fun f=>f);simp only[au]at d2 d3;clear e0 e1 e2 e3 e4 e5 e6 e7 e8 c7 HF;have hs1:IntKind.i64.wrap ((p.length:Int)-(p.got.length:Int))=(p.length:Int)-(p.got.length:Int):=by simp[IntKind.wrap,IntKind.bits,IntKind.signed];omega
  by_cases Ls:p.length-p.got.length<data.length
  ·have HE:Hid (Pl.fF r id data=(r,4)):=by show _=_;unfold Pl.fF;rw[l8];simp only;rw[DU.out,if_pos Ls]
   have g1:decide ((p.length:Int)-(p.got.length:Int)<(data.length:Int))=true:=aH af
   go_wp2_with fail
   go_ret;rw[HE.out];exact Ak.mk col bJ _ _ _ rfl h1 (cu.ext x1) sJ
  ·have g1:decide ((p.length:Int)-(p.got.length:Int)<(data.length:Int))=false:=aG af;by_cases hd0:data=[]
   ·have HE:Hid (Pl.fF r id data=Pl.iV r id):=by show _=_;unfold Pl.fF;rw[l8];simp only;rw[DU.out,if_neg Ls,if_pos (by rw[hd0];rfl)]
    have g2:(data==[])=true:=by simp[hd0]
    have HFL:=hide (Jc col W1 Y r id bJ nv _ rv tv h1 hpl ⟨hok.now,hok.fails,hok.tries⟩ hok.failed);have HTH:Hid ((Pl.iV r id).1.there=r.there):=by
     show _=_;unfold Pl.iV;rw[l8];simp only;unfold Pl.rA;split<;>rfl
    go_wp2_with (go_at_call 67;refine(bH HFL).mono ?_;rintro e W2 ⟨rfl,hR2,k2⟩)
    go_ret;rw[HE.out];exact Ak.mk col bJ _ _ _ rfl hR2 ((cu.ext x1).trans ⟨k2,fun _ _=>rfl⟩) (fun e=>sJ (by rw[←HTH.out];exact e))
   ·have g2:(data==[])=false:=by simpa using hd0
    have Iw:(ByteArray.mk p.got.toArray)++(ByteArray.mk data.toArray)=⟨(p.got++data).toArray⟩:=ByteArray.mk_append_mk ..;have hsm:(9223372036854775807<p.got.length+data.length)=False:=eq_false af;have hout:col w.heap.size=.out:=h.inn.top _ (aK _)
    go_upto_region 9 with fail
    have hS0:W1.drew.cell? ⟨Y,7,none⟩=some (.slice (some ⟨g,0,none⟩) r.pieces.length pc)∧W1.drew.cell? ⟨w.heap.size,3,none⟩=some (.string ⟨p.got.toArray⟩):=⟨JA,d3⟩
    refine bZ (n:=11) (fun u=>u.cell? ⟨Y,7,none⟩=some (.slice (some ⟨g,0,none⟩) r.pieces.length pc)∧u.cell? ⟨w.heap.size,3,none⟩=some (.string ⟨p.got.toArray⟩)) (by kernel_rfl) ?_;generalize hWd:W1.drew=Wd at hS0⊢;have xd:Ext W1 Wd:=by rw[←hWd];exact ax.drew
    clear hWd;have h1d:=h1.ext xd;have bd:=b1.kept xd (fun f=>f);obtain⟨xw,hxw,Yf⟩:=h1d.piece i hil;rw[←HP.out]at Yf;have e3:=Yf 3 af;have hf3:=h1d.may i 3 hil af;simp only[dx,I,tx,au]at e3;clear Yf;refine Late.t 0 [11] rfl hS0 ?_;refine Late.t 1 [11] rfl hS0 ?_;refine Late.t 2 [11] rfl hS0 ?_;refine Late.t 3 [11] rfl hS0 ?_;refine Late.t 4 [11] rfl hS0 ?_;refine Late.t 5 [11] rfl hS0 ?_;refine Late.t 6 [11] rfl hS0 ?_;refine Late.t 7 [11] rfl hS0 ?_;refine Late.t 8 [11] rfl hS0 ?_;refine Late.t 9 [10,11] rfl hS0 ?_;refine Late.t 10 [11] rfl hS0 ?_;refine Late.o 11 rfl (fun K hK=>?_);go_simp;refine hK _ _ (fun h=>absurd rfl h) ?_;clear hK K;try simp only[lX]
    refine Late.done (by kernel_rfl) ?_ _;obtain⟨h2,k2⟩:=h1d.same.CZ rfl 3 hil af (tx (p.got++data)) (fun q=>{q with got:=p.got++data}) (fun q=>{q with got:=p.got++data}) (fun _ _=>by simp[dx]) (fun _=>rfl) (fun _=>rfl);have b2:=bd.kept k2 (fun e=>e hout);have c7b:=h2.blk.cell 7;simp only[dm,I,au]at c7b;have QV:i<({r with pieces:=r.pieces.modify i (fun q=>{q with got:=p.got++data})}:Pl.cO).pieces.length:=by simpa using hil
    obtain⟨qB,-,adR⟩:=h2.piece i QV;have e5:=adR 5 af;have hf5:=h2.may i 5 QV af;simp only[dx,I,tx,au]at e5;clear adR hS0 e3 hf3
    go_upto_region 10 with fail
    generalize Wd.setCell ⟨g,i*9+3,none⟩ (tx (p.got++data))=W2 at*;obtain⟨h3,k3⟩:=h2.CZ rfl 5 hil af (.int .i64 0) (fun q=>{q with id:=0}) (fun q=>{q with got:=p.got++data,id:=0}) (fun _ _=>by simp[dx,I]) (fun _=>rfl) (fun _=>rfl);have hms:r.pieces.modify i (fun q=>{q with got:=p.got++data,id:=0})=r.pieces.modify i (fun q=>{q with got:=q.got++data,id:=0}):=uE r.pieces i hil _ _ (by rw[←HP.out]);rw[hms]at h3;have b3:=b2.kept k3 (fun e=>e hout)
    go_upto_region 11 with fail
    generalize W2.setCell ⟨g,i*9+5,none⟩ (.int .i64 0)=W3 at*;clear e5 hf5 c7b JA d2 d3 hms;obtain⟨r1,hr1⟩:∃r1:Pl.cO,r1={r with pieces:=r.pieces.modify i fun p=>{p with got:=p.got++data,id:=0} }:=⟨_,rfl⟩
    rw[←hr1]at h3;have hl1:r1.pieces.length=r.pieces.length:=by rw[hr1];simp
    have Np:i<r1.pieces.length:=af;have R9:r1.pieces[i]'Np={p with got:=p.got++data,id:=0}:=by
     have e:r1.pieces=r.pieces.modify i fun p=>{p with got:=p.got++data,id:=0}:=by rw[hr1]
     simp only[e,List.getElem_modify_eq];rw[←HP.out]
    have EZ:Pl.jE r1 i={p with got:=p.got++data,id:=0}:=by unfold Pl.jE;rw[aC,ay Np,R9];rfl
    have adS:r1.there=[]→tv=.slice none 0 0:=by rw[hr1];exact sJ
    have hm1:r1.made=r.made:=by rw[hr1]
    have HWK:=hide (hok.whole i l8 (by rw[DU.out];omega));have HAF:=hide (hok.after i l8 (by rw[DU.out];omega));rw[DU.out,←hr1,EZ]at HWK HAF;have HE:Hid (Pl.fF r id data=(if(p.got++data).length<p.length then Pl.fB r1 i else Pl.iQ (Pl.dN r1 {p with got:=p.got++data,id:=0}),0)):=by
     show _=_;unfold Pl.fF;rw[l8];simp only;rw[DU.out,if_neg Ls,if_neg (fun e=>hd0 (aT e))];unfold Pl.uN;simp only;rw[DU.out,←hr1,EZ]
    have HTH:Hid (r1.there=r.there):=by show _=_;rw[hr1]
    have hmd:=hok.made;clear hr1;obtain⟨yu,ajn,R_⟩:=h3.piece i Np;rw[R9]at R_;have Yg:=h3.inn.parts i yu _ ajn (ay Np);rw[R9]at Yg;obtain⟨Ca,xc3,hxe,-,-⟩:=Yg.get;subst hxe;have q3:=R_ 3 af;have c7c:=h3.blk.cell 7;have D2:=b3.cell 2;simp only[dm,dx,I,tx,au,←hl1]at q3 c7c D2;rw[←hl1]at i1;have AO:=hide R_;have hWt:cu col w W3 col:=((cu.ext x1).trans (cu.ext xd)).trans (⟨k2.trans k3,fun _ _=>rfl⟩);clear R_ R9 EZ;by_cases hsh:(p.got++data).length<p.length
    ·have j1:decide (((p.got++data).length:Int)<(p.length:Int))=true:=aH af;have j2:decide ((p.got.length:Int)+(data.length:Int)<(p.length:Int))=true:=aH (by rw[aD]at hsh;omega);have j3:decide (p.got.length+data.length<p.length)=true:=aH (by rw[aD]at hsh;omega);go_quiet (fail);generalize MX:World.drewN _ _=W4;have x4:Ext W3 W4:=by rw[←MX];exact ax.drewN _
     clear MX;have HM:=hide (Bu col W4 Y r1 i bJ nv _ rv tv (h3.ext x4) Np af af);have HE':Hid (Pl.fF r id data=(Pl.fB r1 i,0)):=by show _=_;rw[HE.out,if_pos hsh]
     go_wp2_with (go_at_call 69;refine(bH HM).mono ?_;rintro e W5 ⟨rfl,nE,k5,-⟩)
     go_ret;rw[HE'.out];exact Ak.mk col bJ _ _ _ rfl nE ((hWt.trans (cu.ext x4)).trans ⟨k5,fun _ _=>rfl⟩) adS
    ·have j1:decide (((p.got++data).length:Int)<(p.length:Int))=false:=aG af;have j2:decide ((p.got.length:Int)+(data.length:Int)<(p.length:Int))=false:=aG (by rw[aD]at hsh;omega);have j3:decide (p.got.length+data.length<p.length)=false:=aG (by rw[aD]at hsh;omega);go_quiet (fail);generalize MX:World.drewN _ _=W4;have x4:Ext W3 W4:=by rw[←MX];exact ax.drewN _
     clear MX;have HE':Hid (Pl.fF r id data=(Pl.iQ (Pl.dN r1 {p with got:=p.got++data,id:=0}),0)):=by show _=_;rw[HE.out,if_neg hsh]
     have HWH:=hide (R7 col W4 Y r1 bJ nv _ rv tv {p with got:=p.got++data,id:=0} _ (h3.ext x4) adS (bM.go Yg x4 (fun _ _ f=>f) (fun _ _ e=>e)) (HWK.out hsh));have hAF:=HAF.out hsh;have q0:=x4.cell (AO.out 0 af) (fun f=>f);have q1:=x4.cell (AO.out 1 af) (fun f=>f);have q2:=x4.cell (AO.out 2 af) (fun f=>f);replace q3:=x4.cell q3 (fun f=>f);have q4:=x4.cell (AO.out 4 af) (fun f=>f);have q5:=x4.cell (AO.out 5 af) (fun f=>f);have q6:=x4.cell (AO.out 6 af) (fun f=>f);have q7:=x4.cell (AO.out 7 af) (fun f=>f);have q8:=x4.cell (AO.out 8 af) (fun f=>f);replace c7c:=x4.cell c7c (fun f=>f);simp only[I,Nat.add_zero]at q0 q1 q2 q4 q5 q6 q7 q8;generalize Pl.dN r1 {p with got:=p.got++data,id:=0}=r2 at*;obtain⟨m1,m2,m3⟩:=hAF
     go_wp2_with (first|(go_at_call 64;refine(Ld _ _ _ _ _ _ _ _ _ nE m1 m2 m3).mono ?_;rintro e W6 ⟨rfl,l9,k6⟩)|(go_at_call 93;refine(bH HWH).mono ?_;rintro e W5 ⟨ajo,ajp,pv5,Em,tv5,rfl,nE,hW5,ZB⟩))
     go_ret;rw[HE'.out];refine Ak.mk ajo ajp _ _ _ rfl l9 (((hWt.trans (cu.ext x4)).trans hW5).trans ⟨k6,fun _ _=>rfl⟩) (fun e=>ZB (by rw[←(R8 r2)];exact e))
section
open Pl
theorem gB.found {m:Sc}{r:cO}{N:Nat}(h:gB m r)(hi:fQ m)(hg:Good m N){id:Int}{k:Nat}(hf:iO r id=some k):
 yZ m r∧∃i A p B,gM m.asked id=some i∧k=A.length∧r.pieces=A++p::B∧jE r k=p∧p.got.length<p.length∧RV m.size m.tries (eX r.rows p)∧m.tries≤4∧∃L,Core m (eX r.rows p::L) N:=by
 rcases h with⟨why,h1,rfl,h2⟩|h
 ·rw[y5 af]at hf;cases hf
 ·refine⟨h,?_⟩;have hgo:=hg.going h.AU;rcases h.line.find hi h.sH id with⟨a,b⟩|⟨i,A,p,B,a,b,hr,hid,h0,hd,hpt,hpe⟩
  ·rw[b]at hf;cases hf
  ·rw[b]at hf;obtain rfl:=Option.some.inj hf;have hpc:jE r A.length=p:=by unfold jE;rw[hr];exact qV A p B
   have hpm:p∈r.pieces:=by rw[hr];simp
   have hgl:=(h.got p hpm).2 (.inl h0);have hil:i<m.asked.length:=by
    unfold gM at a;exact(List.findIdx?_eq_some_iff_findIdx_eq.1 a).1
   obtain⟨hc,hpo⟩:=hgo.taken i hil;rw[hpt]at hc hpo;refine⟨i,A,p,B,a,rfl,hr,hpc,hgl,hpo,hgo.1.tries,partsOf (dF m i),?_⟩;exact⟨hc.state,hc.size,hc.want,hc.gap,hc.win,hc.pI,hc.tries,hc.dh,hc.parts,hc.ahead,hc.qF,hc.opened,hc.uF,hc.first,hc.rows,hc.bW⟩
theorem gB.aeb {m:Sc}{r:cO}{N:Nat}(h:gB m r)(hi:fQ m)(hg:Good m N)(hb:RB N r)(hN:N≤100000000000)(id:Int)(data:List UInt8):adQ r id data:=by
 have EP:=(gB.answer h hi hg id data).2;refine⟨aO hb.few af,aO hb.now af,aO hb.fails af,aO hb.made af,aO hb.tries af,hb.pc,fun k hk=>?_,fun k hk hd hw=>?_,fun k hk hd hw=>?_⟩
 ·obtain⟨hs,i,A,p,B,-,rfl,hr,hpc,hgl,hpo,ht,-⟩:=h.found hi hg hk;rw[hpc];have:p.failed+1≤m.tries:=hpo.fails;omega
 ·obtain⟨hs,i,A,p,B,-,rfl,hr,hpc,hgl,hpo,ht,L,hc⟩:=h.found hi hg hk;rw[hpc]at hd hw;have hmod:(r.pieces.modify A.length fun p=>{p with got:=p.got++data,id:=0})=A++{p with got:=p.got++data,id:=0}::B:=by rw[hr,oo]
  rw[hmod];have hget:jE {r with pieces:=A++{p with got:=p.got++data,id:=0}::B} A.length={p with got:=p.got++data,id:=0}:=qV A _ B;rw[hget];have kK:(p.got++data).length=p.length:=by rw[aD]at hw⊢;omega
  have hpm:p∈r.pieces:=by rw[hr];simp
  have hsz:r.size≤4000:=hb.size;refine⟨fun hk0=>?_,fun hk1=>?_,fun hk0 hk1=>?_,aO hb.gap af,hb.want⟩
  ·refine⟨?_,hsz⟩;rcases hs.phase with⟨p0,hf0⟩|hpg
   ·have hpp:=hf0.pieces;rw[hr]at hpp;obtain⟨rfl,rfl,rfl⟩:=zB hpp;show(p.got++data).length=6;rw[kK];rcases hf0.kind with⟨-,e⟩|⟨e,-⟩
    ·exact e
    ·have:p.kind=0:=hk0;omega
   ·have:=hpg.kinds p hpm;have e:p.kind=0:=hk0;omega
  ·rcases hs.phase with⟨p0,hf0⟩|hpg
   ·have hpp:=hf0.pieces;rw[hr]at hpp;obtain⟨rfl,rfl,rfl⟩:=zB hpp;have e1:p.kind=1:=hk1;have he:=hf0.ends;rcases hf0.kind with⟨e,-⟩|⟨-,e2,e3⟩
    ·omega
    ·exact⟨by show(p.got++data).length≤4000;omega,by show 4≤p.place;omega,by show p.place≤4000;omega,hf0.there⟩
   ·have:=hpg.kinds p hpm;have e:p.kind=1:=hk1;omega
  ·rcases hs.phase with⟨p0,hf0⟩|hpg
   ·have hpp:=hf0.pieces;rw[hr]at hpp;obtain⟨rfl,rfl,rfl⟩:=zB hpp;rcases hf0.kind with⟨e,-⟩|⟨e,-⟩
    ·exact absurd e hk0
    ·exact absurd e hk1
   ·have hpk:=hpg.pF p hpm;have hrb:=hpg.rows;have hen:p.place+p.length≤5000:=hpk.ends;refine⟨?_,hrb.len,aO hpg.Va af,fun n hn=>by have:=hpg.rws n hn;omega,by show(p.got++data).length≤10000;omega,fun x hx=>?_⟩
    ·have:(p.parts.map (lq r.rows)).length≤4:=hpk.few;rw[aQ]at this;show p.parts.length≤1000;omega
    ·have hx':x∈p.parts:=hx;have Sg:=hpk.pages (lq r.rows x) (List.mem_map_of_mem hx');have hf1:p.place≤x.page.place:=Sg.first;have hf2:x.page.place+x.page.length≤p.place+p.length:=Sg.ends;have hf3:x.page.place≤1000000:=Sg.place;have afm:lq r.rows x∈pend (eX r.rows p::L) m.ahead:=by
      unfold pend;refine aI.2 (.inl (List.mem_flatMap.2 ⟨eX r.rows p,aj,?_⟩));show lq r.rows x∈mZ (qp r.rows p);rw[vO (hpg.kinds p hpm)];exact List.mem_map_of_mem hx'
     obtain⟨-,p2,p3⟩:=hc.rows.DX _ afm;have hcnt:=hrb.cnt;have hcl:=hc.rows.bD;refine⟨hf1,?_,?_,fun t ht=>?_,Sg.sum,hf3,?_⟩
     ·show x.page.place-p.place+x.page.length≤(p.got++data).length;omega
     ·show x.group<r.rows.length;have:x.group<m.rows.gone+m.rows.groups.length:=p2;omega
     ·rw[hrb.Ai x.group t ht];exact p3
     ·have:x.want<m.rows.columns:=p3;omega
 ·obtain⟨hs,i,A,p,B,-,rfl,hr,hpc,hgl,hpo,ht,L,hc⟩:=h.found hi hg hk;have hle:¬(jE r A.length).length-(jE r A.length).got.length<data.length:=af;have hd0:¬data.length=0:=fun e=>by
   rw[hpc,aD]at hw;omega
  have hRa:RB N {r with pieces:=r.pieces.modify A.length fun p=>{p with got:=p.got++data,id:=0} }:=by
   refine⟨by simpa using hb.few,fun s hs'=>?_,hb.made,hb.now,hb.fails,hb.size,hb.tries,hb.gap,hb.dh,hb.want⟩;obtain⟨q,hq,rfl⟩:=List.mem_map.1 hs';have hmod:(r.pieces.modify A.length fun p=>{p with got:=p.got++data,id:=0})=A++{p with got:=p.got++data,id:=0}::B:=by rw[hr,oo]
   have hq2:q∈A++{p with got:=p.got++data,id:=0}::B:=by rw[←hmod];exact hq
   have hpb:=hb.pc p (by rw[hr];simp);rw[hpc]at hd;rcases aI.1 hq2 with h1|h1
   ·exact hb.pc q (by rw[hr];simp[h1])
   ·rcases List.mem_cons.1 h1 with h2|h2
    ·subst h2;exact⟨hpb.1,by show(p.got++data).length≤p.length;rw[aD];omega,hpb.2.2⟩
    ·exact hb.pc q (by rw[hr];simp[h2])
  have hA:(fF r id data).1=iQ (dN {r with pieces:=r.pieces.modify A.length fun p=>{p with got:=p.got++data,id:=0} } (jE {r with pieces:=r.pieces.modify A.length fun p=>{p with got:=p.got++data,id:=0} } A.length)):=by
   unfold fF;rw[hk];simp only;rw[if_neg hle,if_neg hd0];unfold uN;simp only;rw[if_neg hw]
  rw[hA]at EP;generalize hr1:({r with pieces:=r.pieces.modify A.length fun p=>{p with got:=p.got++data,id:=0} }:cO)=r1 at*;have Ri:r1.state=0:=by rw[←hr1];exact hs.sH
  generalize jE r1 A.length=q at*;obtain⟨a1,-,-,-,-,-,-,-,a9⟩:=GD r1 q hRa;obtain⟨b0,-,-,-,b4⟩:=EY (dN r1 q);have hm1:r1.made≤N:=hRa.made;have hP:(dN r1 q).pieces.length≤24∧∀s∈(dN r1 q).pieces.map pK,Gy s:=by
   by_cases hq:(dN r1 q).state=0
   ·obtain⟨c1,c2⟩:=gB.pF EP (by rw[b4];exact hq);rw[b0.len]at c1;rw[b0.pK]at c2;exact⟨c1,c2⟩
   ·exact a9 hq Ri
  refine⟨af,af,fun p hp=>?_⟩;have:=hP.2 (pK p) (List.mem_map_of_mem hp);have e1:p.length≤5000:=this.1;have e2:p.got.length≤p.length:=this.2.1;omega
theorem gB.BU {m:Sc}{r:cO}{N:Nat}(h:gB m r)(hg:Good m N)(hb:RB N r)(h0:r.state=0):Sb r:=by
 rcases h with⟨why,h1,rfl,h2⟩|h
 ·exact absurd (h2.symm.trans h0) h1
 ·have hgo:=hg.going h.AU;rcases h.phase with⟨p,hf⟩|hp
  ·have e1:=hf.rows;have e2:=hf.there;refine⟨by rw[e1,e2];rfl,fun g t ht=>by rw[e2]at ht;simp at ht,fun g t l ht=>by rw[e2]at ht;simp at ht,by rw[e1];simp,by rw[e1];simp,hb.dh,by rw[hf.next];exact aM _,fun hn=>absurd e1 hn⟩
  ·have hr:=hp.rows;refine⟨hr.len,fun g t ht=>by rw[hr.Ai g t ht,hp.bD],hr.lens,hp.Va,fun n hn=>(hp.rws n hn).2,hb.dh,?_,fun _=>by rw[←hp.bD];exact hgo.1.rows.bD⟩;rw[hr.next];have hrow:=hgo.1.rows.row;have hsum:(r.rows.take m.rows.gone).sum+(r.rows.drop m.rows.gone).sum=r.rows.sum:=by rw[←List.sum_append,List.take_append_drop]
   rcases hrow with e|⟨G,rest,e,-,e2⟩
   ·omega
   ·obtain⟨g1,-⟩:=hr.nH 0 G (by rw[e];rfl);have hd:(r.rows.drop m.rows.gone)[0]?=some G.rows:=by rw[List.getElem?_drop];exact g1
    have:G.rows≤(r.rows.drop m.rows.gone).sum:=by
     cases hq:r.rows.drop m.rows.gone with
     |nil=>rw[hq]at hd;simp at hd
     |cons a t=>
      rw[hq]at hd;simp at hd;rw[List.sum_cons];omega
    omega
end
theorem mq.Ct {col:bU}{w:World}{X P:Nat}{m:Pl.Sc}(h:mq col w X m P):∀b,w.heap.size≤b→col b=.out:=by
 obtain⟨ps,qs,nv,av,wv,hv,gv,hr⟩:=h.sc;exact hr.inn.top
theorem NT (col:bU)(w:World)(Y:Nat)(r:Pl.cO)(bJ:List Value)(nv pv rv tv:Value)(h:dK col w Y r bJ nv pv rv tv):
 Calls Tryz.prog 42 #[PtrTo Y 0] w fun e w'=>e=.returned (.tuple #[])∧dK col w' Y (Pl.mG r) bJ nv pv rv tv∧Kp (Mine col) w w':=by
 have c6:=h.blk.cell 6;have f6:=h.blk.free 6;simp only[dm,I,au]at c6;have h1:=h.p8 6 (.int .i64 5) (r':={r with state:=5}) (by simp[dm,I]) ⟨h.inn.gP,h.inn.top,h.inn.names,h.inn.iA,h.inn.pieces,h.inn.cB,h.inn.parts,h.inn.rows,h.inn.there⟩;have k1:=h.p9 6 (.int .i64 5);have HH:=hide (And.intro h1 k1);clear h1 k1;by_cases hst:r.state=0
 ·have LB:(r.state:Int)=0:=af;have HR:Hid (Pl.mG r={r with state:=5}):=by show _=_;unfold Pl.mG;rw[if_pos hst]
  go_enter Tryz.func42,Tryz.ntmps42
  go_wp2_with fail
  go_end0
  rw[HR.out];exact⟨rfl,HH.out.1,HH.out.2⟩
 ·have LB:¬(r.state:Int)=0:=af;have HR:Hid (Pl.mG r=r):=by show _=_;unfold Pl.mG;rw[if_neg hst]
  go_enter Tryz.func42,Tryz.ntmps42
  go_wp2_with fail
  go_end0
  rw[HR.out];exact⟨rfl,h,Kp.refl _ _⟩
inductive kD (O:ig)(w w':World)(i:Nat)(p:Pr)(N:Nat):Prop
 |mk (O':ig) (p':Pr) (hp:iC O' w' i p' N) (hc:dR p'=dR p) (kp:Kp (fun b=>O b=.x i∨O b=.y i) w w') (ho:∀b,b<w.heap.size→O' b=O b) (ht:∀b,w'.heap.size≤b→O' b=.no):kD O w w' i p N
section
variable{O:ig}{w w1 w2:World}{i:Nat}{p:Pr}{N:Nat}{mD lH:bU}
theorem iC.aeh (h:iC O w i p N)(hN:N≤1000000000)(wx:cu p.cx w w1 mD)(id:Int)(l:List UInt8)(hl:l.length≤2000000):
 Calls Tryz.prog 66 #[PtrTo p.Y 0,.int .i64 id,tx l] w1 fun e w2=>e=.returned (.int .i64 (Pl.fF p.r id l).2)∧∃lH,l6 lH w2 p.Y (Pl.fF p.r id l).1∧cu p.cy w1 w2 lH:=by
 obtain⟨bJ,nv,pv,rv,tv,hr,ht⟩:=h.y1 wx;refine(OV p.cy w1 p.Y p.r id l bJ nv pv rv tv hr ht (gB.aeb h.sO h.ids h.x.2 h.rb af id l) af).mono ?_;rintro e w2 ⟨bV,wM,pv',rv',tv',he,hr',hw,ht'⟩;exact⟨he,bV,⟨wM,nv,pv',rv',tv',hr',ht'⟩,hw⟩
theorem iC.VG (h:iC O w i p N)(ht:∀b,w.heap.size≤b→O b=.no)(id:Int)(l:List UInt8)(hx:XG mD w1 p.X p.P (Pl.answer p.m id l).1 (N+24))(wx:cu p.cx w w1 mD)(hy:l6 lH w2 p.Y (Pl.fF p.r id l).1)(wy:cu p.cy w1 w2 lH):(Pl.answer p.m id l).2=(Pl.fF p.r id l).2∧kD O w w2 i p (N+25):=by
 obtain⟨e,hs⟩:=gB.answer h.sO h.ids h.x.2 id l;obtain⟨a,b,c,d⟩:=h.step (M:=N+25) ⟨hx.1,hx.2.mono af⟩ wx hy wy hs (h.ids.answer id l) (h.rb.answer id l hs) ht hx.1.Ct;exact⟨e,kD.mk _ _ a rfl b c d⟩
theorem iC.ZH (h:iC O w i p N)(hN:N≤1000000000)(wx:cu p.cx w w1 mD)(id:Int):
 Calls Tryz.prog 67 #[PtrTo p.Y 0,.int .i64 id] w1 fun e w2=>e=.returned (.int .i64 (Pl.iV p.r id).2)∧∃lH,l6 lH w2 p.Y (Pl.iV p.r id).1∧cu p.cy w1 w2 lH:=by
 obtain⟨bJ,nv,pv,rv,tv,hr,ht⟩:=h.y1 wx;have hok:=gB.aeb h.sO h.ids h.x.2 h.rb af id [];refine(Jc p.cy w1 p.Y p.r id bJ nv pv rv tv hr hok.few ⟨hok.now,hok.fails,hok.tries⟩ hok.failed).mono ?_;rintro e w2 ⟨he,hr',hk⟩;refine⟨he,p.cy,⟨bJ,nv,pv,rv,tv,hr',fun e=>ht ?_⟩,⟨hk,fun _ _=>rfl⟩⟩;rw[←e];unfold Pl.iV;split
 ·rfl
 ·unfold Pl.rA;split<;>rfl
theorem iC.Qg (h:iC O w i p N)(ht:∀b,w.heap.size≤b→O b=.no)(id:Int)(hx:XG mD w1 p.X p.P (Pl.fail p.m id).1 N)(wx:cu p.cx w w1 mD)(hy:l6 lH w2 p.Y (Pl.iV p.r id).1)(wy:cu p.cy w1 w2 lH):(Pl.fail p.m id).2=(Pl.iV p.r id).2∧kD O w w2 i p (N+25):=by
 obtain⟨e,hs⟩:=gB.fail h.sO h.ids id;obtain⟨a,b,c,d⟩:=h.step (M:=N+25) ⟨hx.1,hx.2.mono af⟩ wx hy wy hs (h.ids.fail id) (h.rb.fail id) ht hx.1.Ct;exact⟨e,kD.mk _ _ a rfl b c d⟩
theorem Cu :∀(f:Nat)(r:Pl.cO),(Pl.jh f r).there=r.there
 |0,_=>rfl
 |f+1,r=>by
  unfold Pl.jh;split
  ·rfl
  ·rw[Cu f];rfl
theorem iC.afn (h:iC O w i p N)(hN:N≤1000000000)(wx:cu p.cx w w1 mD):
 Calls Tryz.prog 37 #[PtrTo p.Y 0] w1 fun e w2=>e=.returned (.tuple #[])∧∃lH,l6 lH w2 p.Y (Pl.lG p.r)∧cu p.cy w1 w2 lH:=by
 obtain⟨bJ,nv,pv,rv,tv,hr,ht⟩:=h.y1 wx;refine(VE p.cy w1 p.Y p.r bJ nv pv rv tv hr (aO h.rb.few af) ⟨aO h.rb.now af,aO h.rb.made af⟩).mono ?_;rintro e w2 ⟨he,hr',hk⟩;refine⟨he,p.cy,⟨bJ,nv,pv,rv,tv,hr',fun e=>ht ?_⟩,⟨hk,fun _ _=>rfl⟩⟩;rw[←e];unfold Pl.lG;split
 ·rw[Cu]
 ·rfl
theorem iC.aaK (h:iC O w i p N)(ht:∀b,w.heap.size≤b→O b=.no)(hx:XG mD w1 p.X p.P (Pl.tick p.m) (N+4))(wx:cu p.cx w w1 mD)(hy:l6 lH w2 p.Y (Pl.lG p.r))(wy:cu p.cy w1 w2 lH):kD O w w2 i p (N+25):=by
 obtain⟨a,b,c,d⟩:=h.step (M:=N+25) ⟨hx.1,hx.2.mono af⟩ wx hy wy (gB.tick h.sO h.x.2) h.ids.tick h.rb.tick ht hx.1.Ct;exact kD.mk _ _ a rfl b c d
theorem iC.aaL (h:iC O w i p N)(wx:cu p.cx w w1 mD):
 Calls Tryz.prog 42 #[PtrTo p.Y 0] w1 fun e w2=>e=.returned (.tuple #[])∧∃lH,l6 lH w2 p.Y (Pl.mG p.r)∧cu p.cy w1 w2 lH:=by
 obtain⟨bJ,nv,pv,rv,tv,hr,ht⟩:=h.y1 wx;refine(NT p.cy w1 p.Y p.r bJ nv pv rv tv hr).mono ?_;rintro e w2 ⟨he,hr',hk⟩;refine⟨he,p.cy,⟨bJ,nv,pv,rv,tv,hr',fun e=>ht ?_⟩,⟨hk,fun _ _=>rfl⟩⟩;rw[←e];unfold Pl.mG;split<;>rfl
theorem fQ.cancels {m:Pl.Sc}(h:fQ m):fQ (Pl.cancel m):=by
 unfold Pl.cancel;split
 ·exact fQ.ended _
 ·exact h
theorem iC.VH (h:iC O w i p N)(ht:∀b,w.heap.size≤b→O b=.no)(hx:XG mD w1 p.X p.P (Pl.cancel p.m) N)(wx:cu p.cx w w1 mD)(hy:l6 lH w2 p.Y (Pl.mG p.r))(wy:cu p.cy w1 w2 lH):kD O w w2 i p (N+25):=by
 obtain⟨a,b,c,d⟩:=h.step (M:=N+25) ⟨hx.1,hx.2.mono af⟩ wx hy wy (gB.cancel h.sO) h.ids.cancels (h.rb.cancel.mono af) ht hx.1.Ct;exact kD.mk _ _ a rfl b c d
theorem iC.afo (h:iC O w i p N)(wx:cu p.cx w w1 mD):
 Calls Tryz.prog 39 #[PtrTo p.Y 0] w1 fun e w2=>((Pl.iE p.r).2=none∧e=.returned (.slice none 0 0)∨∃ls Lb vs,(Pl.iE p.r).2=some ls∧e=.returned (.slice (some ⟨Lb,0,none⟩) ls.length ls.length)∧iM (fun g=>w1.heap.size≤g) w2 Lb vs ls)∧l6 p.cy w2 p.Y (Pl.iE p.r).1∧cu p.cy w1 w2 p.cy:=by
 obtain⟨bJ,nv,pv,rv,tv,hr,ht⟩:=h.y1 wx;refine(Vj p.cy w1 p.Y p.r bJ nv pv rv tv hr (fun h0=>gB.BU h.sO h.x.2 h.rb h0)).mono ?_;rintro e w2 ⟨he,hr',hk⟩;refine⟨he,⟨bJ,nv,pv,rv,tv,hr',fun e=>ht ?_⟩,⟨hk,fun _ _=>rfl⟩⟩;rw[←e];unfold Pl.iE;split
 ·split<;>rfl
 ·rfl
theorem iC.aaM (h:iC O w i p N)(ht:∀b,w.heap.size≤b→O b=.no)(hx:XG p.cx w1 p.X p.P (Pl.next p.m).1 N)(wx:cu p.cx w w1 p.cx)(hy:l6 p.cy w2 p.Y (Pl.iE p.r).1)(wy:cu p.cy w1 w2 p.cy):iC (wZ O w p.cx p.cy i) w2 i {p with m:=(Pl.next p.m).1,r:=(Pl.iE p.r).1} (N+25)∧Kp (fun b=>O b=.x i∨O b=.y i) w w2∧(∀b,b<w.heap.size→wZ O w p.cx p.cy i b=O b)∧∀b,w.heap.size≤b→wZ O w p.cx p.cy i b=.no:=by
 obtain⟨-,hs⟩:=gB.next h.sO h.x.2;obtain⟨a,b,c,d⟩:=h.step (M:=N+25) ⟨hx.1,hx.2.mono af⟩ wx hy wy hs h.ids.next (h.rb.next.mono af) ht hx.1.Ct;refine⟨a,b,c,fun q hq=>?_⟩;unfold wZ;rw[if_neg af,if_neg (fun e=>e (h.x.1.Ct q hq)),if_neg (fun e=>e (h.y.top q hq))]
theorem mq.VI {col:bU}{X P:Nat}{m m':Pl.Sc}(h:mq col w X m P)(hs:iW (fun k=>if k=X then .out else col k) w1 P m')(hw:cu (fun k=>if k=X then .out else col k) w w1 (fun k=>if k=X then .out else col k)):mq col w1 X m' P∧cu col w w1 col:=by
 have hk:Kp (Mine col) w w1:=hw.kept.mono (fun i _ e=>by
  show col i≠.out;intro e2;apply e;by_cases hi:i=X
  ·simp only[if_pos hi]
  ·simp only[if_neg hi];exact e2)
 refine⟨⟨h.blk.kept hw.kept (fun e=>e aj),h.Hu,hs.Ad (fun i c h1 h2 e=>?_) (fun i hi=>h.Ct i (aO hk.size hi))⟩,hk,fun _ _=>rfl⟩;by_cases hi:i=X
 ·simp only[if_pos hi]at e;exact absurd e.symm h2
 ·simp only[if_neg hi]at e;exact e
theorem Sl (col:bU)(w:World)(X P:Nat)(m:Pl.Sc)(h:mq col w X m P)(hok:F_ m)(hleft:(Pl.dQ m.rows m.dh).2.left≤1000000000):
 Calls Tryz.prog 29 #[PtrTo X 0] w fun e w'=>((Pl.next m).2=none∧e=.returned (.slice none 0 0)∨∃ls Lb vs,(Pl.next m).2=some ls∧e=.returned (.slice (some ⟨Lb,0,none⟩) ls.length ls.length)∧iM (fun g=>w.heap.size≤g) w' Lb vs ls)∧mq col w' X (Pl.next m).1 P∧cu col w w' col:=by
 have c0:=h.blk.cell 0;simp only[aA]at c0;obtain⟨h1,-⟩:=h.inner;have HC:=hide (Ru _ w P m h1 hok hleft);have H0:=hide h;clear h h1 hok hleft;go_enter Tryz.func29,Tryz.ntmps29
 go_wp2_with fail
 refine(bH HC).mono ?_;rintro e w1 ⟨(⟨hn,rfl⟩|⟨ls,Lb,vs,hn,rfl,hx⟩),s1,g1⟩
 ·have HN:=hide hn;clear hn
  go_wp2_with fail
  go_ret;exact⟨.inl ⟨HN.out,rfl⟩,mq.VI H0.out s1 g1⟩
 ·have HN:=hide hn;have HX:=hide hx;clear hn hx
  go_wp2_with fail
  go_ret;exact⟨.inr ⟨ls,Lb,vs,HN.out,rfl,HX.out⟩,mq.VI H0.out s1 g1⟩
theorem Sm (col:bU)(w:World)(X P:Nat)(m:Pl.Sc)(N:Nat)(h:XG col w X P m N):
 Calls Tryz.prog 29 #[PtrTo X 0] w fun e w'=>((Pl.next m).2=none∧e=.returned (.slice none 0 0)∨∃ls Lb vs,(Pl.next m).2=some ls∧e=.returned (.slice (some ⟨Lb,0,none⟩) ls.length ls.length)∧iM (fun g=>w.heap.size≤g) w' Lb vs ls)∧XG col w' X P (Pl.next m).1 N∧cu col w w' col:=by
 obtain⟨⟨h1,h2⟩,h3⟩:=h.2.next;refine(Sl col w X P m h.1 h1 h2).mono ?_;rintro e w' ⟨he,hx,hw⟩;exact⟨he,⟨hx,h3⟩,hw⟩
end
theorem kD.cZ {O:ig}{w w1 w2:World}{i:Nat}{p:Pr}{N:Nat}(h:kD O w1 w2 i p N)(x:Ext w w1):kD O w w2 i p N:=by
 obtain⟨O',p',hp,hc,kp,ho,ht⟩:=h;exact kD.mk O' p' hp hc ((Kp.cZ x).trans kp) (fun b hb=>ho b (aY hb x.size)) ht
theorem kD.same {O:ig}{w:World}{i:Nat}{p:Pr}{N M:Nat}(h:iC O w i p N)(ht:∀b,w.heap.size≤b→O b=.no)(hM:N≤M):kD O w w i p M:=kD.mk O p (h.mono hM (h.x.2.mono hM)) rfl ax (fun _ _=>rfl) ht
inductive yF (O:ig)(w w':World)(e:Ending)(i:Nat)(p:Pr)(N:Nat):Prop
 |mk (he:e=.returned (.bool true)) (h:kD O w w' i p N):yF O w w' e i p N
theorem w_.any {w w':World}{e:Ending}{L:List (Nat×Nat×Nat)}{a:Int}(h:w_ w w' e L a):∃(t:Nat×Nat×Nat)(b:Bool),e=.returned (.tuple #[ZG t.1 t.2.1 t.2.2,.bool b])∧(b=true→t∈L)∧Ext w w':=by
 rcases h with⟨h,he,x⟩|⟨t,h,he,x⟩
 ·exact⟨(0,0,0),false,he,fun e=>by simp at e,x⟩
 ·exact⟨t,true,he,fun _=>h,x⟩
theorem Sn {r:Pl.cO}{t:Nat×Nat×Nat}(h:t∈Pl.jg r):∃p∈r.pieces,t.2.1=p.place+p.got.length∧t.2.2=p.length-p.got.length:=by
 unfold Pl.jg at h;split at h
 ·have key:∀k,t∈Pl.fK r.pieces k→∃p∈r.pieces,t.2.1=p.place+p.got.length∧t.2.2=p.length-p.got.length:=fun k=>by
   induction k with
   |zero=>intro h;simp[Pl.fK]at h
   |succ k ih=>
    intro h;unfold Pl.fK at h;rcases aI.1 h with h|h
    ·exact ih h
    ·unfold Pl.iT at h;obtain⟨p,hp,e⟩:=List.mem_filterMap.1 h;split at e
     ·cases e;exact⟨p,hp,rfl,rfl⟩
     ·cases e
  exact key _ h
 ·simp at h
theorem yG (O:ig)(w:World)(i:Nat)(p:Pr)(N:Nat)(h:iC O w i p N)(ht:∀b,w.heap.size≤b→O b=.no)(hN:N≤900000000)(kind Wn A B:Int)(sl:List UInt8)(hk:kind=2∨kind=3∨kind=4∨kind=5)(hA0:-9223372036854775808≤A)(hA1:A≤9223372036854775807)(hB0:-9223372036854775808≤B)(hB1:B≤9223372036854775807)(hsl:sl.length≤2000000):
 Calls Tryz.prog 36 #[Ym p.X p.Y p.file,tY kind Wn A B ⟨sl.toArray⟩] w fun e w'=>yF O w w' e i p (N+25):=by
 have x1:Ext w ((w.alloc (.cells #[PtrTo p.X 0,PtrTo p.Y 0,.string p.file] 85)).alloc (.cells #[.int .i64 kind,.int .i64 Wn,.int .i64 A,.int .i64 B,.string ⟨sl.toArray⟩] 36)):=(ax.alloc _).alloc _;have bT:bK ((w.alloc (.cells #[PtrTo p.X 0,PtrTo p.Y 0,.string p.file] 85)).alloc (.cells #[.int .i64 kind,.int .i64 Wn,.int .i64 A,.int .i64 B,.string ⟨sl.toArray⟩] 36)) w.heap.size [PtrTo p.X 0,PtrTo p.Y 0,.string p.file] 85:=(bK.bO w [PtrTo p.X 0,PtrTo p.Y 0,.string p.file] _).kept ((Kp.refl (fun _=>False) _).alloc _) id;have bA:=bK.bO (w.alloc (.cells #[PtrTo p.X 0,PtrTo p.Y 0,.string p.file] 85)) [.int .i64 kind,.int .i64 Wn,.int .i64 A,.int .i64 B,.string ⟨sl.toArray⟩] 36;rw[show(w.alloc (.cells #[PtrTo p.X 0,PtrTo p.Y 0,.string p.file] 85)).heap.size=w.heap.size+1 from aj]at bA;go_enter Tryz.func36,Tryz.ntmps36
 go_upto_region 1 with fail
 generalize(w.alloc (.cells #[PtrTo p.X 0,PtrTo p.Y 0,.string p.file] 85)).alloc (.cells #[.int .i64 kind,.int .i64 Wn,.int .i64 A,.int .i64 B,.string ⟨sl.toArray⟩] 36)=W1 at*;have c0:=bT.cell 0;have c1:=bT.cell 1;have c2:=bT.cell 2;have a2:=bA.cell 2;simp only[au]at c0 c1 c2 a2;have hRb:=h.rb;have hal:(Pl.jg p.r).length≤1000:=by
  rw[←gB.asked h.sO h.ids,aQ];rcases h.x.2 with⟨why,-,-,e⟩|hg
  ·rw[e];simp[Pl.ended]
  ·have:=hg.waits.2;omega
 have HAS:=hide (Sj p.cy W1 p.X p.Y p.file A p.r ((h.ext x1).y.K_) (aO hRb.made af) (aO hRb.few af) (fun q hq=>by have:=hRb.pc q hq;omega) hA0 hA1 hal)
 go_upto_region 2 with(go_at_call 65;refine(bH HAS).mono ?_;intro e W2 hout;obtain⟨t,bb,rfl,hbt,x2⟩:=hout.any;clear hout)
 have x3:Ext W2 (W2.alloc (.cells #[.int .i64 t.1,.int .i64 t.2.1,.int .i64 t.2.2] 72)):=ax.alloc _;have bR:=bK.bO W2 [.int .i64 t.1,.int .i64 t.2.1,.int .i64 t.2.2] 72;generalize W2.alloc (.cells #[.int .i64 t.1,.int .i64 t.2.1,.int .i64 t.2.2] 72)=W3 at*;have xw:Ext w W3:=(x1.trans x2).trans x3;have h3:=h.ext xw;have ht3:∀b,W3.heap.size≤b→O b=.no:=fun b hb=>ht b (aO xw.size hb)
 have bT3:=bT.kept (x2.trans x3) id;have ZI:=bA.kept (x2.trans x3) id;clear c0 c1 c2 a2 bT bA HAS;have c0:=bT3.cell 0;have c1:=bT3.cell 1;have c2:=bT3.cell 2;have a0:=ZI.cell 0;have a2:=ZI.cell 2;have a3:=ZI.cell 3;have a4:=ZI.cell 4;have r0:=bR.cell 0;have r1:=bR.cell 1;have r2:=bR.cell 2;simp only[au]at c0 c1 c2 a0 a2 a3 a4 r0 r1 r2;have hxo:∀b,w.heap.size≤b→¬Mine p.cx b:=fun b hb e=>by have:=h.ox b e;rw[ht b hb]at this;cases this
 have hTx:=hxo w.heap.size (aK _);have hAx:=hxo (w.heap.size+1) af;have hRx:=hxo W2.heap.size (by have:=(x1.trans x2).size;omega);have HXO:=hide hxo;have Ar:=hide (And.intro hTx (And.intro hAx hRx));clear hxo hTx hAx hRx;rcases hk with rfl|rfl|rfl|rfl
 ·obtain⟨heq,-⟩:=gB.answer h.sO h.ids h.x.2 A sl;have HX:=hide (Eg p.cx W3 p.X p.P p.m N h3.x af A sl hsl);rw[heq]at HX;have Dx:((Pl.fF p.r A sl).2==(Pl.fF p.r A sl).2)=true:=aj
  go_upto_region 7 with(go_at_call 26;refine(bH HX).mono ?_;rintro e W4 ⟨rfl,VJ,hx4,lS⟩)
  have HY:=hide (h3.aeh af lS A sl hsl);have c1':=lS.kept.cell c1 Ar.out.1;have a2':=lS.kept.cell a2 Ar.out.2.1;have a4':=lS.kept.cell a4 Ar.out.2.1
  go_wp2_with (go_at_call 66;refine(bH HY).mono ?_;rintro e W5 ⟨rfl,VK,zJ,xC⟩)
  go_ret;exact yF.mk aj ((h3.VG ht3 A sl hx4 lS zJ xC).2.cZ xw)
 ·cases hbb:bb with
  |false=>
   subst hbb
   go_wp2_with fail
   go_ret;exact yF.mk rfl ((kD.same h3 ht3 af).cZ xw)
  |true=>
   subst hbb;obtain⟨q,hq,e1,e2⟩:=Sn (hbt rfl);have AP:=hRb.pc q hq;have HG:=hide (Sk W3 p.X p.Y p.file t.1 t.2.1 t.2.2 B hB0 hB1 af af (by have:=h.file;omega));have anw:t.2.2≤5000:=af;clear e1 e2 AP hq
   go_upto_region 14 with(go_at_call 68;refine(bH HG).mono ?_;rintro e W4 ⟨s,hs,rfl,x4⟩)
   have hsb:s.length≤2000000:=af;have h4:=h3.ext x4;have Zz:∀b,W4.heap.size≤b→O b=.no:=fun b hb=>ht3 b (aO x4.size hb)
   replace c0:=x4.cell c0 id;replace c1:=x4.cell c1 id;replace r0:=x4.cell r0 id;obtain⟨heq,-⟩:=gB.answer h.sO h.ids h.x.2 (t.1:Int) s;have HX:=hide (Eg p.cx W4 p.X p.P p.m N h4.x af (t.1:Int) s hsb);rw[heq]at HX;have Dx:((Pl.fF p.r (t.1:Int) s).2==(Pl.fF p.r (t.1:Int) s).2)=true:=aj
   go_upto_region 15 with(go_at_call 26;refine(bH HX).mono ?_;rintro e W5 ⟨rfl,VJ,hx4,lS⟩)
   have HY:=hide (h4.aeh af lS (t.1:Int) s hsb);have c1':=lS.kept.cell c1 Ar.out.1;have q':=lS.kept.cell r0 Ar.out.2.2
   go_wp2_with (go_at_call 66;refine(bH HY).mono ?_;rintro e W6 ⟨rfl,VK,zJ,xC⟩)
   go_ret;exact yF.mk aj ((h4.VG Zz (t.1:Int) s hx4 lS zJ xC).2.cZ (xw.trans x4))
 ·obtain⟨heq,-⟩:=gB.fail h.sO h.ids A;have HX:=hide (JI p.cx W3 p.X p.P p.m N h3.x A);rw[heq]at HX;have Dx:((Pl.iV p.r A).2==(Pl.iV p.r A).2)=true:=aj
  go_upto_region 10 with(go_at_call 27;refine(bH HX).mono ?_;rintro e W4 ⟨rfl,VJ,hx4,lS⟩)
  have HY:=hide (h3.ZH af lS A);have c1':=lS.kept.cell c1 Ar.out.1;have q':=lS.kept.cell a2 Ar.out.2.1
  go_wp2_with (go_at_call 67;refine(bH HY).mono ?_;rintro e W5 ⟨rfl,VK,zJ,xC⟩)
  go_ret;exact yF.mk aj ((h3.Qg ht3 A hx4 lS zJ xC).2.cZ xw)
 ·cases hbb:bb with
  |false=>
   subst hbb
   go_wp2_with fail
   go_ret;exact yF.mk rfl ((kD.same h3 ht3 af).cZ xw)
  |true=>
   subst hbb;obtain⟨heq,-⟩:=gB.fail h.sO h.ids (t.1:Int);have HX:=hide (JI p.cx W3 p.X p.P p.m N h3.x (t.1:Int));rw[heq]at HX;have Dx:((Pl.iV p.r (t.1:Int)).2==(Pl.iV p.r (t.1:Int)).2)=true:=aj
   go_upto_region 19 with(go_at_call 27;refine(bH HX).mono ?_;rintro e W4 ⟨rfl,VJ,hx4,lS⟩)
   have HY:=hide (h3.ZH af lS (t.1:Int));have c1':=lS.kept.cell c1 Ar.out.1;have q':=lS.kept.cell r0 Ar.out.2.2
   go_wp2_with (go_at_call 67;refine(bH HY).mono ?_;rintro e W5 ⟨rfl,VK,zJ,xC⟩)
   go_ret;exact yF.mk aj ((h3.Qg ht3 (t.1:Int) hx4 lS zJ xC).2.cZ xw)
def kP (x:Int):Prop:=-9223372036854775808≤x∧x≤9223372036854775807
inductive jr (O:ig)(w w':World)(e:Ending)(Wb:Nat)(tv:Value)(ps:List Pr)(li:List KI)(la:List KA)(lr:List KR)(N:Nat):Prop
 |mk (O':ig) (sU eZ rv':Value) (ps':List Pr) (vv:List KI) (la':List KA) (Eo:List KR) (he:e=.returned (.bool true)) (h:kg O' w' Wb tv sU eZ rv' ps' vv la' Eo (N+25)) (hp:ps'.length=ps.length) (h1:vv.length≤li.length+100) (h2:la'.length≤la.length+1) (h3:Eo.length≤lr.length+1) (kp:Kp (fun b=>O b≠.arg) w w') (ho:∀b,b<w.heap.size→O b≠.no→O' b=O b):jr O w w' e Wb tv ps li la lr N
theorem jr.pair {O:ig}{w w1 w':World}{e:Ending}{Wb:Nat}{tv iv av rv:Value}{ps:List Pr}{li:List KI}{la:List KA}{lr:List KR}{N i:Nat}{p:Pr}(h:kg O w Wb tv iv av rv ps li la lr N)(hi:ps[i]?=some p)(x:Ext w w1)(ho:kD O w1 w' i p (N+25))(he:e=.returned (.bool true)):jr O w w' e Wb tv ps li la lr N:=by
 obtain⟨O',p',hp,hc,kp,hs,ht⟩:=ho.cZ x;refine jr.mk O' iv av rv (ps.set i p') li la lr he (h.step hi hc hp kp hs ht af (fun j q hq=>(h.sV j q hq).x.2.mono af)) aj af af af (kp.mono (fun b _ e=>?_)) (fun b hb _=>hs b hb);rcases e with e|e<;>rw[e]<;>simp
theorem VP (O:ig)(w:World)(Wb:Nat)(tv iv av rv:Value)(ps:List Pr)(li:List KI)(la:List KA)(lr:List KR)(N:Nat)(h:kg O w Wb tv iv av rv ps li la lr N)(hps:0<ps.length)(hpb:ps.length≤1000)(hN:N≤900000000)(_hb:li.length≤700000000∧la.length≤700000000∧lr.length≤700000000)(Wn A B:Int)(sl:List UInt8)(hW:kP Wn)(_hA:kP A)(_hB:kP B)(_hsl:sl.length≤2000000):
 Calls Tryz.prog 13 #[PtrTo Wb 0,tY 6 Wn A B ⟨sl.toArray⟩] w fun e w'=>jr O w w' e Wb tv ps li la lr N:=by
 obtain⟨g,cap,rfl,hcap,oh,hcell⟩:=h.tw.at hps;have hil:=jo Wn ps.length hps;have jJ:=hide (fun u=>iI u Wn ps.length hW.1 hW.2 af af);obtain⟨i,hie⟩:∃i,i=f_ Wn ps.length:=⟨_,rfl⟩
 rw[←hie]at hil jJ;clear hie;have hpi:ps[i]?=some ps[i]:=ay hil;have hP:=h.sV i _ hpi;have t0:=hcell (i*3+0) af;have t1:=hcell (i*3+1) af;have t2:=hcell (i*3+2) af;rw[iq 3 dR (fun _=>rfl) ps i _ hil af]at t0 t1 t2;obtain⟨p,hpe⟩:∃p,p=ps[i]:=⟨_,rfl⟩
 rw[←hpe]at t0 t1 t2 hP hpi;simp only[dR,au,Nat.add_zero]at t0 t1 t2;clear hpe hcell;have q0:=h.k.wb.cell 0;simp only[aA]at q0;have i0:(0:Int)≤(i:Int):=af;have i1:(i:Int)<(ps.length:Int):=af;have n0:=World.new_ne w _ q0;have n1:=World.new_ne w _ t0;go_enter Tryz.func13,Tryz.ntmps13
 go_wp2_with fail
 go_region_held3 (fun u=>u.cell? ⟨Wb,0,none⟩=some (.slice (some ⟨g,0,none⟩) ps.length cap)∧u.cell? ⟨w.heap.size,1,none⟩=some (.int .i64 Wn)∧u.cell? ⟨g,i*3,none⟩=some (PtrTo p.X 0)∧u.cell? ⟨g,i*3+1,none⟩=some (PtrTo p.Y 0)∧u.cell? ⟨g,i*3+2,none⟩=some (.string p.file)) (go_keep) (first|(go_at_call 33;refine((bH jJ) _).mono ?_;rintro e w' ⟨rfl,rfl⟩)|fail)
 all_goals(
  have xw:Ext w ((w.alloc (.cells #[.int .i64 6,.int .i64 Wn,.int .i64 A,.int .i64 B,.string ⟨sl.toArray⟩] 36)).alloc (.cells #[PtrTo p.X 0,PtrTo p.Y 0,.string p.file] 85)).drew:=((ax.alloc _).alloc _).drew;have iJ:bK ((w.alloc (.cells #[.int .i64 6,.int .i64 Wn,.int .i64 A,.int .i64 B,.string ⟨sl.toArray⟩] 36)).alloc (.cells #[PtrTo p.X 0,PtrTo p.Y 0,.string p.file] 85)).drew w.heap.size [.int .i64 6,.int .i64 Wn,.int .i64 A,.int .i64 B,.string ⟨sl.toArray⟩] 36:=(bK.bO w [.int .i64 6,.int .i64 Wn,.int .i64 A,.int .i64 B,.string ⟨sl.toArray⟩] 36).kept (((Kp.refl (fun _=>False) _).alloc _).drew) id;have bT:bK ((w.alloc (.cells #[.int .i64 6,.int .i64 Wn,.int .i64 A,.int .i64 B,.string ⟨sl.toArray⟩] 36)).alloc (.cells #[PtrTo p.X 0,PtrTo p.Y 0,.string p.file] 85)).drew (w.heap.size+1) [PtrTo p.X 0,PtrTo p.Y 0,.string p.file] 85:=by
   have:=bK.bO (w.alloc (.cells #[.int .i64 6,.int .i64 Wn,.int .i64 A,.int .i64 B,.string ⟨sl.toArray⟩] 36)) [PtrTo p.X 0,PtrTo p.Y 0,.string p.file] 85;rw[show(w.alloc (.cells #[.int .i64 6,.int .i64 Wn,.int .i64 A,.int .i64 B,.string ⟨sl.toArray⟩] 36)).heap.size=w.heap.size+1 from aj]at this;exact this
  generalize((w.alloc _).alloc _).drew=W2 at*;clear n0 n1 q0 t0 t1 t2 jJ;have a0:=iJ.cell 0;have a1:=iJ.cell 1;have a2:=iJ.cell 2;have a3:=iJ.cell 3;have a4:=iJ.cell 4;have c0:=bT.cell 0;have c1:=bT.cell 1;have c2:=bT.cell 2;simp only[au]at a0 a1 a2 a3 a4 c0 c1 c2;have h2:=h.ext xw;have hP2:=hP.ext xw;have ht2:∀b,W2.heap.size≤b→O b=.no:=h2.k.top;have hTx:¬Mine p.cx (w.heap.size+1):=fun e=>by have:=hP.ox _ e;rw[h.k.top _ af]at this;cases this
  have Cv:=hide hTx;clear hTx;have HX:=hide (U5 p.cx W2 p.X p.P p.m N hP2.x af)
  go_upto_region 20 with(go_at_call 28;refine(bH HX).mono ?_;rintro e W4 ⟨rfl,VJ,hx4,lS⟩)
  have HY:=hide (hP2.afn af lS);have c1':=lS.kept.cell c1 Cv.out
  go_wp2_with (go_at_call 37;refine(bH HY).mono ?_;rintro e W5 ⟨rfl,VK,zJ,xC⟩)
  go_ret;exact jr.pair h hpi xw (hP2.aaK ht2 hx4 lS zJ xC) rfl)
theorem OW (O:ig)(w:World)(Wb:Nat)(tv iv av rv:Value)(ps:List Pr)(li:List KI)(la:List KA)(lr:List KR)(N:Nat)(h:kg O w Wb tv iv av rv ps li la lr N)(hps:0<ps.length)(hpb:ps.length≤1000)(_hN:N≤900000000)(_hb:li.length≤700000000∧la.length≤700000000∧lr.length≤700000000)(Wn A B:Int)(sl:List UInt8)(hW:kP Wn)(_hA:kP A)(_hB:kP B)(_hsl:sl.length≤2000000):
 Calls Tryz.prog 13 #[PtrTo Wb 0,tY 9 Wn A B ⟨sl.toArray⟩] w fun e w'=>jr O w w' e Wb tv ps li la lr N:=by
 obtain⟨g,cap,rfl,hcap,oh,hcell⟩:=h.tw.at hps;have hil:=jo Wn ps.length hps;have jJ:=hide (fun u=>iI u Wn ps.length hW.1 hW.2 af af);obtain⟨i,hie⟩:∃i,i=f_ Wn ps.length:=⟨_,rfl⟩
 rw[←hie]at hil jJ;clear hie;have hpi:ps[i]?=some ps[i]:=ay hil;have hP:=h.sV i _ hpi;have t0:=hcell (i*3+0) af;have t1:=hcell (i*3+1) af;have t2:=hcell (i*3+2) af;rw[iq 3 dR (fun _=>rfl) ps i _ hil af]at t0 t1 t2;obtain⟨p,hpe⟩:∃p,p=ps[i]:=⟨_,rfl⟩
 rw[←hpe]at t0 t1 t2 hP hpi;simp only[dR,au,Nat.add_zero]at t0 t1 t2;clear hpe hcell;have q0:=h.k.wb.cell 0;simp only[aA]at q0;have i0:(0:Int)≤(i:Int):=af;have i1:(i:Int)<(ps.length:Int):=af;have n0:=World.new_ne w _ q0;have n1:=World.new_ne w _ t0;go_enter Tryz.func13,Tryz.ntmps13
 go_wp2_with fail
 go_region_held3 (fun u=>u.cell? ⟨Wb,0,none⟩=some (.slice (some ⟨g,0,none⟩) ps.length cap)∧u.cell? ⟨w.heap.size,1,none⟩=some (.int .i64 Wn)∧u.cell? ⟨g,i*3,none⟩=some (PtrTo p.X 0)∧u.cell? ⟨g,i*3+1,none⟩=some (PtrTo p.Y 0)∧u.cell? ⟨g,i*3+2,none⟩=some (.string p.file)) (go_keep) (first|(go_at_call 33;refine((bH jJ) _).mono ?_;rintro e w' ⟨rfl,rfl⟩)|fail)
 all_goals(
  have xw:Ext w ((w.alloc (.cells #[.int .i64 9,.int .i64 Wn,.int .i64 A,.int .i64 B,.string ⟨sl.toArray⟩] 36)).alloc (.cells #[PtrTo p.X 0,PtrTo p.Y 0,.string p.file] 85)).drew:=((ax.alloc _).alloc _).drew;have iJ:bK ((w.alloc (.cells #[.int .i64 9,.int .i64 Wn,.int .i64 A,.int .i64 B,.string ⟨sl.toArray⟩] 36)).alloc (.cells #[PtrTo p.X 0,PtrTo p.Y 0,.string p.file] 85)).drew w.heap.size [.int .i64 9,.int .i64 Wn,.int .i64 A,.int .i64 B,.string ⟨sl.toArray⟩] 36:=(bK.bO w [.int .i64 9,.int .i64 Wn,.int .i64 A,.int .i64 B,.string ⟨sl.toArray⟩] 36).kept (((Kp.refl (fun _=>False) _).alloc _).drew) id;have bT:bK ((w.alloc (.cells #[.int .i64 9,.int .i64 Wn,.int .i64 A,.int .i64 B,.string ⟨sl.toArray⟩] 36)).alloc (.cells #[PtrTo p.X 0,PtrTo p.Y 0,.string p.file] 85)).drew (w.heap.size+1) [PtrTo p.X 0,PtrTo p.Y 0,.string p.file] 85:=by
   have:=bK.bO (w.alloc (.cells #[.int .i64 9,.int .i64 Wn,.int .i64 A,.int .i64 B,.string ⟨sl.toArray⟩] 36)) [PtrTo p.X 0,PtrTo p.Y 0,.string p.file] 85;rw[show(w.alloc (.cells #[.int .i64 9,.int .i64 Wn,.int .i64 A,.int .i64 B,.string ⟨sl.toArray⟩] 36)).heap.size=w.heap.size+1 from aj]at this;exact this
  generalize((w.alloc _).alloc _).drew=W2 at*;clear n0 n1 q0 t0 t1 t2 jJ;have a0:=iJ.cell 0;have a1:=iJ.cell 1;have a2:=iJ.cell 2;have a3:=iJ.cell 3;have a4:=iJ.cell 4;have c0:=bT.cell 0;have c1:=bT.cell 1;have c2:=bT.cell 2;simp only[au]at a0 a1 a2 a3 a4 c0 c1 c2;have h2:=h.ext xw;have hP2:=hP.ext xw;have ht2:∀b,W2.heap.size≤b→O b=.no:=h2.k.top;have hTx:¬Mine p.cx (w.heap.size+1):=fun e=>by have:=hP.ox _ e;rw[h.k.top _ af]at this;cases this
  have Cv:=hide hTx;clear hTx;have HX:=hide (OU p.cx W2 p.X p.P p.m N hP2.x)
  go_upto_region 31 with(go_at_call 25;refine(bH HX).mono ?_;rintro e W4 ⟨rfl,VJ,hx4,lS⟩)
  have HY:=hide (hP2.aaL lS);have c1':=lS.kept.cell c1 Cv.out
  go_wp2_with (go_at_call 42;refine(bH HY).mono ?_;rintro e W5 ⟨rfl,VK,zJ,xC⟩)
  go_ret;exact jr.pair h hpi xw (hP2.VH ht2 hx4 lS zJ xC) rfl)
theorem OX (O:ig)(w:World)(Wb:Nat)(tv iv av rv:Value)(ps:List Pr)(li:List KI)(la:List KA)(lr:List KR)(N:Nat)(h:kg O w Wb tv iv av rv ps li la lr N)(hps:0<ps.length)(hpb:ps.length≤1000)(hN:N≤900000000)(_hb:li.length≤700000000∧la.length≤700000000∧lr.length≤700000000)(Wn A B:Int)(sl:List UInt8)(hW:kP Wn)(_hA:kP A)(_hB:kP B)(_hsl:sl.length≤2000000):
 Calls Tryz.prog 13 #[PtrTo Wb 0,tY 2 Wn A B ⟨sl.toArray⟩] w fun e w'=>jr O w w' e Wb tv ps li la lr N:=by
 obtain⟨g,cap,rfl,hcap,oh,hcell⟩:=h.tw.at hps;have hil:=jo Wn ps.length hps;have jJ:=hide (fun u=>iI u Wn ps.length hW.1 hW.2 af af);obtain⟨i,hie⟩:∃i,i=f_ Wn ps.length:=⟨_,rfl⟩
 rw[←hie]at hil jJ;clear hie;have hpi:ps[i]?=some ps[i]:=ay hil;have hP:=h.sV i _ hpi;have t0:=hcell (i*3+0) af;have t1:=hcell (i*3+1) af;have t2:=hcell (i*3+2) af;rw[iq 3 dR (fun _=>rfl) ps i _ hil af]at t0 t1 t2;obtain⟨p,hpe⟩:∃p,p=ps[i]:=⟨_,rfl⟩
 rw[←hpe]at t0 t1 t2 hP hpi;simp only[dR,au,Nat.add_zero]at t0 t1 t2;clear hpe hcell;have q0:=h.k.wb.cell 0;simp only[aA]at q0;have i0:(0:Int)≤(i:Int):=af;have i1:(i:Int)<(ps.length:Int):=af;have n0:=World.new_ne w _ q0;have n1:=World.new_ne w _ t0;go_enter Tryz.func13,Tryz.ntmps13
 go_wp2_with fail
 go_region_held3 (fun u=>u.cell? ⟨Wb,0,none⟩=some (.slice (some ⟨g,0,none⟩) ps.length cap)∧u.cell? ⟨w.heap.size,1,none⟩=some (.int .i64 Wn)∧u.cell? ⟨g,i*3,none⟩=some (PtrTo p.X 0)∧u.cell? ⟨g,i*3+1,none⟩=some (PtrTo p.Y 0)∧u.cell? ⟨g,i*3+2,none⟩=some (.string p.file)) (go_keep) (first|(go_at_call 33;refine((bH jJ) _).mono ?_;rintro e w' ⟨rfl,rfl⟩)|fail)
 all_goals(
  have xw:Ext w ((w.alloc (.cells #[.int .i64 2,.int .i64 Wn,.int .i64 A,.int .i64 B,.string ⟨sl.toArray⟩] 36)).alloc (.cells #[PtrTo p.X 0,PtrTo p.Y 0,.string p.file] 85)).drew:=((ax.alloc _).alloc _).drew;have iJ:bK ((w.alloc (.cells #[.int .i64 2,.int .i64 Wn,.int .i64 A,.int .i64 B,.string ⟨sl.toArray⟩] 36)).alloc (.cells #[PtrTo p.X 0,PtrTo p.Y 0,.string p.file] 85)).drew w.heap.size [.int .i64 2,.int .i64 Wn,.int .i64 A,.int .i64 B,.string ⟨sl.toArray⟩] 36:=(bK.bO w [.int .i64 2,.int .i64 Wn,.int .i64 A,.int .i64 B,.string ⟨sl.toArray⟩] 36).kept (((Kp.refl (fun _=>False) _).alloc _).drew) id;have bT:bK ((w.alloc (.cells #[.int .i64 2,.int .i64 Wn,.int .i64 A,.int .i64 B,.string ⟨sl.toArray⟩] 36)).alloc (.cells #[PtrTo p.X 0,PtrTo p.Y 0,.string p.file] 85)).drew (w.heap.size+1) [PtrTo p.X 0,PtrTo p.Y 0,.string p.file] 85:=by
   have:=bK.bO (w.alloc (.cells #[.int .i64 2,.int .i64 Wn,.int .i64 A,.int .i64 B,.string ⟨sl.toArray⟩] 36)) [PtrTo p.X 0,PtrTo p.Y 0,.string p.file] 85;rw[show(w.alloc (.cells #[.int .i64 2,.int .i64 Wn,.int .i64 A,.int .i64 B,.string ⟨sl.toArray⟩] 36)).heap.size=w.heap.size+1 from aj]at this;exact this
  generalize((w.alloc _).alloc _).drew=W2 at*;clear n0 n1 q0 t0 t1 t2 jJ;have a0:=iJ.cell 0;have a1:=iJ.cell 1;have a2:=iJ.cell 2;have a3:=iJ.cell 3;have a4:=iJ.cell 4;have c0:=bT.cell 0;have c1:=bT.cell 1;have c2:=bT.cell 2;simp only[au]at a0 a1 a2 a3 a4 c0 c1 c2;have h2:=h.ext xw;have hP2:=hP.ext xw;have ht2:∀b,W2.heap.size≤b→O b=.no:=h2.k.top;have hTx:¬Mine p.cx (w.heap.size+1):=fun e=>by have:=hP.ox _ e;rw[h.k.top _ af]at this;cases this
  have Cv:=hide hTx;clear hTx;have HC:=hide (yG O W2 i p N hP2 ht2 af 2 Wn A B sl aj _hA.1 _hA.2 _hB.1 _hB.2 _hsl)
  go_wp2_with (go_at_call 36;refine(bH HC).mono ?_;rintro e W5 ⟨rfl,hout⟩)
  go_ret;exact jr.pair h hpi xw hout rfl)
theorem OY (O:ig)(w:World)(Wb:Nat)(tv iv av rv:Value)(ps:List Pr)(li:List KI)(la:List KA)(lr:List KR)(N:Nat)(h:kg O w Wb tv iv av rv ps li la lr N)(hps:0<ps.length)(hpb:ps.length≤1000)(hN:N≤900000000)(_hb:li.length≤700000000∧la.length≤700000000∧lr.length≤700000000)(Wn A B:Int)(sl:List UInt8)(hW:kP Wn)(_hA:kP A)(_hB:kP B)(_hsl:sl.length≤2000000):
 Calls Tryz.prog 13 #[PtrTo Wb 0,tY 3 Wn A B ⟨sl.toArray⟩] w fun e w'=>jr O w w' e Wb tv ps li la lr N:=by
 obtain⟨g,cap,rfl,hcap,oh,hcell⟩:=h.tw.at hps;have hil:=jo Wn ps.length hps;have jJ:=hide (fun u=>iI u Wn ps.length hW.1 hW.2 af af);obtain⟨i,hie⟩:∃i,i=f_ Wn ps.length:=⟨_,rfl⟩
 rw[←hie]at hil jJ;clear hie;have hpi:ps[i]?=some ps[i]:=ay hil;have hP:=h.sV i _ hpi;have t0:=hcell (i*3+0) af;have t1:=hcell (i*3+1) af;have t2:=hcell (i*3+2) af;rw[iq 3 dR (fun _=>rfl) ps i _ hil af]at t0 t1 t2;obtain⟨p,hpe⟩:∃p,p=ps[i]:=⟨_,rfl⟩
 rw[←hpe]at t0 t1 t2 hP hpi;simp only[dR,au,Nat.add_zero]at t0 t1 t2;clear hpe hcell;have q0:=h.k.wb.cell 0;simp only[aA]at q0;have i0:(0:Int)≤(i:Int):=af;have i1:(i:Int)<(ps.length:Int):=af;have n0:=World.new_ne w _ q0;have n1:=World.new_ne w _ t0;go_enter Tryz.func13,Tryz.ntmps13
 go_wp2_with fail
 go_region_held3 (fun u=>u.cell? ⟨Wb,0,none⟩=some (.slice (some ⟨g,0,none⟩) ps.length cap)∧u.cell? ⟨w.heap.size,1,none⟩=some (.int .i64 Wn)∧u.cell? ⟨g,i*3,none⟩=some (PtrTo p.X 0)∧u.cell? ⟨g,i*3+1,none⟩=some (PtrTo p.Y 0)∧u.cell? ⟨g,i*3+2,none⟩=some (.string p.file)) (go_keep) (first|(go_at_call 33;refine((bH jJ) _).mono ?_;rintro e w' ⟨rfl,rfl⟩)|fail)
 all_goals(
  have xw:Ext w ((w.alloc (.cells #[.int .i64 3,.int .i64 Wn,.int .i64 A,.int .i64 B,.string ⟨sl.toArray⟩] 36)).alloc (.cells #[PtrTo p.X 0,PtrTo p.Y 0,.string p.file] 85)).drew:=((ax.alloc _).alloc _).drew;have iJ:bK ((w.alloc (.cells #[.int .i64 3,.int .i64 Wn,.int .i64 A,.int .i64 B,.string ⟨sl.toArray⟩] 36)).alloc (.cells #[PtrTo p.X 0,PtrTo p.Y 0,.string p.file] 85)).drew w.heap.size [.int .i64 3,.int .i64 Wn,.int .i64 A,.int .i64 B,.string ⟨sl.toArray⟩] 36:=(bK.bO w [.int .i64 3,.int .i64 Wn,.int .i64 A,.int .i64 B,.string ⟨sl.toArray⟩] 36).kept (((Kp.refl (fun _=>False) _).alloc _).drew) id;have bT:bK ((w.alloc (.cells #[.int .i64 3,.int .i64 Wn,.int .i64 A,.int .i64 B,.string ⟨sl.toArray⟩] 36)).alloc (.cells #[PtrTo p.X 0,PtrTo p.Y 0,.string p.file] 85)).drew (w.heap.size+1) [PtrTo p.X 0,PtrTo p.Y 0,.string p.file] 85:=by
   have:=bK.bO (w.alloc (.cells #[.int .i64 3,.int .i64 Wn,.int .i64 A,.int .i64 B,.string ⟨sl.toArray⟩] 36)) [PtrTo p.X 0,PtrTo p.Y 0,.string p.file] 85;rw[show(w.alloc (.cells #[.int .i64 3,.int .i64 Wn,.int .i64 A,.int .i64 B,.string ⟨sl.toArray⟩] 36)).heap.size=w.heap.size+1 from aj]at this;exact this
  generalize((w.alloc _).alloc _).drew=W2 at*;clear n0 n1 q0 t0 t1 t2 jJ;have a0:=iJ.cell 0;have a1:=iJ.cell 1;have a2:=iJ.cell 2;have a3:=iJ.cell 3;have a4:=iJ.cell 4;have c0:=bT.cell 0;have c1:=bT.cell 1;have c2:=bT.cell 2;simp only[au]at a0 a1 a2 a3 a4 c0 c1 c2;have h2:=h.ext xw;have hP2:=hP.ext xw;have ht2:∀b,W2.heap.size≤b→O b=.no:=h2.k.top;have hTx:¬Mine p.cx (w.heap.size+1):=fun e=>by have:=hP.ox _ e;rw[h.k.top _ af]at this;cases this
  have Cv:=hide hTx;clear hTx;have HC:=hide (yG O W2 i p N hP2 ht2 af 3 Wn A B sl aj _hA.1 _hA.2 _hB.1 _hB.2 _hsl)
  go_wp2_with (go_at_call 36;refine(bH HC).mono ?_;rintro e W5 ⟨rfl,hout⟩)
  go_ret;exact jr.pair h hpi xw hout rfl)
theorem OZ (O:ig)(w:World)(Wb:Nat)(tv iv av rv:Value)(ps:List Pr)(li:List KI)(la:List KA)(lr:List KR)(N:Nat)(h:kg O w Wb tv iv av rv ps li la lr N)(hps:0<ps.length)(hpb:ps.length≤1000)(hN:N≤900000000)(_hb:li.length≤700000000∧la.length≤700000000∧lr.length≤700000000)(Wn A B:Int)(sl:List UInt8)(hW:kP Wn)(_hA:kP A)(_hB:kP B)(_hsl:sl.length≤2000000):
 Calls Tryz.prog 13 #[PtrTo Wb 0,tY 4 Wn A B ⟨sl.toArray⟩] w fun e w'=>jr O w w' e Wb tv ps li la lr N:=by
 obtain⟨g,cap,rfl,hcap,oh,hcell⟩:=h.tw.at hps;have hil:=jo Wn ps.length hps;have jJ:=hide (fun u=>iI u Wn ps.length hW.1 hW.2 af af);obtain⟨i,hie⟩:∃i,i=f_ Wn ps.length:=⟨_,rfl⟩
 rw[←hie]at hil jJ;clear hie;have hpi:ps[i]?=some ps[i]:=ay hil;have hP:=h.sV i _ hpi;have t0:=hcell (i*3+0) af;have t1:=hcell (i*3+1) af;have t2:=hcell (i*3+2) af;rw[iq 3 dR (fun _=>rfl) ps i _ hil af]at t0 t1 t2;obtain⟨p,hpe⟩:∃p,p=ps[i]:=⟨_,rfl⟩
 rw[←hpe]at t0 t1 t2 hP hpi;simp only[dR,au,Nat.add_zero]at t0 t1 t2;clear hpe hcell;have q0:=h.k.wb.cell 0;simp only[aA]at q0;have i0:(0:Int)≤(i:Int):=af;have i1:(i:Int)<(ps.length:Int):=af;have n0:=World.new_ne w _ q0;have n1:=World.new_ne w _ t0;go_enter Tryz.func13,Tryz.ntmps13
 go_wp2_with fail
 go_region_held3 (fun u=>u.cell? ⟨Wb,0,none⟩=some (.slice (some ⟨g,0,none⟩) ps.length cap)∧u.cell? ⟨w.heap.size,1,none⟩=some (.int .i64 Wn)∧u.cell? ⟨g,i*3,none⟩=some (PtrTo p.X 0)∧u.cell? ⟨g,i*3+1,none⟩=some (PtrTo p.Y 0)∧u.cell? ⟨g,i*3+2,none⟩=some (.string p.file)) (go_keep) (first|(go_at_call 33;refine((bH jJ) _).mono ?_;rintro e w' ⟨rfl,rfl⟩)|fail)
 all_goals(
  have xw:Ext w ((w.alloc (.cells #[.int .i64 4,.int .i64 Wn,.int .i64 A,.int .i64 B,.string ⟨sl.toArray⟩] 36)).alloc (.cells #[PtrTo p.X 0,PtrTo p.Y 0,.string p.file] 85)).drew:=((ax.alloc _).alloc _).drew;have iJ:bK ((w.alloc (.cells #[.int .i64 4,.int .i64 Wn,.int .i64 A,.int .i64 B,.string ⟨sl.toArray⟩] 36)).alloc (.cells #[PtrTo p.X 0,PtrTo p.Y 0,.string p.file] 85)).drew w.heap.size [.int .i64 4,.int .i64 Wn,.int .i64 A,.int .i64 B,.string ⟨sl.toArray⟩] 36:=(bK.bO w [.int .i64 4,.int .i64 Wn,.int .i64 A,.int .i64 B,.string ⟨sl.toArray⟩] 36).kept (((Kp.refl (fun _=>False) _).alloc _).drew) id;have bT:bK ((w.alloc (.cells #[.int .i64 4,.int .i64 Wn,.int .i64 A,.int .i64 B,.string ⟨sl.toArray⟩] 36)).alloc (.cells #[PtrTo p.X 0,PtrTo p.Y 0,.string p.file] 85)).drew (w.heap.size+1) [PtrTo p.X 0,PtrTo p.Y 0,.string p.file] 85:=by
   have:=bK.bO (w.alloc (.cells #[.int .i64 4,.int .i64 Wn,.int .i64 A,.int .i64 B,.string ⟨sl.toArray⟩] 36)) [PtrTo p.X 0,PtrTo p.Y 0,.string p.file] 85;rw[show(w.alloc (.cells #[.int .i64 4,.int .i64 Wn,.int .i64 A,.int .i64 B,.string ⟨sl.toArray⟩] 36)).heap.size=w.heap.size+1 from aj]at this;exact this
  generalize((w.alloc _).alloc _).drew=W2 at*;clear n0 n1 q0 t0 t1 t2 jJ;have a0:=iJ.cell 0;have a1:=iJ.cell 1;have a2:=iJ.cell 2;have a3:=iJ.cell 3;have a4:=iJ.cell 4;have c0:=bT.cell 0;have c1:=bT.cell 1;have c2:=bT.cell 2;simp only[au]at a0 a1 a2 a3 a4 c0 c1 c2;have h2:=h.ext xw;have hP2:=hP.ext xw;have ht2:∀b,W2.heap.size≤b→O b=.no:=h2.k.top;have hTx:¬Mine p.cx (w.heap.size+1):=fun e=>by have:=hP.ox _ e;rw[h.k.top _ af]at this;cases this
  have Cv:=hide hTx;clear hTx;have HC:=hide (yG O W2 i p N hP2 ht2 af 4 Wn A B sl aj _hA.1 _hA.2 _hB.1 _hB.2 _hsl)
  go_wp2_with (go_at_call 36;refine(bH HC).mono ?_;rintro e W5 ⟨rfl,hout⟩)
  go_ret;exact jr.pair h hpi xw hout rfl)
theorem O8 (O:ig)(w:World)(Wb:Nat)(tv iv av rv:Value)(ps:List Pr)(li:List KI)(la:List KA)(lr:List KR)(N:Nat)(h:kg O w Wb tv iv av rv ps li la lr N)(hps:0<ps.length)(hpb:ps.length≤1000)(hN:N≤900000000)(_hb:li.length≤700000000∧la.length≤700000000∧lr.length≤700000000)(Wn A B:Int)(sl:List UInt8)(hW:kP Wn)(_hA:kP A)(_hB:kP B)(_hsl:sl.length≤2000000):
 Calls Tryz.prog 13 #[PtrTo Wb 0,tY 5 Wn A B ⟨sl.toArray⟩] w fun e w'=>jr O w w' e Wb tv ps li la lr N:=by
 obtain⟨g,cap,rfl,hcap,oh,hcell⟩:=h.tw.at hps;have hil:=jo Wn ps.length hps;have jJ:=hide (fun u=>iI u Wn ps.length hW.1 hW.2 af af);obtain⟨i,hie⟩:∃i,i=f_ Wn ps.length:=⟨_,rfl⟩
 rw[←hie]at hil jJ;clear hie;have hpi:ps[i]?=some ps[i]:=ay hil;have hP:=h.sV i _ hpi;have t0:=hcell (i*3+0) af;have t1:=hcell (i*3+1) af;have t2:=hcell (i*3+2) af;rw[iq 3 dR (fun _=>rfl) ps i _ hil af]at t0 t1 t2;obtain⟨p,hpe⟩:∃p,p=ps[i]:=⟨_,rfl⟩
 rw[←hpe]at t0 t1 t2 hP hpi;simp only[dR,au,Nat.add_zero]at t0 t1 t2;clear hpe hcell;have q0:=h.k.wb.cell 0;simp only[aA]at q0;have i0:(0:Int)≤(i:Int):=af;have i1:(i:Int)<(ps.length:Int):=af;have n0:=World.new_ne w _ q0;have n1:=World.new_ne w _ t0;go_enter Tryz.func13,Tryz.ntmps13
 go_wp2_with fail
 go_region_held3 (fun u=>u.cell? ⟨Wb,0,none⟩=some (.slice (some ⟨g,0,none⟩) ps.length cap)∧u.cell? ⟨w.heap.size,1,none⟩=some (.int .i64 Wn)∧u.cell? ⟨g,i*3,none⟩=some (PtrTo p.X 0)∧u.cell? ⟨g,i*3+1,none⟩=some (PtrTo p.Y 0)∧u.cell? ⟨g,i*3+2,none⟩=some (.string p.file)) (go_keep) (first|(go_at_call 33;refine((bH jJ) _).mono ?_;rintro e w' ⟨rfl,rfl⟩)|fail)
 all_goals(
  have xw:Ext w ((w.alloc (.cells #[.int .i64 5,.int .i64 Wn,.int .i64 A,.int .i64 B,.string ⟨sl.toArray⟩] 36)).alloc (.cells #[PtrTo p.X 0,PtrTo p.Y 0,.string p.file] 85)).drew:=((ax.alloc _).alloc _).drew;have iJ:bK ((w.alloc (.cells #[.int .i64 5,.int .i64 Wn,.int .i64 A,.int .i64 B,.string ⟨sl.toArray⟩] 36)).alloc (.cells #[PtrTo p.X 0,PtrTo p.Y 0,.string p.file] 85)).drew w.heap.size [.int .i64 5,.int .i64 Wn,.int .i64 A,.int .i64 B,.string ⟨sl.toArray⟩] 36:=(bK.bO w [.int .i64 5,.int .i64 Wn,.int .i64 A,.int .i64 B,.string ⟨sl.toArray⟩] 36).kept (((Kp.refl (fun _=>False) _).alloc _).drew) id;have bT:bK ((w.alloc (.cells #[.int .i64 5,.int .i64 Wn,.int .i64 A,.int .i64 B,.string ⟨sl.toArray⟩] 36)).alloc (.cells #[PtrTo p.X 0,PtrTo p.Y 0,.string p.file] 85)).drew (w.heap.size+1) [PtrTo p.X 0,PtrTo p.Y 0,.string p.file] 85:=by
   have:=bK.bO (w.alloc (.cells #[.int .i64 5,.int .i64 Wn,.int .i64 A,.int .i64 B,.string ⟨sl.toArray⟩] 36)) [PtrTo p.X 0,PtrTo p.Y 0,.string p.file] 85;rw[show(w.alloc (.cells #[.int .i64 5,.int .i64 Wn,.int .i64 A,.int .i64 B,.string ⟨sl.toArray⟩] 36)).heap.size=w.heap.size+1 from aj]at this;exact this
  generalize((w.alloc _).alloc _).drew=W2 at*;clear n0 n1 q0 t0 t1 t2 jJ;have a0:=iJ.cell 0;have a1:=iJ.cell 1;have a2:=iJ.cell 2;have a3:=iJ.cell 3;have a4:=iJ.cell 4;have c0:=bT.cell 0;have c1:=bT.cell 1;have c2:=bT.cell 2;simp only[au]at a0 a1 a2 a3 a4 c0 c1 c2;have h2:=h.ext xw;have hP2:=hP.ext xw;have ht2:∀b,W2.heap.size≤b→O b=.no:=h2.k.top;have hTx:¬Mine p.cx (w.heap.size+1):=fun e=>by have:=hP.ox _ e;rw[h.k.top _ af]at this;cases this
  have Cv:=hide hTx;clear hTx;have HC:=hide (yG O W2 i p N hP2 ht2 af 5 Wn A B sl aj _hA.1 _hA.2 _hB.1 _hB.2 _hsl)
  go_wp2_with (go_at_call 36;refine(bH HC).mono ?_;rintro e W5 ⟨rfl,hout⟩)
  go_ret;exact jr.pair h hpi xw hout rfl)
theorem Sr (O:ig)(w:World)(Wb:Nat)(tv iv av rv:Value)(ps:List Pr)(li:List KI)(la:List KA)(lr:List KR)(N:Nat)(h:kg O w Wb tv iv av rv ps li la lr N)(hps:0<ps.length)(hpb:ps.length≤1000)(_hN:N≤900000000)(_hb:li.length≤700000000∧la.length≤700000000∧lr.length≤700000000)(Wn A B:Int)(sl:List UInt8)(hW:kP Wn)(_hA:kP A)(_hB:kP B)(_hsl:sl.length≤2000000):
 Calls Tryz.prog 13 #[PtrTo Wb 0,tY 8 Wn A B ⟨sl.toArray⟩] w fun e w'=>jr O w w' e Wb tv ps li la lr N:=by
 obtain⟨g,cap,rfl,hcap,oh,hcell⟩:=h.tw.at hps;have hil:=jo Wn ps.length hps;have jJ:=hide (fun u=>iI u Wn ps.length hW.1 hW.2 af af);obtain⟨i,hie⟩:∃i,i=f_ Wn ps.length:=⟨_,rfl⟩
 rw[←hie]at hil jJ;clear hie;have hpi:ps[i]?=some ps[i]:=ay hil;have hP:=h.sV i _ hpi;have t0:=hcell (i*3+0) af;have t1:=hcell (i*3+1) af;have t2:=hcell (i*3+2) af;rw[iq 3 dR (fun _=>rfl) ps i _ hil af]at t0 t1 t2;obtain⟨p,hpe⟩:∃p,p=ps[i]:=⟨_,rfl⟩
 rw[←hpe]at t0 t1 t2 hP hpi;simp only[dR,au,Nat.add_zero]at t0 t1 t2;clear hpe hcell;have q0:=h.k.wb.cell 0;simp only[aA]at q0;have i0:(0:Int)≤(i:Int):=af;have i1:(i:Int)<(ps.length:Int):=af;have n0:=World.new_ne w _ q0;have n1:=World.new_ne w _ t0;go_enter Tryz.func13,Tryz.ntmps13
 go_wp2_with fail
 go_region_held3 (fun u=>u.cell? ⟨Wb,0,none⟩=some (.slice (some ⟨g,0,none⟩) ps.length cap)∧u.cell? ⟨w.heap.size,1,none⟩=some (.int .i64 Wn)∧u.cell? ⟨g,i*3,none⟩=some (PtrTo p.X 0)∧u.cell? ⟨g,i*3+1,none⟩=some (PtrTo p.Y 0)∧u.cell? ⟨g,i*3+2,none⟩=some (.string p.file)) (go_keep) (first|(go_at_call 33;refine((bH jJ) _).mono ?_;rintro e w' ⟨rfl,rfl⟩)|fail)
 all_goals(
  have xw:Ext w ((w.alloc (.cells #[.int .i64 8,.int .i64 Wn,.int .i64 A,.int .i64 B,.string ⟨sl.toArray⟩] 36)).alloc (.cells #[PtrTo p.X 0,PtrTo p.Y 0,.string p.file] 85)).drew:=((ax.alloc _).alloc _).drew;have iJ:bK ((w.alloc (.cells #[.int .i64 8,.int .i64 Wn,.int .i64 A,.int .i64 B,.string ⟨sl.toArray⟩] 36)).alloc (.cells #[PtrTo p.X 0,PtrTo p.Y 0,.string p.file] 85)).drew w.heap.size [.int .i64 8,.int .i64 Wn,.int .i64 A,.int .i64 B,.string ⟨sl.toArray⟩] 36:=(bK.bO w [.int .i64 8,.int .i64 Wn,.int .i64 A,.int .i64 B,.string ⟨sl.toArray⟩] 36).kept (((Kp.refl (fun _=>False) _).alloc _).drew) id;have bT:bK ((w.alloc (.cells #[.int .i64 8,.int .i64 Wn,.int .i64 A,.int .i64 B,.string ⟨sl.toArray⟩] 36)).alloc (.cells #[PtrTo p.X 0,PtrTo p.Y 0,.string p.file] 85)).drew (w.heap.size+1) [PtrTo p.X 0,PtrTo p.Y 0,.string p.file] 85:=by
   have:=bK.bO (w.alloc (.cells #[.int .i64 8,.int .i64 Wn,.int .i64 A,.int .i64 B,.string ⟨sl.toArray⟩] 36)) [PtrTo p.X 0,PtrTo p.Y 0,.string p.file] 85;rw[show(w.alloc (.cells #[.int .i64 8,.int .i64 Wn,.int .i64 A,.int .i64 B,.string ⟨sl.toArray⟩] 36)).heap.size=w.heap.size+1 from aj]at this;exact this
  generalize((w.alloc _).alloc _).drew=W2 at*;clear n0 n1 q0 t0 t1 t2 jJ;have a0:=iJ.cell 0;have a1:=iJ.cell 1;have a2:=iJ.cell 2;have a3:=iJ.cell 3;have a4:=iJ.cell 4;have c0:=bT.cell 0;have c1:=bT.cell 1;have c2:=bT.cell 2;simp only[au]at a0 a1 a2 a3 a4 c0 c1 c2;have h2:=h.ext xw;have hP2:=hP.ext xw;have ht2:∀b,W2.heap.size≤b→O b=.no:=h2.k.top;have hTx:¬Mine p.cx (w.heap.size+1):=fun e=>by have:=hP.ox _ e;rw[h.k.top _ af]at this;cases this
  have Cv:=hide hTx;clear hTx;have heq:=gB.state hP.sO;have HX:=hide (Qx p.cx W2 p.X p.P p.m hP2.x.1);have HY:=hide (QA p.cy W2 p.Y p.r hP2.y.K_);rw[heq]at HX
  go_wp2_with (first|(go_at_call 41;refine(bH HY).mono ?_;rintro e w5 ⟨rfl,VQ⟩;have GZ:=VQ.symm;subst GZ;clear VQ)|(go_at_call 18;refine(bH HX).mono ?_;rintro e w5 ⟨rfl,VQ⟩;have GZ:=VQ.symm;subst GZ;clear VQ))
  go_ret;exact jr.pair h hpi xw (kD.same hP2 ht2 af) aj)
theorem VR (O:ig)(w:World)(Wb:Nat)(tv iv av rv:Value)(ps:List Pr)(li:List KI)(la:List KA)(lr:List KR)(N:Nat)(h:kg O w Wb tv iv av rv ps li la lr N)(hps:0<ps.length)(hpb:ps.length≤1000)(_hN:N≤900000000)(_hb:li.length≤700000000∧la.length≤700000000∧lr.length≤700000000)(kind Wn A B:Int)(sl:List UInt8)(hk:∀j:Int,1≤j→j≤9→kind≠j)(hW:kP Wn)(_hA:kP A)(_hB:kP B)(_hsl:sl.length≤2000000):
 Calls Tryz.prog 13 #[PtrTo Wb 0,tY kind Wn A B ⟨sl.toArray⟩] w fun e w'=>jr O w w' e Wb tv ps li la lr N:=by
 obtain⟨g,cap,rfl,hcap,oh,hcell⟩:=h.tw.at hps;have hil:=jo Wn ps.length hps;have jJ:=hide (fun u=>iI u Wn ps.length hW.1 hW.2 af af);obtain⟨i,hie⟩:∃i,i=f_ Wn ps.length:=⟨_,rfl⟩
 rw[←hie]at hil jJ;clear hie;have hpi:ps[i]?=some ps[i]:=ay hil;have hP:=h.sV i _ hpi;have t0:=hcell (i*3+0) af;have t1:=hcell (i*3+1) af;have t2:=hcell (i*3+2) af;rw[iq 3 dR (fun _=>rfl) ps i _ hil af]at t0 t1 t2;obtain⟨p,hpe⟩:∃p,p=ps[i]:=⟨_,rfl⟩
 rw[←hpe]at t0 t1 t2 hP hpi;simp only[dR,au,Nat.add_zero]at t0 t1 t2;clear hpe hcell;have q0:=h.k.wb.cell 0;simp only[aA]at q0;have i0:(0:Int)≤(i:Int):=af;have i1:(i:Int)<(ps.length:Int):=af;have n0:=World.new_ne w _ q0;have n1:=World.new_ne w _ t0;go_enter Tryz.func13,Tryz.ntmps13
 go_wp2_with fail
 go_region_held3 (fun u=>u.cell? ⟨Wb,0,none⟩=some (.slice (some ⟨g,0,none⟩) ps.length cap)∧u.cell? ⟨w.heap.size,1,none⟩=some (.int .i64 Wn)∧u.cell? ⟨g,i*3,none⟩=some (PtrTo p.X 0)∧u.cell? ⟨g,i*3+1,none⟩=some (PtrTo p.Y 0)∧u.cell? ⟨g,i*3+2,none⟩=some (.string p.file)) (go_keep) (first|(go_at_call 33;refine((bH jJ) _).mono ?_;rintro e w' ⟨rfl,rfl⟩)|fail)
 all_goals(
  have xw:Ext w ((w.alloc (.cells #[.int .i64 kind,.int .i64 Wn,.int .i64 A,.int .i64 B,.string ⟨sl.toArray⟩] 36)).alloc (.cells #[PtrTo p.X 0,PtrTo p.Y 0,.string p.file] 85)).drew:=((ax.alloc _).alloc _).drew;have iJ:bK ((w.alloc (.cells #[.int .i64 kind,.int .i64 Wn,.int .i64 A,.int .i64 B,.string ⟨sl.toArray⟩] 36)).alloc (.cells #[PtrTo p.X 0,PtrTo p.Y 0,.string p.file] 85)).drew w.heap.size [.int .i64 kind,.int .i64 Wn,.int .i64 A,.int .i64 B,.string ⟨sl.toArray⟩] 36:=(bK.bO w [.int .i64 kind,.int .i64 Wn,.int .i64 A,.int .i64 B,.string ⟨sl.toArray⟩] 36).kept (((Kp.refl (fun _=>False) _).alloc _).drew) id;have bT:bK ((w.alloc (.cells #[.int .i64 kind,.int .i64 Wn,.int .i64 A,.int .i64 B,.string ⟨sl.toArray⟩] 36)).alloc (.cells #[PtrTo p.X 0,PtrTo p.Y 0,.string p.file] 85)).drew (w.heap.size+1) [PtrTo p.X 0,PtrTo p.Y 0,.string p.file] 85:=by
   have:=bK.bO (w.alloc (.cells #[.int .i64 kind,.int .i64 Wn,.int .i64 A,.int .i64 B,.string ⟨sl.toArray⟩] 36)) [PtrTo p.X 0,PtrTo p.Y 0,.string p.file] 85;rw[show(w.alloc (.cells #[.int .i64 kind,.int .i64 Wn,.int .i64 A,.int .i64 B,.string ⟨sl.toArray⟩] 36)).heap.size=w.heap.size+1 from aj]at this;exact this
  generalize((w.alloc _).alloc _).drew=W2 at*;clear n0 n1 q0 t0 t1 t2 jJ;have a0:=iJ.cell 0;have a1:=iJ.cell 1;have a2:=iJ.cell 2;have a3:=iJ.cell 3;have a4:=iJ.cell 4;have c0:=bT.cell 0;have c1:=bT.cell 1;have c2:=bT.cell 2;simp only[au]at a0 a1 a2 a3 a4 c0 c1 c2;have h2:=h.ext xw;have hP2:=hP.ext xw;have ht2:∀b,W2.heap.size≤b→O b=.no:=h2.k.top;have hTx:¬Mine p.cx (w.heap.size+1):=fun e=>by have:=hP.ox _ e;rw[h.k.top _ af]at this;cases this
  have Cv:=hide hTx;clear hTx;have z1:(kind==1)=false:=by have:=hk 1 af af;simpa using this
  have z2:(kind==2)=false:=by have:=hk 2 af af;simpa using this
  have z3:(kind==3)=false:=by have:=hk 3 af af;simpa using this
  have z4:(kind==4)=false:=by have:=hk 4 af af;simpa using this
  have z5:(kind==5)=false:=by have:=hk 5 af af;simpa using this
  have z6:(kind==6)=false:=by have:=hk 6 af af;simpa using this
  have z7:(kind==7)=false:=by have:=hk 7 af af;simpa using this
  have z8:(kind==8)=false:=by have:=hk 8 af af;simpa using this
  have z9:(kind==9)=false:=by have:=hk 9 af af;simpa using this
  clear hk
  go_wp2_with fail
  go_ret;exact jr.pair h hpi xw (kD.same hP2 ht2 af) rfl)
theorem ZP {o:Option (List (List Int))}{e:Ending}{C:Nat→Prop}{w:World}(h:(o=none∧e=.returned (.slice none 0 0))∨∃ls Lb vs,o=some ls∧e=.returned (.slice (some ⟨Lb,0,none⟩) ls.length ls.length)∧iM C w Lb vs ls):∃lv vs ls,e=.returned lv∧ls=o.getD []∧vs.length=ls.length∧t_ C w lv vs ls:=by
 rcases h with⟨h1,h2⟩|⟨ls,Lb,vs,h1,h2,h3⟩
 ·exact⟨_,[],[],h2,by rw[h1];rfl,rfl,.inl ⟨rfl,rfl⟩⟩
 ·exact⟨_,vs,ls,h2,by rw[h1];rfl,h3.len,.inr ⟨Lb,rfl,h3⟩⟩
theorem t_.kept {S:Nat→Prop}{C:Nat→Prop}{w w':World}{v:Value}{vs:List Value}{ls:List (List Int)}(h:t_ C w v vs ls)(k:Kp S w w')(hS:∀g,C g→g<w.heap.size→¬S g):t_ C w' v vs ls:=by
 rcases h with h|⟨Lb,e,hN⟩
 ·exact .inl h
 ·exact .inr ⟨Lb,e,hN.kept k hS⟩
theorem VS {r:Pl.cO}(hok:r.state=0→Sb r):((Pl.iE r).2.getD []).length≤4∧∀l∈(Pl.iE r).2.getD [],l.length≤20:=by
 unfold Pl.iE;split
 ·rename_i h0;have hk:=hok h0;split
  ·exact⟨aj,fun l hl=>by simp at hl⟩
  ·rename_i hn;have hn1:1≤Pl.nD r:=af;have hne:r.rows≠[]:=fun e=>by
    unfold Pl.nD at hn1;rw[e]at hn1;simp at hn1
   have hw:=hk.want hne;have hnr:=hk.nr;have hnn:Pl.nD r≤r.dh:=by unfold Pl.nD;omega
   refine⟨by simpa using hw,fun l hl=>?_⟩;simp only[Option.getD_some,List.mem_map]at hl;obtain⟨j,-,rfl⟩:=hl;rw[aU];omega
 ·exact⟨aj,fun l hl=>by simp at hl⟩
theorem VT (O:ig)(w:World)(Wb:Nat)(tv iv av rv:Value)(ps:List Pr)(li:List KI)(la:List KA)(lr:List KR)(N:Nat)(h:kg O w Wb tv iv av rv ps li la lr N)(hps:0<ps.length)(hpb:ps.length≤1000)(_hN:N≤900000000)(hb:li.length≤700000000∧la.length≤700000000∧lr.length≤700000000)(Wn A B:Int)(sl:List UInt8)(hW:kP Wn)(_hA:kP A)(_hB:kP B)(_hsl:sl.length≤2000000):
 Calls Tryz.prog 13 #[PtrTo Wb 0,tY 7 Wn A B ⟨sl.toArray⟩] w fun e w'=>jr O w w' e Wb tv ps li la lr N:=by
 obtain⟨g,cap,rfl,hcap,oh,hcell⟩:=h.tw.at hps;have hil:=jo Wn ps.length hps;have jJ:=hide (fun u=>iI u Wn ps.length hW.1 hW.2 af af);obtain⟨i,hie⟩:∃i,i=f_ Wn ps.length:=⟨_,rfl⟩
 rw[←hie]at hil jJ;clear hie;have hpi:ps[i]?=some ps[i]:=ay hil;have hP:=h.sV i _ hpi;have t0:=hcell (i*3+0) af;have t1:=hcell (i*3+1) af;have t2:=hcell (i*3+2) af;rw[iq 3 dR (fun _=>rfl) ps i _ hil af]at t0 t1 t2;obtain⟨p,hpe⟩:∃p,p=ps[i]:=⟨_,rfl⟩
 rw[←hpe]at t0 t1 t2 hP hpi;simp only[dR,au,Nat.add_zero]at t0 t1 t2;clear hpe hcell;have q0:=h.k.wb.cell 0;simp only[aA]at q0;have i0:(0:Int)≤(i:Int):=af;have i1:(i:Int)<(ps.length:Int):=af;have n0:=World.new_ne w _ q0;have n1:=World.new_ne w _ t0;go_enter Tryz.func13,Tryz.ntmps13
 go_wp2_with fail
 go_region_held3 (fun u=>u.cell? ⟨Wb,0,none⟩=some (.slice (some ⟨g,0,none⟩) ps.length cap)∧u.cell? ⟨w.heap.size,1,none⟩=some (.int .i64 Wn)∧u.cell? ⟨g,i*3,none⟩=some (PtrTo p.X 0)∧u.cell? ⟨g,i*3+1,none⟩=some (PtrTo p.Y 0)∧u.cell? ⟨g,i*3+2,none⟩=some (.string p.file)) (go_keep) (first|(go_at_call 33;refine((bH jJ) _).mono ?_;rintro e w' ⟨rfl,rfl⟩)|fail)
 all_goals(
  have xw:Ext w ((w.alloc (.cells #[.int .i64 7,.int .i64 Wn,.int .i64 A,.int .i64 B,.string ⟨sl.toArray⟩] 36)).alloc (.cells #[PtrTo p.X 0,PtrTo p.Y 0,.string p.file] 85)).drew:=((ax.alloc _).alloc _).drew;have iJ:bK ((w.alloc (.cells #[.int .i64 7,.int .i64 Wn,.int .i64 A,.int .i64 B,.string ⟨sl.toArray⟩] 36)).alloc (.cells #[PtrTo p.X 0,PtrTo p.Y 0,.string p.file] 85)).drew w.heap.size [.int .i64 7,.int .i64 Wn,.int .i64 A,.int .i64 B,.string ⟨sl.toArray⟩] 36:=(bK.bO w [.int .i64 7,.int .i64 Wn,.int .i64 A,.int .i64 B,.string ⟨sl.toArray⟩] 36).kept (((Kp.refl (fun _=>False) _).alloc _).drew) id;have bT:bK ((w.alloc (.cells #[.int .i64 7,.int .i64 Wn,.int .i64 A,.int .i64 B,.string ⟨sl.toArray⟩] 36)).alloc (.cells #[PtrTo p.X 0,PtrTo p.Y 0,.string p.file] 85)).drew (w.heap.size+1) [PtrTo p.X 0,PtrTo p.Y 0,.string p.file] 85:=by
   have:=bK.bO (w.alloc (.cells #[.int .i64 7,.int .i64 Wn,.int .i64 A,.int .i64 B,.string ⟨sl.toArray⟩] 36)) [PtrTo p.X 0,PtrTo p.Y 0,.string p.file] 85;rw[show(w.alloc (.cells #[.int .i64 7,.int .i64 Wn,.int .i64 A,.int .i64 B,.string ⟨sl.toArray⟩] 36)).heap.size=w.heap.size+1 from aj]at this;exact this
  generalize((w.alloc _).alloc _).drew=W2 at*;clear n0 n1 q0 t0 t1 t2 jJ;have a0:=iJ.cell 0;have a1:=iJ.cell 1;have a2:=iJ.cell 2;have a3:=iJ.cell 3;have a4:=iJ.cell 4;have c0:=bT.cell 0;have c1:=bT.cell 1;have c2:=bT.cell 2;simp only[au]at a0 a1 a2 a3 a4 c0 c1 c2;have h2:=h.ext xw;have hP2:=hP.ext xw;have ht2:∀b,W2.heap.size≤b→O b=.no:=h2.k.top;have hTx:¬Mine p.cx (w.heap.size+1):=fun e=>by have:=hP.ox _ e;rw[h.k.top _ af]at this;cases this
  have Cv:=hide hTx;clear hTx;have HBN:=hide (VS (r:=p.r) (fun h0=>gB.BU hP.sO hP.x.2 hP.rb h0));obtain⟨heq,-⟩:=gB.next hP.sO hP.x.2;have HX:=hide (Sm p.cx W2 p.X p.P p.m N hP2.x);rw[heq]at HX
  go_wp2_with fail
  refine(bH HX).mono ?_;rintro e W4 ⟨hout,hx4,lS⟩;obtain⟨lv,vs,ls,rfl,hle,hvl,hls⟩:=ZP hout;clear hout;obtain⟨ao,rfl⟩:=hls.shape;have HY:=hide (hP2.afo lS);have c1':=lS.kept.cell c1 Cv.out;have hyo:∀b,W2.heap.size≤b→p.cy b=.out:=hP2.y.top;have hbd:ls.length≤4∧∀l∈ls,l.length≤20:=by rw[hle];exact HBN.out
  have Dy:=hide hle;have YQ:=hide hvl;have HYO:=hide hyo;have VU:=hide hbd;clear hle hvl hyo hbd
  go_wp2_with fail
  refine(bH HY).mono ?_;rintro e W5 ⟨hout,zJ,xC⟩;obtain⟨bv,vsb,lsb,rfl,hle,ajw,hlsb⟩:=ZP hout;clear hout ajw;rw[←Dy.out]at hle;have hle2:=hle.symm;subst hle2;clear hle;obtain⟨bo,rfl⟩:=hlsb.shape;have Yo:=hls.kept xC.kept (fun g hg _ e=>e (HYO.out g hg));have J2:=hide (NY (fun g=>W2.heap.size≤g) (fun g=>W4.heap.size≤g) W5 _ _ vs vsb ls Yo hlsb (by have:=VU.out.1;omega) (fun l hl=>by have:=VU.out.2 l hl;omega))
  go_wp2_with fail
  refine(bH J2).mono ?_;rintro e W6 ⟨rfl,x6⟩;obtain⟨k1,k2,k3,k4⟩:=hP2.aaM ht2 hx4 lS zJ xC;have z25:W2.heap.size≤W5.heap.size:=aO lS.kept.size xC.kept.size;have hL:=kg.step (M:=N+25) (p':={p with m:=(Pl.next p.m).1,r:=(Pl.iE p.r).1}) h2 hpi rfl k1 k2 k3 (fun b hb=>k4 b (aO z25 hb)) af (fun j q hq=>(h2.sV j q hq).x.2.mono af);have hL6:=hL.ext x6;have hrows:RowsIn (wZ O W2 p.cx p.cy i) W6 (.slice ao ls.length ls.length) vs ls:=by
   refine⟨YQ.out,?_⟩;rcases Yo.ext x6 with e|⟨Lb,e,hN6⟩
   ·exact .inl e
   ·exact .inr ⟨Lb,e,hN6.Ad (fun q hq _=>k4 q hq)⟩
  have HK:=hide (NV _ W6 Wb _ iv av rv _ li la lr vs ls hL6.k hrows af af (by have:=VU.out.1;omega) (fun l hl=>by have:=VU.out.2 l hl;omega));have anx:=hide (And.intro k1 (And.intro k2 (And.intro k3 k4)));have HL6:=hide hL6;clear hL hrows Yo hlsb hls
  go_wp2_with fail
  refine(bH HK).mono ?_;rintro e W7 ⟨O7,iv7,rv7,li7,x7,rfl,hk7,UQ,kp7,ho7⟩;have HL7:=hide UQ;clear UQ
  go_wp2_with fail
  go_ret;have UQ:=HL7.out;have hbl:=VU.out.1;refine jr.mk O7 iv7 av rv7 _ (li++li7) la (lr++[x7]) rfl (hL6.keeps hk7 (kp7.mono (fun b _ e=>?_)) ho7) aj (by rw[aD];omega) af aj (((Kp.cZ xw).then k2 (fun b _ e=>?_)).then ((Kp.cZ x6).trans kp7) (fun b hb e=>?_)) (fun b hb hne=>?_)
  ·rcases e with e|e|e|e
   ·exact .inl e
   ·exact .inr (.inl e)
   ·exact .inr (.inr (.inr (.inl e)))
   ·exact .inr (.inr (.inr (.inr e)))
  ·rcases e with e|e<;>rw[e]<;>simp
  ·rw[k3 b (aY hb xw.size)]at e;rcases e with e|e|e|e<;>rw[e]<;>simp
  ·have e3:=k3 b (aY hb xw.size);have z:=aY (aY hb xw.size) (aO z25 x6.size);rw[ho7 b z (by rw[e3];exact hne),e3])
section
variable{O:ig}{w w':World}{Wb:Nat}{tv iv av rv:Value}{li:List KI}{la:List KA}{lr:List KR}
theorem rO.aaO (h:rO O w Wb tv iv av rv li la lr){eZ:Value}{x:KA}(hb:la.length≤900000000)(r1:bK w' Wb [tv,iv,eZ,rv] 32)(r2:Own w' 5 eZ (la.length+1) (la.flatMap oL++oL x))(r3:E5 (fun g=>w.heap.size≤g∧eZ.ownBlock≠some g) w' x)(r4:Kp (fun k=>k=Wb∨Of av k) w w')(r5:∀g,eZ.ownBlock=some g→av.ownBlock=some g∨w.heap.size≤g):
 rO (sS O w w' (.slice none 0 0) eZ .av) w' Wb tv iv eZ rv li (la++[x]) lr∧Kp (fun b=>O b=.wb∨O b=.av) w w'∧(∀b,b<w.heap.size→sS O w w' (.slice none 0 0) eZ .av b=O b):=by
 have hk:=h.kept;have hz:=r4.size;have hln:∀b,(Value.slice none 0 0).ownBlock≠some b:=fun b e=>by simp[Value.ownBlock]at e
 have hno:∀c,c≠.wb→c≠.av→∀b,O b=c→¬(b=Wb∨Of av b):=fun c h1 h2 b hb e=>by
  rcases e with e|e
  ·rw[e,h.rP]at hb;exact h1 hb.symm
  ·rw[h.oa b e]at hb;exact h2 hb.symm
 have hold:∀b c,O b=c→c≠.no→sS O w w' (.slice none 0 0) eZ .av b=c:=fun b c hb hc=>by
  have hlt:b<w.heap.size:=Classical.byContradiction fun e=>hc (by rw[←hb];exact h.top b af)
  rw[vT hlt (hln b)];exact hb
 refine⟨⟨r1,hold _ _ h.rP aj,⟨hk.oi.kept r4 (fun g hg=>hno _ aj aj g (h.oi g hg)),by rw[aD,List.flatMap_append];simpa using r2,hk.oF.kept r4 (fun g hg=>hno _ aj aj g (h.oF g hg)),fun y hy=>(hk.ki y hy).go r4 (fun b hb=>hno _ aj aj b hb) (fun b _ e=>hold b _ e aj),fun y hy=>?_,fun y hy=>(hk.kr y hy).go r4 (fun b hb=>hno _ aj aj b hb) (fun b _ e=>hold b _ e aj),hk.bi,by simp;omega,hk.br⟩,fun g hg=>hold _ _ (h.oi g hg) aj,fun g hg=>?_,fun g hg=>hold _ _ (h.oF g hg) aj,fun b hb=>?_⟩,r4.mono (fun b _ e=>?_),fun b hb=>vT hb (hln b)⟩
 ·rcases aI.1 hy with hy|hy
  ·exact(hk.ka y hy).go r4 (fun b hb=>hno _ aj aj b hb) (fun b _ e=>hold b _ e aj)
  ·obtain rfl:=aZ.1 hy;exact r3.go (Kp.refl (fun _=>False) _) (fun _ _ f=>f) (fun b hlt hb=>IA af hb.2 hlt)
 ·rcases r5 g hg with e|e
  ·exact hold _ _ (h.oa g e) aj
  ·exact Iz af hg
 ·exact IB af hz (fun e=>by have:=r2.lt e;omega)
 ·rcases e with e|e
  ·exact .inl (by rw[e];exact h.rP)
  ·exact .inr (h.oa b e)
end
theorem VW {O:ig}{w:World}{i N:Nat}{p:Pr}(h:iC O w i p N):p.m.asked.length≤1000:=by
 rcases h.x.2 with⟨why,-,-,e⟩|hg
 ·rw[e];simp[Pl.ended]
 ·have:=hg.waits.2;omega
theorem Sv (O:ig)(w:World)(Wb:Nat)(tv iv av rv:Value)(ps:List Pr)(li:List KI)(la:List KA)(lr:List KR)(N:Nat)(h:kg O w Wb tv iv av rv ps li la lr N)(hps:0<ps.length)(hpb:ps.length≤1000)(hN:N≤900000000)(hb:li.length≤700000000∧la.length≤700000000∧lr.length≤700000000)(Wn A B:Int)(sv:ByteArray)(hW:kP Wn):
 Calls Tryz.prog 13 #[PtrTo Wb 0,tY 1 Wn A B sv] w fun e w'=>jr O w w' e Wb tv ps li la lr N:=by
 obtain⟨g,cap,sJ,hcap,oh,hcell⟩:=h.tw.at hps;have hil:=jo Wn ps.length hps;have hpi:ps[f_ Wn ps.length]?=some ps[f_ Wn ps.length]:=ay hil;have hP:=h.sV _ _ hpi;have t0:=hcell (f_ Wn ps.length*3+0) af;have t1:=hcell (f_ Wn ps.length*3+1) af;have t2:=hcell (f_ Wn ps.length*3+2) af;rw[iq 3 dR (fun _=>rfl) ps _ _ hil af]at t0 t1 t2;obtain⟨p,hpe⟩:∃p,p=ps[f_ Wn ps.length]:=⟨_,rfl⟩
 rw[←hpe]at t0 t1 t2 hP hpi;simp only[dR,au,Nat.add_zero]at t0 t1 t2;have hon:On w Wb tv iv av rv ps.length (f_ Wn ps.length) p.X p.Y p.file Wn:=⟨h.k.wb,hil,⟨g,cap,sJ,hcap,oh,t0,t1,t2⟩,fun u=>iI u Wn ps.length hW.1 hW.2 af af⟩
 have haW:av.ownBlock≠some Wb:=fun e=>by have:=h.k.oa Wb e;rw[h.k.rP]at this;cases this
 have hRb:=hP.rb;refine(NR w Wb tv iv av rv ps.length _ p.X p.Y p.P la.length p.file sv Wn A B _ p.cx p.cy p.m p.r hon hpb h.k.kept.oa haW af hP.x.1 hP.y.K_ (gB.asked hP.sO hP.ids) (VW hP) (aO hRb.made af) (aO hRb.few af) (fun q hq=>by have:=hRb.pc q hq;omega)).mono ?_;rintro e w' ⟨he,eZ,x,r1,r2,r3,r4,r5⟩;obtain⟨z1,z2,z3⟩:=h.k.aaO af r1 r2 r3 r4 r5;have hL:kg O w Wb tv iv av rv ps li la lr (N+25):=⟨h.k,h.tw,h.GV,fun j q hq=>(h.sV j q hq).mono af ((h.sV j q hq).x.2.mono af)⟩
 refine jr.mk _ iv eZ rv ps li (la++[x]) lr he (hL.keeps z1 (z2.mono (fun b _ e=>?_)) (fun b hb _=>z3 b hb)) rfl af aj af (z2.mono (fun b _ e=>?_)) (fun b hb _=>z3 b hb)
 ·rcases e with e|e
  ·exact .inl e
  ·exact .inr (.inr (.inl e))
 ·rcases e with e|e<;>rw[e]<;>simp
theorem pR (O:ig)(w:World)(Wb:Nat)(tv iv av rv:Value)(ps:List Pr)(li:List KI)(la:List KA)(lr:List KR)(N:Nat)(h:kg O w Wb tv iv av rv ps li la lr N)(hps:0<ps.length)(hpb:ps.length≤1000)(hN:N≤900000000)(hb:li.length≤700000000∧la.length≤700000000∧lr.length≤700000000)(kind Wn A B:Int)(sl:List UInt8)(hW:kP Wn)(hA:kP A)(hB:kP B)(hsl:sl.length≤2000000):
 Calls Tryz.prog 13 #[PtrTo Wb 0,tY kind Wn A B ⟨sl.toArray⟩] w fun e w'=>jr O w w' e Wb tv ps li la lr N:=by
 by_cases h1:kind=1
 ·subst h1;exact Sv O w Wb tv iv av rv ps li la lr N h hps hpb hN hb Wn A B _ hW
 by_cases h2:kind=2
 ·subst h2;exact OX O w Wb tv iv av rv ps li la lr N h hps hpb hN hb Wn A B sl hW hA hB hsl
 by_cases h3:kind=3
 ·subst h3;exact OY O w Wb tv iv av rv ps li la lr N h hps hpb hN hb Wn A B sl hW hA hB hsl
 by_cases h4:kind=4
 ·subst h4;exact OZ O w Wb tv iv av rv ps li la lr N h hps hpb hN hb Wn A B sl hW hA hB hsl
 by_cases h5:kind=5
 ·subst h5;exact O8 O w Wb tv iv av rv ps li la lr N h hps hpb hN hb Wn A B sl hW hA hB hsl
 by_cases h6:kind=6
 ·subst h6;exact VP O w Wb tv iv av rv ps li la lr N h hps hpb hN hb Wn A B sl hW hA hB hsl
 by_cases h7:kind=7
 ·subst h7;exact VT O w Wb tv iv av rv ps li la lr N h hps hpb hN hb Wn A B sl hW hA hB hsl
 by_cases h8:kind=8
 ·subst h8;exact Sr O w Wb tv iv av rv ps li la lr N h hps hpb hN hb Wn A B sl hW hA hB hsl
 by_cases h9:kind=9
 ·subst h9;exact OW O w Wb tv iv av rv ps li la lr N h hps hpb hN hb Wn A B sl hW hA hB hsl
 exact VR O w Wb tv iv av rv ps li la lr N h hps hpb hN hb kind Wn A B sl (fun j hj1 hj2 e=>af) hW hA hB hsl
def J7 (O:ig)(w:World)(tv':Value)(cx cy:bU)(n:Nat):ig:=fun b=>if b<w.heap.size then O b else if tv'.ownBlock=some b then .tv else if cx b≠.out then .x n else if cy b≠.out then .y n else .no
theorem kg.opened {O:ig}{w w':World}{Wb:Nat}{tv iv av rv:Value}{ps:List Pr}{li:List KI}{la:List KA}{lr:List KR}{N:Nat}{file:ByteArray}{m:Pl.Sc}{r:Pl.cO}(h:kg O w Wb tv iv av rv ps li la lr N)(ho:Au w w' Wb tv iv av rv ps.length (ps.flatMap dR) file m r)(hs:gB m r)(hi:fQ m)(hg:Good m N)(hr:Pl.RB N r)(hf:file.size≤1000000000):
 ∃O' tv' p,kg O' w' Wb tv' iv av rv (ps++[p]) li la lr N∧Kp (fun b=>O b=.wb∨O b=.tv) w w'∧∀b,b<w.heap.size→O' b=O b:=by
 obtain⟨tv',X,Y,P,col,dH,blk,own,isX,K_,low,dis,Yu,aeF,kp⟩:=ho;have hz:=kp.size;have hlt:∀b,O b≠.no→b<w.heap.size:=fun b hb=>Classical.byContradiction fun e=>hb (h.k.top b af)
 have hold:∀b,b<w.heap.size→J7 O w tv' col dH ps.length b=O b:=fun b hb=>by unfold J7;rw[if_pos hb]
 have hn:∀b c,O b=c→c≠.no→J7 O w tv' col dH ps.length b=c:=fun b c hb hc=>by rw[hold b (hlt b (by rw[hb];exact hc)),hb]
 have kq:Kp (fun b=>O b=.wb∨O b=.tv) w w':=kp.mono (fun b _ e=>by
  rcases e with e|e
  ·exact .inl (by rw[e];exact h.k.rP)
  ·exact .inr (h.GV b e))
 have hno:∀c,c≠.wb→c≠.tv→∀b,O b=c→¬(O b=.wb∨O b=.tv):=fun c h1 h2 b hb e=>by
  rw[hb]at e;rcases e with e|e
  ·exact h1 e
  ·exact h2 e
 have hk:=h.k.kept;refine⟨J7 O w tv' col dH ps.length,tv',⟨X,P,Y,col,dH,m,r,file⟩,⟨⟨blk,hn _ _ h.k.rP aj,⟨hk.oi.kept kq (fun g hg=>hno _ aj aj g (h.k.oi g hg)),hk.oa.kept kq (fun g hg=>hno _ aj aj g (h.k.oa g hg)),hk.oF.kept kq (fun g hg=>hno _ aj aj g (h.k.oF g hg)),fun x hx=>(hk.ki x hx).go kq (fun b hb=>hno _ aj aj b hb) (fun b _ e=>hn b _ e aj),fun x hx=>(hk.ka x hx).go kq (fun b hb=>hno _ aj aj b hb) (fun b _ e=>hn b _ e aj),fun x hx=>(hk.kr x hx).go kq (fun b hb=>hno _ aj aj b hb) (fun b _ e=>hn b _ e aj),hk.bi,hk.ba,hk.br⟩,fun g hg=>hn _ _ (h.k.oi g hg) aj,fun g hg=>hn _ _ (h.k.oa g hg) aj,fun g hg=>hn _ _ (h.k.oF g hg) aj,fun b hb=>?_⟩,?_,fun g hg=>?_,fun j q hq=>?_⟩,kq,hold⟩
 ·unfold J7;have e1:=isX.Ct b hb;have e2:=K_.top b hb;rw[if_neg af,if_neg (fun e=>by have:=own.lt e;omega),if_neg (fun e=>e e1),if_neg (fun e=>e e2)]
 ·rw[aD,List.flatMap_append];simpa[dR]using own
 ·rcases aeF g hg with e|e
  ·exact hn _ _ (h.GV g e) aj
  ·unfold J7;rw[if_neg af,if_pos hg]
 ·by_cases hj:j<ps.length
  ·rw[aS hj]at hq;refine(h.sV j q hq).kept kq (fun b hb=>?_) (fun b hb=>?_)
   ·rcases hb with e|e<;>rw[e]<;>simp
   ·have hb':O b≠.no:=fun e=>by rcases hb with hb|hb<;>rw[hb]at e<;>cases e
    exact hold b (hlt b hb')
  ·rw[aP af]at hq;have hz0:j-ps.length=0:=by
    cases hq0:j-ps.length with
    |zero=>rfl
    |succ n=>rw[hq0]at hq;simp at hq
   rw[hz0]at hq;obtain rfl:j=ps.length:=af;simp at hq;subst hq;refine⟨⟨isX,hg⟩,K_,hs,hi,hr,fun b hb=>?_,fun b hb=>?_,hf⟩
   ·have hb':col b≠.out:=hb;have hge:¬b<w.heap.size:=fun e=>hb' (low b e).1
    unfold J7;rw[if_neg hge,if_neg (fun e=>hb' (Yu b e).1),if_pos hb']
   ·have hb':dH b≠.out:=hb;have hge:¬b<w.heap.size:=fun e=>hb' (low b e).2
    have hcx:col b=.out:=Classical.byContradiction fun e=>hb' (dis b e)
    unfold J7;rw[if_neg hge,if_neg (fun e=>hb' (Yu b e).2),if_neg (fun e=>e hcx),if_pos hb']
structure Oe where
 nv:Value
 gv:Value
 wv:Value
 ss:List ByteArray
 gs:List (List (List Int))
 ws:List ByteArray
 raw:List UInt8
 tn:Int
 a:Int
 b:Int
 c:Int
 d:Int
def rR (x:Oe):List Value:=[x.nv,x.gv,.string ⟨x.raw.toArray⟩,.int .i64 x.tn,x.wv,.int .i64 x.a,.int .i64 x.b,.int .i64 x.c,.int .i64 x.d]
structure y7 (B0:Nat)(w:World)(x:Oe):Prop where
 names:h_ B0 w x.nv x.ss
 groups:jy B0 w x.gv x.gs
 want:h_ B0 w x.wv x.ws
 raw:x.raw.length≤100000000
 tn:kP x.tn
 ws:x.ws.length≤1000000000
theorem y7.ext {B0:Nat}{w w':World}{x:Oe}(h:y7 B0 w x)(k:Ext w w'):y7 B0 w' x:=⟨h.names.kept k (fun _ f=>f.elim),h.groups.kept k (fun _ f=>f.elim),h.want.kept k (fun _ f=>f.elim),h.raw,h.tn,h.ws⟩
structure Wi where
 kind:Int
 W:Int
 A:Int
 B:Int
 s:List UInt8
def qh (x:Wi):List Value:=[.int .i64 x.kind,.int .i64 x.W,.int .i64 x.A,.int .i64 x.B,.string ⟨x.s.toArray⟩]
structure SB (x:Wi):Prop where
 W:kP x.W
 A:kP x.A
 B:kP x.B
 s:x.s.length≤2000000
def Qn (B0 Wb:Nat):ig:=fun b=>if b<B0 then .arg else if b=Wb then .wb else .no
structure Stand (w wr:World)(O:ig)(Wb:Nat)(tv iv av rv:Value)(ps:List Pr)(li:List KI)(la:List KA)(lr:List KR)(N:Nat):Prop where
 lw:kg O wr Wb tv iv av rv ps li la lr N
 arg:∀b,b<w.heap.size→O b=.arg
 x:Ext w wr
theorem Stand.new (w w1:World)(x:Ext w w1):Stand w (w1.alloc (.cells #[.slice none 0 0,.slice none 0 0,.slice none 0 0,.slice none 0 0] 32)) (Qn w.heap.size w1.heap.size) w1.heap.size (.slice none 0 0) (.slice none 0 0) (.slice none 0 0) (.slice none 0 0) [] [] [] [] 1:=by
 have hz:=x.size;have hW:Qn w.heap.size w1.heap.size w1.heap.size=.wb:=by unfold Qn;rw[if_neg af,if_pos rfl]
 have hnil:∀g,(Value.slice none 0 0).ownBlock≠some g:=fun g e=>by simp[Value.ownBlock]at e
 refine⟨⟨⟨bK.bO w1 [.slice none 0 0,.slice none 0 0,.slice none 0 0,.slice none 0 0] _,hW,⟨Own.nil _ _,Own.nil _ _,Own.nil _ _,fun y hy=>(by simp at hy),fun y hy=>(by simp at hy),fun y hy=>(by simp at hy),aj,aj,aj⟩,fun g hg=>absurd hg (hnil g),fun g hg=>absurd hg (hnil g),fun g hg=>absurd hg (hnil g),fun b hb=>?_⟩,Own.nil _ _,fun g hg=>absurd hg (hnil g),fun i p hp=>by simp at hp⟩,fun b hb=>?_,x.alloc _⟩
 ·have:w1.heap.size+1≤b:=by simpa using hb
  unfold Qn;rw[if_neg af,if_neg af]
 ·unfold Qn;rw[if_pos hb]
theorem Stand.ext {w wr w':World}{O:ig}{Wb:Nat}{tv iv av rv:Value}{ps:List Pr}{li:List KI}{la:List KA}{lr:List KR}{N:Nat}(h:Stand w wr O Wb tv iv av rv ps li la lr N)(k:Ext wr w'):Stand w w' O Wb tv iv av rv ps li la lr N:=⟨h.lw.ext k,h.arg,h.x.trans k⟩
theorem Stand.yK {w wr w':World}{e:Ending}{O:ig}{Wb:Nat}{tv iv av rv:Value}{ps:List Pr}{li:List KI}{la:List KA}{lr:List KR}{N:Nat}(h:Stand w wr O Wb tv iv av rv ps li la lr N)(ho:jr O wr w' e Wb tv ps li la lr N):e=.returned (.bool true)∧∃O' sU eZ rv' ps' vv la' Eo,Stand w w' O' Wb tv sU eZ rv' ps' vv la' Eo (N+25)∧ps'.length=ps.length∧vv.length≤li.length+100∧la'.length≤la.length+1∧Eo.length≤lr.length+1:=by
 obtain⟨O',sU,eZ,rv',ps',vv,la',Eo,he,hL,hp,h1,h2,h3,kp,hs⟩:=ho;refine⟨he,O',sU,eZ,rv',ps',vv,la',Eo,⟨hL,fun b hb=>?_,h.x.then kp (fun b hb e=>e (h.arg b hb))⟩,hp,h1,h2,h3⟩;have e:=h.arg b hb;rw[hs b (aY hb h.x.size) (by rw[e];simp),e]
theorem Stand.opened {w wr w':World}{O:ig}{Wb:Nat}{tv iv av rv:Value}{ps:List Pr}{li:List KI}{la:List KA}{lr:List KR}{file:ByteArray}{size:Nat}{want:List (List UInt8)}{W T R G:Nat}(h:Stand w wr O Wb tv iv av rv ps li la lr 1)(ho:Au wr w' Wb tv iv av rv ps.length (ps.flatMap dR) file (Pl.kG size want W T R G) (Pl.qJ size want W T R G))(hs:size≤4000)(hW:1≤W∧W≤4)(hT:1≤T∧T≤4)(hR:R≤20)(hG:G≤32)(hw:want.length≤1000000000)(hf:file.size≤1000000000):
 ∃O' tv' p,Stand w w' O' Wb tv' iv av rv (ps++[p]) li la lr 1:=by
 obtain⟨O',tv',p,a,b,c⟩:=h.lw.opened ho (gB.open size want W T R G hs hW.1) (fQ.open size want W T R G) (Good.open size want W T R G hs hW.2 hT.1 hT.2 hR hG) (Pl.RB.open size want W T R G hs hT.2 hR hG hw) hf;refine⟨O',tv',p,a,fun q hq=>?_,h.x.then b (fun q hq e=>?_)⟩
 ·rw[c q (aY hq h.x.size),h.arg q hq]
 ·rw[h.arg q hq]at e;rcases e with e|e<;>cases e
theorem Cy (w:World)(sv cv:Value)(sp:List Oe)(jb:List Wi)(hs:bM (fun b=>b<w.heap.size) false w 9 sv sp.length (sp.flatMap rR))(hsp:∀x∈sp,y7 w.heap.size w x)(hc:bM (fun b=>b<w.heap.size) false w 5 cv jb.length (jb.flatMap qh))(hac:∀x∈jb,SB x)(hsl:sp.length≤1000000000)(hal:jb.length≤2000000):
 Calls Tryz.prog 4 #[sv,cv] w fun e w'=>e=.returned (.bool true)∧Ext w w':=by
 obtain⟨so,sc,rfl,hsc,-⟩:=hs.get;obtain⟨co,cc,rfl,hcc,-⟩:=hc.get;go_enter Tryz.func4,Tryz.ntmps4
 go_wp2_with fail
 refine(V3 _).mono ?_;rintro e w1 ⟨rfl,x1⟩;have hS0:=Stand.new w w1 x1
 go_wp2_with fail
 generalize w1.alloc (.cells #[.slice none 0 0,.slice none 0 0,.slice none 0 0,.slice none 0 0] 32)=W0 at*;generalize w1.heap.size=Wb at*;generalize Qn w.heap.size Wb=O0 at*;go_loopw [5,7] (fun fx i wr=>∃(k:Nat)(O:ig)(tv:Value)(ps:List Pr),k≤sp.length∧k≤4∧i=.int .i64 k∧fx=.bool true∧Stand w wr O Wb tv (.slice none 0 0) (.slice none 0 0) (.slice none 0 0) ps [] [] [] 1∧Hid (ps.length≤k)) (fun _ i _=>sp.length-(intOf i).toNat)
 case atStart=>exact⟨0,O0,_,[],aM _,af,rfl,rfl,hS0,aM _⟩
 case round=>
  obtain⟨k,O,tv,ps,hk1,hk4,rfl,rfl,hS,yx⟩:=hrel;by_cases hgo:k<sp.length∧k<4
  ·obtain⟨g1,g2⟩:=hgo;have j1:decide ((k:Int)<(sp.length:Int))=true:=aH af;have j2:decide ((k:Int)<4)=true:=aH af;have j3:(k:Int)<(sp.length:Int):=af;have j0:(0:Int)≤(k:Int):=af;have hs':=hs;obtain⟨-,so',sc',he,-,hx3⟩:=hs';cases he;obtain⟨sb,sf,rfl,hsb,-,hcl,-⟩:=hx3 af;have hce:∀j,j<9→w.cell? ⟨sb,sf+(k*9+j),none⟩=(rR sp[k])[j]?:=fun j hj=>(hcl _ af).trans (iq 9 rR (fun _=>rfl) sp k j g1 hj)
   have hok:=hsp sp[k] (aJ g1);obtain⟨x,hxe⟩:∃x,x=sp[k]:=⟨_,rfl⟩
   rw[←hxe]at hce hok;clear hxe hx3 hcl;have e0:=hce 0 af;have e1:=hce 1 af;have e2:=hce 2 af;have e3:=hce 3 af;have e4:=hce 4 af;have e5:=hce 5 af;have e6:=hce 6 af;have e7:=hce 7 af;have e8:=hce 8 af;simp only[rR,au,Nat.add_zero,←Nat.add_assoc]at e0 e1 e2 e3 e4 e5 e6 e7 e8;clear hce;obtain⟨no,nc,ZA,-⟩:=h_.open hok.names;obtain⟨go,gc,hgv,-⟩:=hok.groups.open;obtain⟨wo,wc,hwv,-⟩:=h_.open hok.want;have hok1:=hok.ext hS.x;have hf0:=Yx w.heap.size wr x.nv x.gv x.ss x.gs x.raw x.tn x.a x.b x.c x.d hok1.names hok1.groups wo x.ws.length wc hok1.raw hok1.tn.1 hok1.tn.2;rw[ZA]at e0 hf0;rw[hgv]at e1 hf0;rw[hwv]at e4;have HF:=hide hf0;have d0:=hS.x.cell e0 id;have d1:=hS.x.cell e1 id;have d2:=hS.x.cell e2 id;have d3:=hS.x.cell e3 id;have d4:=hS.x.cell e4 id;have d5:=hS.x.cell e5 id;have d6:=hS.x.cell e6 id;have d7:=hS.x.cell e7 id;have d8:=hS.x.cell e8 id;have HWV:=hide hwv;clear hf0 ZA hgv hwv
   go_upto_region 7 with(go_at_call 15;refine(bH HF).mono ?_;rintro e W2 ⟨f,hfl,rfl,x2⟩)
   have hS2:=hS.ext x2;have hR0:W2.drew.cell? ⟨sb,sf+k*9+4,none⟩=some (.slice wo x.ws.length wc)∧W2.drew.cell? ⟨sb,sf+k*9+5,none⟩=some (.int .i64 x.a)∧W2.drew.cell? ⟨sb,sf+k*9+6,none⟩=some (.int .i64 x.b)∧W2.drew.cell? ⟨sb,sf+k*9+7,none⟩=some (.int .i64 x.c)∧W2.drew.cell? ⟨sb,sf+k*9+8,none⟩=some (.int .i64 x.d):=⟨x2.cell d4 id,x2.cell d5 id,x2.cell d6 id,x2.cell d7 id,x2.cell d8 id⟩
   refine bZ (n:=15) (fun u=>u.cell? ⟨sb,sf+k*9+4,none⟩=some (.slice wo x.ws.length wc)∧u.cell? ⟨sb,sf+k*9+5,none⟩=some (.int .i64 x.a)∧u.cell? ⟨sb,sf+k*9+6,none⟩=some (.int .i64 x.b)∧u.cell? ⟨sb,sf+k*9+7,none⟩=some (.int .i64 x.c)∧u.cell? ⟨sb,sf+k*9+8,none⟩=some (.int .i64 x.d)) (by kernel_rfl) ?_;generalize hWd:W2.drew=Wd at hR0⊢;have xd:Ext W2 Wd:=by rw[←hWd];exact ax.drew
   clear hWd d0 d1 d2 d3 d4 d5 d6 d7 d8;have hSd:=hS2.ext xd;have aeO:=hok.ext hSd.x;have htW:tv.ownBlock≠some Wb:=fun e=>by have:=hSd.lw.GV Wb e;rw[hSd.lw.k.rP]at this;cases this
   have hop:=V8 w.heap.size Wd Wb tv _ _ _ x.wv ps.length _ ⟨f.toArray⟩ x.ws (f.length:Int) x.a x.b x.c x.d hSd.lw.k.wb hSd.lw.tw (by have:=yx.out;omega) htW aeO.want hSd.x.size (by have:=aeO.ws;omega);rw[HWV.out]at hop;have HOP:=hide hop;clear hop;refine Late.t 0 [15] rfl hR0 ?_;refine Late.t 1 [15] rfl hR0 ?_;refine Late.t 2 [15] rfl hR0 ?_;refine Late.t 3 [15] rfl hR0 ?_;refine Late.t 4 [15] rfl hR0 ?_;refine Late.t 5 [15] rfl hR0 ?_;refine Late.t 6 [15] rfl hR0 ?_;refine Late.t 7 [15] rfl hR0 ?_;refine Late.t 8 [15] rfl hR0 ?_;refine Late.t 9 [15] rfl hR0 ?_;refine Late.t 10 [15] rfl hR0 ?_;refine Late.t 11 [15] rfl hR0 ?_;refine Late.t 12 [15] rfl hR0 ?_;refine Late.t 13 [15] rfl hR0 ?_;refine Late.o 14 rfl (fun K hK=>?_);refine fe rfl 12 #[PtrTo Wb 0,.string ⟨f.toArray⟩,.int .i64 (f.length:Int),.slice wo x.ws.length wc,tK x.a x.b x.c x.d] (by go_simp) ?_;refine(bH HOP).mono ?_;rintro e W3 ⟨rfl,hout⟩;have hnew:∃O' tv' ps',Stand w W3 O' Wb tv' (.slice none 0 0) (.slice none 0 0) (.slice none 0 0) ps' [] [] [] 1∧ps'.length≤k+1:=by
    have hpl:=yx.out;rcases hout with⟨-,x3⟩|⟨hokS,Nc⟩
    ·exact⟨O,tv,ps,hSd.ext x3,af⟩
    ·obtain⟨⟨z1,z2⟩,⟨w1',w2'⟩,⟨t1',t2'⟩,⟨r1',r2'⟩,q1',q2'⟩:=(Bv _ _ _ _ _).1 hokS;obtain⟨O',tv',p',hst⟩:=hSd.opened Nc af af af af af (by rw[aQ];exact hok.ws) (by show f.toArray.size≤_;simp;omega);exact⟨O',tv',_,hst,by rw[aD];simp;omega⟩
   obtain⟨O',tv',ps',fP,hp3⟩:=hnew;have En:=hide hp3;clear hp3 hout;have uR:W3.cell? ⟨sb,sf+k*9+4,none⟩=some (.slice wo x.ws.length wc)∧W3.cell? ⟨sb,sf+k*9+5,none⟩=some (.int .i64 x.a)∧W3.cell? ⟨sb,sf+k*9+6,none⟩=some (.int .i64 x.b)∧W3.cell? ⟨sb,sf+k*9+7,none⟩=some (.int .i64 x.c)∧W3.cell? ⟨sb,sf+k*9+8,none⟩=some (.int .i64 x.d):=⟨fP.x.cell e4 id,fP.x.cell e5 id,fP.x.cell e6 id,fP.x.cell e7 id,fP.x.cell e8 id⟩
   refine⟨_,rfl,hK _ _ (fun _=>uR) ?_⟩;clear hK K;try simp only[lX]
   refine Late.o 15 rfl (fun K hK=>?_);go_simp;refine hK _ _ (fun h=>absurd rfl h) ?_;clear hK K;try simp only[lX]
   refine Late.done (by kernel_rfl) ?_ _;clear hR0 uR e0 e1 e2 e3 e4 e5 e6 e7 e8
   go_wp2_with fail
   go_roundw
   case rel=>exact⟨k+1,O',tv',ps',af,af,by go_num,rfl,fP,En⟩
   case measure=>simp[intOf];omega
  ·have anF:ps.length≤4:=by have:=yx.out;omega
   clear hs hsp hS0;have J:(k<sp.length∧decide ((k:Int)<(sp.length:Int))=true∧decide ((k:Int)<4)=false∧decide (k<4)=false)∨(¬k<sp.length∧decide ((k:Int)<(sp.length:Int))=false∧decide (k<sp.length)=false):=by
    by_cases hg1:k<sp.length
    ·exact .inl ⟨hg1,aH af,aG af,aG af⟩
    ·exact .inr ⟨hg1,aG af,aG af⟩
   rcases J with⟨hg1,j1,j2,j3⟩|⟨hg1,j1,j3⟩
   all_goals
    go_wp2_with fail
    have Yy:=hS;go_loopw [9] (fun i wq=>∃(k:Nat)(O:ig)(iv av rv:Value)(ps2:List Pr)(li:List KI)(la:List KA)(lr:List KR)(N:Nat),k≤jb.length∧i=.int .i64 k∧Stand w wq O Wb tv iv av rv ps2 li la lr N∧Hid (ps2.length=ps.length∧N≤1+25*k∧li.length≤100*k∧la.length≤k∧lr.length≤k)) (fun i _=>jb.length-(intOf i).toNat)
    case atStart=>exact⟨0,O,_,_,_,ps,[],[],[],1,aM _,rfl,hS,⟨rfl,af,aj,aj,aj⟩⟩
    case round=>
     clear hS Yy;obtain⟨q,O2,GY,zi,Og,ps2,Oh,Oi,lr2,N2,hq,rfl,hS2,HB2⟩:=hrel;obtain⟨pa,pc,rfl,hpc⟩:∃pa pc,tv=.slice pa ps2.length pc∧ps2.length≤pc:=hS2.lw.tw.shape;have c0:=hS2.lw.k.wb.cell 0;simp only[aA]at c0;by_cases Yz:q<jb.length∧0<ps2.length
     ·obtain⟨m1,m2⟩:=Yz;have n1:decide ((q:Int)<(jb.length:Int))=true:=aH af;have n2:decide ((0:Int)<(ps2.length:Int))=true:=aH af;have n3:decide (0<ps2.length)=true:=aH m2;have n4:decide (q<jb.length)=true:=aH m1;have n5:(q:Int)<(jb.length:Int):=af;have n0:(0:Int)≤(q:Int):=af;have hc':=hc;obtain⟨-,co',cc',he,-,hx3⟩:=hc';cases he;obtain⟨cb,cf,rfl,hcb,-,hcl,-⟩:=hx3 af;have hce:∀j,j<5→w.cell? ⟨cb,cf+(q*5+j),none⟩=(qh jb[q])[j]?:=fun j hj=>(hcl _ af).trans (iq 5 qh (fun _=>rfl) jb q j m1 hj)
      have hok:=hac jb[q] (aJ m1);obtain⟨y,hye⟩:∃y,y=jb[q]:=⟨_,rfl⟩
      rw[←hye]at hce hok;clear hye hx3 hcl;have e0:=hS2.x.cell (hce 0 af) id;have e1:=hS2.x.cell (hce 1 af) id;have e2:=hS2.x.cell (hce 2 af) id;have e3:=hS2.x.cell (hce 3 af) id;have e4:=hS2.x.cell (hce 4 af) id;simp only[Nat.add_zero,←Nat.add_assoc]at e0 e1 e2 e3 e4;clear hce;have hb2:=HB2.out;have HA:=hide (pR O2 wr Wb _ GY zi Og ps2 Oh Oi lr2 N2 hS2.lw m2 af af af y.kind y.W y.A y.B y.s hok.W hok.A hok.B hok.s)
      go_upto_region 14 with(go_at_call 13;refine(bH HA).mono ?_;intro e W3 hout;obtain⟨rfl,O3,iv3,YV,Vd,pU,Oj,Ol,Om,fP,b1,b2,b3,b4⟩:=hS2.yK hout;clear hout)
      have AY:=hide (rM _ W3 Wb _ _ _ _ Oj Ol Om fP.lw.k.wb fP.lw.k.kept);have HB3:Hid (pU.length=ps.length∧N2+25≤1+25*(q+1)∧Oj.length≤100*(q+1)∧Ol.length≤q+1∧Om.length≤q+1):=⟨af,af,af,af,af⟩
      have HS3:=hide fP;clear hb2 b1 b2 b3 b4 hS2 fP
      go_wp2_with (go_at_call 14;refine(bH AY).mono ?_;rintro e W4 ⟨rfl,x4⟩)
      go_roundw
      case rel=>exact⟨q+1,O3,iv3,YV,Vd,pU,Oj,Ol,Om,N2+25,af,by go_num,HS3.out.ext x4,HB3⟩
      case measure=>simp[intOf];omega
     ·have n1:decide ((q:Int)<(jb.length:Int))=decide (q<jb.length):=aj;by_cases hq1:q<jb.length
      ·have n2:decide ((q:Int)<(jb.length:Int))=true:=aH af;have n4:decide ((0:Int)<(ps2.length:Int))=false:=aG af;have n5:decide (0<ps2.length)=false:=aG af;clear n1
       go_wp2_with fail
       have hb2:=HB2.out;go_loopw [12] (fun i wq=>∃(k3:Nat)(O:ig)(iv av rv:Value)(pU:List Pr)(li:List KI)(la:List KA)(lr:List KR)(N:Nat),k3≤ps2.length∧i=.int .i64 k3∧Stand w wq O Wb (.slice pa ps2.length pc) iv av rv pU li la lr N∧Hid (pU.length=ps2.length∧N≤60000000+75*k3∧li.length≤210000000+300*k3∧la.length≤3000000+3*k3∧lr.length≤3000000+3*k3)) (fun i _=>ps2.length-(intOf i).toNat)
       case atStart=>exact⟨0,O2,GY,zi,Og,ps2,Oh,Oi,lr2,N2,aM _,rfl,hS2,⟨rfl,af,af,af,af⟩⟩
       case round=>
        have Iu:ps2.length≤4:=af;clear hS2 c0 hb2 HB2;obtain⟨k3,O4,Wj,PW,Wl,sD,G6,G7,G8,N4,hk3,rfl,nO,Oo⟩:=hrel;have c0:=nO.lw.k.wb.cell 0;simp only[aA]at c0;by_cases Oq:k3<ps2.length
        ·exact absurd Oq af
        ·have v1:¬(k3:Int)<(ps2.length:Int):=af;have AY:=hide (rM _ wr Wb _ _ _ _ G6 G7 G8 nO.lw.k.wb nO.lw.k.kept);have Ot:=hide nO.x;clear nO
         go_wp2_with (go_at_call 14;refine(bH AY).mono ?_;rintro e W4 ⟨rfl,x4⟩)
         go_ret;exact⟨rfl,Ot.out.trans x4⟩
      ·have n2:decide ((q:Int)<(jb.length:Int))=false:=aG af;have n3:decide (q<jb.length)=false:=aG hq1;clear n1
       go_wp2_with fail
       have hb2:=HB2.out;clear n2 n3;go_loopw [12] (fun i wq=>∃(k3:Nat)(O:ig)(iv av rv:Value)(pU:List Pr)(li:List KI)(la:List KA)(lr:List KR)(N:Nat),k3≤ps2.length∧i=.int .i64 k3∧Stand w wq O Wb (.slice pa ps2.length pc) iv av rv pU li la lr N∧Hid (pU.length=ps2.length∧N≤60000000+75*k3∧li.length≤210000000+300*k3∧la.length≤3000000+3*k3∧lr.length≤3000000+3*k3)) (fun i _=>ps2.length-(intOf i).toNat)
       case atStart=>exact⟨0,O2,GY,zi,Og,ps2,Oh,Oi,lr2,N2,aM _,rfl,hS2,⟨rfl,af,af,af,af⟩⟩
       case round=>
        have Iu:ps2.length≤4:=af;clear hS2 c0 hb2 HB2;obtain⟨k3,O4,Wj,PW,Wl,sD,G6,G7,G8,N4,hk3,rfl,nO,Oo⟩:=hrel;have c0:=nO.lw.k.wb.cell 0;simp only[aA]at c0;by_cases Oq:k3<ps2.length
        ·have v1:(k3:Int)<(ps2.length:Int):=af
         go_wp2_with fail
         go_loopw [13] (fun i wq=>∃(j:Nat)(O:ig)(iv av rv:Value)(pU:List Pr)(li:List KI)(la:List KA)(lr:List KR)(N:Nat),j≤3∧i=.int .i64 j∧Stand w wq O Wb (.slice pa ps2.length pc) iv av rv pU li la lr N∧Hid (pU.length=ps2.length∧N≤60000000+75*k3+25*j∧li.length≤210000000+300*k3+100*j∧la.length≤3000000+3*k3+j∧lr.length≤3000000+3*k3+j)) (fun i _=>3-(intOf i).toNat)
         case atStart=>exact⟨0,O4,Wj,PW,Wl,sD,G6,G7,G8,N4,af,rfl,nO,Oo⟩
         case round=>
          clear nO Oo c0;obtain⟨j,O5,G9,BS,Em,Cz,CB,CF,CG,N5,hj,rfl,hS5,Wo⟩:=hrel;have xa:Ext wr (wr.alloc (.cells #[.int .i64 1,.int .i64 7,.int .i64 8] 3)):=ax.alloc _;have qH:=hS5.ext xa;have hb5:=Wo.out;rcases(show j=0∨j=1∨j=2∨j=3 from af)with rfl|rfl|rfl|rfl
          ·have HA:=hide (pR O5 (wr.alloc (.cells #[.int .i64 1,.int .i64 7,.int .i64 8] 3)) Wb _ G9 BS Em Cz CB CF CG N5 qH.lw af af af af 1 (k3:Int) 0 0 [] ⟨af,af⟩ ⟨af,af⟩ ⟨af,af⟩ aj);have CJ:=hide qH;clear qH hS5
           go_upto_region 24 with(go_at_call 13;refine(bH HA).mono ?_;intro e W3 hout;obtain⟨rfl,O6,CK,yc,CO,uW,uX,uY,uZ,lW,b1,b2,b3,b4⟩:=CJ.out.yK hout;clear hout)
           have CP:Hid (uW.length=ps2.length∧N5+25≤60000000+75*k3+25*(0+1)∧uX.length≤210000000+300*k3+100*(0+1)∧uY.length≤3000000+3*k3+(0+1)∧uZ.length≤3000000+3*k3+(0+1)):=⟨af,af,af,af,af⟩
           have zw:=hide lW;clear hb5 b1 b2 b3 b4 lW
           go_wp2_with fail
           go_roundw
           case rel=>exact⟨0+1,O6,CK,yc,CO,uW,uX,uY,uZ,N5+25,af,by go_num,zw.out,CP⟩
           case measure=>simp[intOf]
          ·have HA:=hide (pR O5 (wr.alloc (.cells #[.int .i64 1,.int .i64 7,.int .i64 8] 3)) Wb _ G9 BS Em Cz CB CF CG N5 qH.lw af af af af 7 (k3:Int) 0 0 [] ⟨af,af⟩ ⟨af,af⟩ ⟨af,af⟩ aj);have CJ:=hide qH;clear qH hS5
           go_upto_region 24 with(go_at_call 13;refine(bH HA).mono ?_;intro e W3 hout;obtain⟨rfl,O6,CK,yc,CO,uW,uX,uY,uZ,lW,b1,b2,b3,b4⟩:=CJ.out.yK hout;clear hout)
           have CP:Hid (uW.length=ps2.length∧N5+25≤60000000+75*k3+25*(1+1)∧uX.length≤210000000+300*k3+100*(1+1)∧uY.length≤3000000+3*k3+(1+1)∧uZ.length≤3000000+3*k3+(1+1)):=⟨af,af,af,af,af⟩
           have zw:=hide lW;clear hb5 b1 b2 b3 b4 lW
           go_wp2_with fail
           go_roundw
           case rel=>exact⟨1+1,O6,CK,yc,CO,uW,uX,uY,uZ,N5+25,af,by go_num,zw.out,CP⟩
           case measure=>simp[intOf]
          ·have HA:=hide (pR O5 (wr.alloc (.cells #[.int .i64 1,.int .i64 7,.int .i64 8] 3)) Wb _ G9 BS Em Cz CB CF CG N5 qH.lw af af af af 8 (k3:Int) 0 0 [] ⟨af,af⟩ ⟨af,af⟩ ⟨af,af⟩ aj);have CJ:=hide qH;clear qH hS5
           go_upto_region 24 with(go_at_call 13;refine(bH HA).mono ?_;intro e W3 hout;obtain⟨rfl,O6,CK,yc,CO,uW,uX,uY,uZ,lW,b1,b2,b3,b4⟩:=CJ.out.yK hout;clear hout)
           have CP:Hid (uW.length=ps2.length∧N5+25≤60000000+75*k3+25*(2+1)∧uX.length≤210000000+300*k3+100*(2+1)∧uY.length≤3000000+3*k3+(2+1)∧uZ.length≤3000000+3*k3+(2+1)):=⟨af,af,af,af,af⟩
           have zw:=hide lW;clear hb5 b1 b2 b3 b4 lW
           go_wp2_with fail
           go_roundw
           case rel=>exact⟨2+1,O6,CK,yc,CO,uW,uX,uY,uZ,N5+25,af,by go_num,zw.out,CP⟩
           case measure=>simp[intOf]
          ·clear qH xa hb5;have HB7:Hid (Cz.length=ps2.length∧N5≤60000000+75*(k3+1)∧CB.length≤210000000+300*(k3+1)∧CF.length≤3000000+3*(k3+1)∧CG.length≤3000000+3*(k3+1)):=by
            have:=Wo.out;exact⟨af,af,af,af,af⟩
           go_wp2_with fail
           go_roundw
           case rel=>exact⟨k3+1,O5,G9,BS,Em,Cz,CB,CF,CG,N5,af,by go_num,hS5,HB7⟩
           case measure=>simp[intOf];omega
        ·have v1:¬(k3:Int)<(ps2.length:Int):=af;have AY:=hide (rM _ wr Wb _ _ _ _ G6 G7 G8 nO.lw.k.wb nO.lw.k.kept);have Ot:=hide nO.x;clear nO
         go_wp2_with (go_at_call 14;refine(bH AY).mono ?_;rintro e W4 ⟨rfl,x4⟩)
         go_ret;exact⟨rfl,Ot.out.trans x4⟩
section
open Go.ChangeShapes Go.WideShapes Go.Deep
section
variable{H:Type}{enc:TypeId×Value→H}{W:World}
theorem G_ {k:Int}(h:(Lit.int .i64 k).wf=true):kP k:=by
 simp only[Lit.wf,Bool.and_eq_true,decide_eq_true_eq]at h;have e1:IntKind.i64.min=-9223372036854775808:=by decide
 have e2:IntKind.i64.max=9223372036854775807:=by decide
 rw[e1,e2]at h;exact h
theorem YA (d:DataW H):1≤Rows.uptoBulk d:=by
 cases d with
 |lit l=>cases l<;>simp[Rows.uptoBulk]
 |nil=>simp[Rows.uptoBulk]
 |ptr d=>simp[Rows.uptoBulk]
 |slice elems spare=>simp[Rows.uptoBulk]
 |agg parts=>simp[Rows.uptoBulk]
 |iface t d=>simp[Rows.uptoBulk]
 |map entries=>simp[Rows.uptoBulk]
 |held h=>simp[Rows.uptoBulk]
theorem YB {d:DataW H}{l:List (DataW H)}(h:d∈l):Rows.uptoBulk d≤Rows.uptoBulkAll l:=by
 induction l with
 |nil=>cases h
 |cons x r ih=>
  simp only[Rows.uptoBulkAll];cases List.mem_cons.1 h with
  |inl e=>subst e;omega
  |inr e=>have:=ih e;omega
theorem Ou (l:List (DataW H)):l.length≤Rows.uptoBulkAll l:=by
 induction l with
 |nil=>simp[Rows.uptoBulkAll]
 |cons x r ih=>have:=YA x;simp only[Rows.uptoBulkAll,aR];omega
theorem aaT {fuel:Nat}{v:Value}{d:DataW H}{pl:List MemPlace}(h:DataW.trod enc Tryz.prog W 0 (fun _=>true) true fuel 22 [v]=some (d,pl))(hf:iG 22 d):∃ss:List ByteArray,h_ W.heap.size W v ss∧ss.length≤Rows.uptoBulk d:=by
 obtain⟨ss,hr,-⟩:=Ep h hf;refine⟨ss,hr,?_⟩;rcases open_slice Tryz.underlying22 h with⟨hcs,_⟩|⟨a,len,cap,m,k,D,Pl,hcs,_,hl,_,hm,hx,he⟩
 ·simp only[List.cons.injEq,and_true]at hcs;subst hcs;obtain⟨ao,cap,e,-⟩:=hr;simp only[aQ,Value.slice.injEq]at e;omega
 ·simp only[List.cons.injEq,and_true]at hcs;subst hcs;obtain⟨ao,cap',e,-⟩:=hr;simp only[aQ,Value.slice.injEq]at e;simp only[Prod.mk.injEq]at hx;obtain⟨rfl,_⟩:=hx;simp only[Rows.uptoBulk];have:=Ou ((List.range len).map D);rw[aQ,List.length_range]at this;omega
theorem Qo {t:TypeId}{f0 f1 f2 f3 f4:Field}{fuel:Nat}{cs:List Value}{x:DataW H×List MemPlace}(ht:Tryz.prog.underlying t=some (.struct #[f0,f1,f2,f3,f4]))(h:DataW.trod enc Tryz.prog W 0 (fun _=>true) true fuel t cs=some x):
 ∃y0 y1 y2 y3 y4 n,x.1=.agg [y0.1,y1.1,y2.1,y3.1,y4.1]∧DataW.trod enc Tryz.prog W 0 (fun _=>true) true n f0.type ((cs.drop f0.offset).take (Tryz.prog.cellsOf f0.type))=some y0∧DataW.trod enc Tryz.prog W 0 (fun _=>true) true n f1.type ((cs.drop f1.offset).take (Tryz.prog.cellsOf f1.type))=some y1∧DataW.trod enc Tryz.prog W 0 (fun _=>true) true n f2.type ((cs.drop f2.offset).take (Tryz.prog.cellsOf f2.type))=some y2∧DataW.trod enc Tryz.prog W 0 (fun _=>true) true n f3.type ((cs.drop f3.offset).take (Tryz.prog.cellsOf f3.type))=some y3∧DataW.trod enc Tryz.prog W 0 (fun _=>true) true n f4.type ((cs.drop f4.offset).take (Tryz.prog.cellsOf f4.type))=some y4:=by
 obtain⟨xs,n,_,rfl,hl,hlen,hf⟩:=DataW.trod_struct ht h
 match xs,hlen with
 |[y0,y1,y2,y3,y4],_=>exact⟨y0,y1,y2,y3,y4,n,aj,by simpa using hf 0 f0 rfl,by simpa using hf 1 f1 rfl,by simpa using hf 2 f2 rfl,by simpa using hf 3 f3 rfl,by simpa using hf 4 f4 rfl⟩
theorem Ka {α:Type}{t e:TypeId}{n M:Nat}(ht:Tryz.prog.underlying t=some (.slice e))(hc:Tryz.prog.cellsOf e=n)(hn:0<n)(cells:α→List Value)(hcl:∀x,(cells x).length=n)(Q:α→Prop)
 (hone:∀(fuel:Nat)(cs:List Value)(d:DataW H)(pl:List MemPlace),cs.length=n→DataW.trod enc Tryz.prog W 0 (fun _=>true) true fuel e cs=some (d,pl)→iG e d→Rows.uptoBulk d≤M→∃x,cs=cells x∧Q x)
 {fuel:Nat}{v:Value}{d:DataW H}{pl:List MemPlace}(h:DataW.trod enc Tryz.prog W 0 (fun _=>true) true fuel t [v]=some (d,pl))(hf:iG t d)(hb:Rows.uptoBulk d≤M):
 ∃xs:List α,bM (fun b=>b<W.heap.size) false W n v xs.length (xs.flatMap cells)∧(∀x∈xs,Q x)∧xs.length≤M:=by
 rcases open_slice ht h with⟨hcs,_⟩|⟨a,len,cap,m,k,D,Pl,hcs,_,hl,_,hm,hx,he⟩
 ·simp only[List.cons.injEq,and_true]at hcs;subst hcs;exact⟨[],bM.nil _ _ _ _,⟨fun x hx=>(by cases hx),aM _⟩⟩
 ·simp only[List.cons.injEq,and_true]at hcs;subst hcs;simp only[if_true]at hm;rw[hm]at hx he;clear hm;simp only[Prod.mk.injEq]at hx;obtain⟨rfl,_⟩:=hx;have hsz:=hf.slice ht;simp only[Rows.uptoBulk]at hb;have hlen:len≤M:=by
   have:=Ou ((List.range len).map D);rw[aQ,List.length_range]at this;omega
  have hon:∀i∈List.range len,∃x:α,(∀j,j<n→W.cell? ((a.add (i*n)).add j)=(cells x)[j]?)∧Q x:=fun i hi=>by
   have hi':=List.mem_range.1 hi;obtain⟨cs,hcs,htr⟩:=he i af;rw[hc]at hcs;obtain⟨_,hl1,hcc⟩:=World.cells?_some hcs;have hmem:D i∈(List.range len).map D:=List.mem_map.2 ⟨i,hi,rfl⟩;have hbi:=YB hmem;obtain⟨x,hxe,hq⟩:=hone k cs (D i) (Pl i) hl1 htr (hsz.2 _ hmem) af;subst hxe;exact⟨x,hcc,hq⟩
  obtain⟨ts,htl,hq⟩:=uq _ (List.range len) hon;rw[List.length_range]at htl;have hget:∀j(hj:j<ts.length),(∀i,i<n→W.cell? ((a.add (j*n)).add i)=(cells ts[j])[i]?)∧Q ts[j]:=fun j hj=>
   hq j j ts[j] (by rw[List.getElem?_range af]) (ay hj)
  refine⟨ts,⟨?_,some a,cap,by rw[←htl],af,fun hp=>?_⟩,fun x hx=>?_,af⟩
  ·rw[List.length_flatMap];clear hget hq htl;induction ts with
   |nil=>simp
   |cons x r ih=>rw[List.map_cons,List.sum_cons,ih,hcl,aR,Nat.succ_mul,Nat.add_comm]
  ·have c0:=(hget 0 hp).1 0 hn;have ajF:0<(cells ts[0]).length:=by rw[hcl];exact hn
   rw[ay ajF]at c0;obtain⟨b,off,spot⟩:=a;have hspot:spot=none:=by
    have:=World.cell?_spot c0;simpa[Addr.add]using this
   subst hspot;have hbl:b<W.heap.size:=by
    have:=World.block_lt_of_cell? _ _ c0;simpa[Addr.add]using this
   refine⟨b,off,rfl,hbl,hbl,fun j hj=>?_,fun h=>by cases h⟩;have hdm:=Nat.div_add_mod j n;have hmod:=Nat.mod_lt j hn;have hdv:j/n<ts.length:=Nat.div_lt_of_lt_mul (by rw[Nat.mul_comm];exact hj);have:=(hget (j/n) hdv).1 (j%n) hmod;rw[Addr.add_lit,Addr.add_lit]at this;have ha:=iq n cells hcl ts (j/n) (j%n) hdv hmod;have ej:j/n*n+j%n=j:=by rw[Nat.mul_comm];exact hdm
   rw[ej]at ha;rw[ha,←this,Nat.add_assoc,ej]
  ·obtain⟨j,hj,rfl⟩:=List.mem_iff_getElem.1 hx;exact(hget j hj).2
theorem Ws :Tryz.prog.cellsOf 36=5:=by kernel_rfl
theorem Wt :Tryz.prog.cellsOf 44=9:=by kernel_rfl
theorem YC :Tryz.prog.cellsOf 24=4:=by kernel_rfl
theorem YD :Tryz.prog.cellsOf 42=2:=by kernel_rfl
theorem Kb {fuel:Nat}{v:Value}{d:DataW H}{pl:List MemPlace}(h:DataW.trod enc Tryz.prog W 0 (fun _=>true) true fuel 39 [v]=some (d,pl))(hf:iG 39 d)(hb:Rows.uptoBulk d≤1048576):
 ∃xs:List Wi,bM (fun b=>b<W.heap.size) false W 5 v xs.length (xs.flatMap qh)∧(∀x∈xs,SB x)∧xs.length≤1048576:=by
 refine Ka Tryz.underlying39 Ws af qh (fun _=>rfl) SB (fun fuel cs d pl hl ht l8 hbd=>?_) h hf hb;obtain⟨y0,y1,y2,y3,y4,k,hy,h0,h1,h2,h3,h4⟩:=Qo Tryz.underlying36 ht
 match cs,hl with
 |[c0,c1,c2,c3,c4],_=>
  simp only[cells3,KT,List.drop_zero,List.take_succ_cons,List.take_zero,List.drop_succ_cons]at h0 h1 h2 h3 h4;obtain⟨p,e0,-,-⟩:=DataW.trod_int Tryz.underlying3 h0;obtain⟨q,e1,-,w1⟩:=DataW.trod_int Tryz.underlying3 h1;obtain⟨r,e2,-,w2⟩:=DataW.trod_int Tryz.underlying3 h2;obtain⟨u,e3,-,w3⟩:=DataW.trod_int Tryz.underlying3 h3;obtain⟨s,e4,d4,-⟩:=DataW.trod_string Tryz.underlying9 h4;simp only[List.cons.injEq,and_true]at e0 e1 e2 e3 e4;subst e0;subst e1;subst e2;subst e3;subst e4;have hd:d=.agg [y0.1,y1.1,y2.1,y3.1,y4.1]:=hy;rw[hd,d4]at hbd;simp only[Rows.uptoBulk,Rows.uptoBulkAll]at hbd;exact⟨⟨p,q,r,u,s.data.toList⟩,by simp[qh],⟨G_ w1,G_ w2,G_ w3,by show s.data.toList.length≤_;omega⟩⟩
theorem He {fuel:Nat}{v:Value}{d:DataW H}{pl:List MemPlace}(h:DataW.trod enc Tryz.prog W 0 (fun _=>true) true fuel 38 [v]=some (d,pl))(hf:iG 38 d)(hb:Rows.uptoBulk d≤1048576):
 ∃xs:List Oe,bM (fun b=>b<W.heap.size) false W 9 v xs.length (xs.flatMap rR)∧(∀x∈xs,y7 W.heap.size W x)∧xs.length≤1048576:=by
 refine Ka Tryz.underlying38 Wt af rR (fun _=>rfl) (y7 W.heap.size W) (fun fuel cs d pl hl ht l8 hbd=>?_) h hf hb;obtain⟨y0,y1,y2,y3,y4,k,hy,h0,h1,h2,h3,h4⟩:=Qo Tryz.underlying44 ht;have hd:d=.agg [y0.1,y1.1,y2.1,y3.1,y4.1]:=hy
 match cs,hl with
 |[c0,c1,c2,c3,c4,c5,c6,c7,c8],_=>
  simp only[cells3,KT,cells24,YC,YD,List.drop_zero,List.take_succ_cons,List.take_zero,List.drop_succ_cons]at h0 h1 h2 h3 h4;obtain⟨s,e1,d1,-⟩:=DataW.trod_string Tryz.underlying9 h1;obtain⟨tn,e2,-,w2⟩:=DataW.trod_int Tryz.underlying3 h2;obtain⟨z0,z1,k',hz,_,t0,t1⟩:=trod_struct2 Tryz.underlying42 h0;obtain⟨s0,s1,s2,s3,n,_,_,q0,q1,q2,q3⟩:=Go.Joins.trod_struct4 Tryz.underlying24 h4;simp only[cells3,cells24,Pg,List.drop_zero,List.take_succ_cons,List.take_zero,List.drop_succ_cons]at t0 t1 q0 q1 q2 q3;obtain⟨a,g0,_⟩:=DataW.trod_int Tryz.underlying3 q0;obtain⟨b,g1,_⟩:=DataW.trod_int Tryz.underlying3 q1;obtain⟨c,g2,_⟩:=DataW.trod_int Tryz.underlying3 q2;obtain⟨e,g3,_⟩:=DataW.trod_int Tryz.underlying3 q3;simp only[List.cons.injEq,and_true]at e1 e2 g0 g1 g2 g3;rw[hd]at l8 hbd;have f0:iG 42 y0.1:=fun n hn=>l8 n (by
   simp only[DataW.weights,Tryz.underlying44];exact DataW.weights_mem_each (j:=0) rfl rfl n hn)
  have f3:iG 22 y3.1:=fun n hn=>l8 n (by
   simp only[DataW.weights,Tryz.underlying44];exact DataW.weights_mem_each (j:=3) rfl rfl n hn)
  have hz1:y0.1=.agg [z0.1,z1.1]:=by rw[hz]
  rw[hz1]at f0;have f00:iG 22 z0.1:=fun n hn=>f0 n (by
   simp only[DataW.weights,Tryz.underlying42];exact DataW.weights_mem_each (j:=0) rfl rfl n hn)
  have f01:iG 40 z1.1:=fun n hn=>f0 n (by
   simp only[DataW.weights,Tryz.underlying42];exact DataW.weights_mem_each (j:=1) rfl rfl n hn)
  obtain⟨ss,r0,-⟩:=Ep (d:=z0.1) (pl:=z0.2) t0 f00;obtain⟨gs,r1,-⟩:=Fj (d:=z1.1) (pl:=z1.2) t1 f01;obtain⟨ws,r3,r3l⟩:=aaT (d:=y3.1) (pl:=y3.2) h3 f3;rw[d1]at hbd;simp only[Rows.uptoBulk,Rows.uptoBulkAll]at hbd;refine⟨⟨c0,c1,c4,ss,gs,ws,s.data.toList,tn,a,b,c,e⟩,?_,⟨r0,r1,r3,?_,G_ w2,?_⟩⟩
  ·subst e1;subst e2;subst g0;subst g1;subst g2;subst g3;simp[rR]
  ·show s.data.toList.length≤_;omega
  ·show ws.length≤_;omega
end
end
end Go.Proofs.YthicgffppmbamaaGreat
