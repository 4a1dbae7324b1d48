import Derived.Deep.RegionHeld3
import Derived.Deep.QuietTactic
import Derived.BigQuiet
import Derived.Test.YthicgffppmbamaaGreatP4
import Derived.Test.YthicgffppmbamaaGreatP6
import Derived.Test.YthicgffppmbamaaGreatP9
set_option maxRecDepth 100000
set_option maxHeartbeats 16000000
namespace Go.Proofs.YthicgffppmbamaaGreat
open Go.RowKit
def pat (m:Int):List Value:=[.int .i64 m,.int .i64 0,.int .i64 0]
def pats (m:Int)(n:Nat):List Value:=(List.replicate n (pat m)).flatten
theorem Ap (m:Int)(n:Nat):(pats m n).length=n*3:=by
 unfold pats;rw[List.length_flatten,List.map_replicate];simp[pat]
theorem aaI (m:Int)(n i j:Nat)(hi:i<n)(hj:j<3):(pats m n)[i*3+j]?=(pat m)[j]?:=by
 unfold pats;refine jB 3 _ (fun e he=>?_) i j hj _ (by rw[List.getElem?_replicate,if_pos hi]);rw[List.eq_of_mem_replicate he];rfl
theorem Vl (m:Int)(n:Nat):pats m (n+1)=pats m n++pat m:=by
 unfold pats;rw[List.replicate_succ',List.flatten_append];simp
theorem Aq (m:Int)(a b:Nat):pats m (a+b)=pats m a++pats m b:=by
 unfold pats;rw[←List.replicate_append_replicate,List.flatten_append]
theorem sK (w:World)(C:Nat→Prop)(fr:Bool)(v:Value)(m:Int)(n:Nat)(h:bM C fr w 3 v n (pats m n))(hn:n≤1000000000000000):
 Calls Tryz.prog 45 #[v,.int .i64 m] w fun e w'=>e=.returned (.bool true)∧w'=w:=by
 obtain⟨_,ao,cap,rfl,h1,h3⟩:=h;go_enter Tryz.func45,Tryz.ntmps45
 go_wp2_with fail
 go_loop [5] (fun i=>∃k:Nat,k≤n∧i=.int .i64 k) (fun i=>n-(intOf i).toNat)
 case atStart=>exact⟨0,aM _,rfl⟩
 case round=>
  obtain⟨k,hk,rfl⟩:=hrel;by_cases hkl:k<n
  ·obtain⟨g,off,rfl,_,_,hc,_⟩:=h3 af;have d0:=hc (k*3+0) af;have d1:=hc (k*3+1) af;have d2:=hc (k*3+2) af;rw[aaI m n k _ hkl af]at d0 d1 d2;simp only[pat,au,Nat.add_zero,←Nat.add_assoc]at d0 d1 d2;clear hc h3
   go_wp2_with fail
   exact⟨⟨k+1,af,by go_num⟩,by simp[intOf];omega⟩
  ·go_wp2_with fail
   go_ret;exact⟨rfl,rfl⟩
structure KA where
 l:Value
 a:Value
 b:Value
 c:Value
 n:Nat
 m:Int
def oL (x:KA):List Value:=[x.l,x.a,x.b,x.c,.int .i64 x.m]
structure E5 (C:Nat→Prop)(w:World)(x:KA):Prop where
 nl:x.n≤1000000000
 hl:bM C false w 3 x.l x.n (pats x.m x.n)
 ha:bM C false w 3 x.a (x.n+1) (pats x.m (x.n+1))
 hb:bM C false w 3 x.b (x.n+2) (pats x.m (x.n+2))
 hc:bM C false w 3 x.c (x.n+3) (pats x.m (x.n+3))
theorem E5.go {C C':Nat→Prop}{S:Nat→Prop}{w w':World}{x:KA}(h:E5 C w x)(k:Kp S w w')(hS:∀i,C i→¬S i)(hC:∀i,i<w.heap.size→C i→C' i):E5 C' w' x:=
 ⟨h.nl,h.hl.go k hS hC,h.ha.go k hS hC,h.hb.go k hS hC,h.hc.go k hS hC⟩
theorem bM.prefix {C:Nat→Prop}{w:World}{v v':Value}{m:Int}{n n':Nat}(h:bM C false w 3 v' n' (pats m n'))(hl:n≤n')(hb:∃g cap cap',v=.slice (some ⟨g,0,none⟩) n cap∧n≤cap∧v'=.slice (some ⟨g,0,none⟩) n' cap'):bM C false w 3 v n (pats m n):=by
 obtain⟨g,cap,cap',rfl,hn,rfl⟩:=hb;obtain⟨_,ao,c2,e,h1,h3⟩:=h;cases e;refine⟨Ap _ _,_,cap,rfl,hn,fun hp=>?_⟩;obtain⟨b,off,e,hC,hlt,hc,_⟩:=h3 af;cases e;refine⟨g,0,rfl,hC,hlt,fun j hj=>?_,fun h=>by cases h⟩;rw[hc j af,show n'=n+(n'-n)from af,Aq,aS (by rw[Ap];exact hj)]
def zKA :Value:=.agg #[.slice none 0 0,.slice none 0 0,.slice none 0 0,.slice none 0 0,.int .i64 0]
theorem ad4 :(Tryz.prog.info? 97).map (fun i=>(i.zero,i.size,i.bytes))=some (some zKA,5,104):=by kernel_rfl
theorem Own.mark {w:World}{n g cap:Nat}{cs:List Value}{m:Int}(k:Nat)(h:Own w 3 (.slice (some ⟨g,0,none⟩) n cap) n (pats m k++cs.drop (k*3)))(hk:k<n)(hcs:cs.length=n*3):
 Own (((w.setCell ⟨g,k*3,none⟩ (.int .i64 m)).setCell ⟨g,k*3+1,none⟩ (.int .i64 0)).setCell ⟨g,k*3+2,none⟩ (.int .i64 0)) 3 (.slice (some ⟨g,0,none⟩) n cap) n (pats m (k+1)++cs.drop ((k+1)*3)):=by
 have h1:=((h.setCell (k*3) af (.int .i64 m)).setCell (k*3+1) af (.int .i64 0)).setCell (k*3+2) af (.int .i64 0);have e:(((pats m k++cs.drop (k*3)).set (k*3) (.int .i64 m)).set (k*3+1) (.int .i64 0)).set (k*3+2) (.int .i64 0)=pats m (k+1)++cs.drop ((k+1)*3):=by
  obtain⟨x,y,z,r,hd⟩:∃x y z r,cs.drop (k*3)=x::y::z::r:=by
   match hq:cs.drop (k*3)with
   |x::y::z::r=>exact⟨x,y,z,r,rfl⟩
   |[]=>have:=congrArg List.length hq;simp at this;omega
   |[x]=>have:=congrArg List.length hq;simp at this;omega
   |[x,y]=>have:=congrArg List.length hq;simp at this;omega
  have hd2:cs.drop ((k+1)*3)=r:=by
   rw[show(k+1)*3=k*3+3 from af,←List.drop_drop,hd];rfl
  rw[hd,hd2,Vl];have hl:=Ap m k;rw[List.set_append_right _ _ af,List.set_append_right _ _ af,List.set_append_right _ _ af,hl];simp[pat]
 rw[e]at h1;exact h1
abbrev ad5 (w w':World)(v v':Value):Prop:=v'.ownBlock=v.ownBlock∨∃g,v'.ownBlock=some g∧w.heap.size≤g∧Ext w w'
def mg (C:Nat→Prop)(w:World)(v:Value)(n:Nat)(m:Int):Prop:=bM C false w 3 v n (pats m n)∧∃g cap,v=.slice (some ⟨g,0,none⟩) n cap∧n≤cap
theorem mg.of {C:Nat→Prop}{w:World}{v:Value}{n:Nat}{m:Int}(h:Own w 3 v n (pats m n))(hp:0<n)(hC:∀g,v.ownBlock=some g→C g):mg C w v n m:=by
 obtain⟨g,cap,e,h1,_⟩:=h.at hp;exact⟨(h.rowAt C hC).weak,g,cap,e,h1⟩
theorem mg.kp {C:Nat→Prop}{S:Nat→Prop}{w w':World}{v:Value}{n:Nat}{m:Int}(h:mg C w v n m)(k:Kp S w w')(hS:∀i,C i→¬S i):mg C w' v n m:=⟨h.1.go k hS (fun _ _ e=>e),h.2⟩
theorem mg.step {C:Nat→Prop}{w w':World}{v l v':Value}{p q:Nat}{m:Int}(h:mg C w v p m)(hpq:p≤q)(_hp:0<p)(k:Kp (Of l) w w')(h':mg C w' v' q m)(s:ad5 w w' l v'):mg C w' v p m:=by
 obtain⟨hr,g,cap,rfl,hc⟩:=h;obtain⟨hr',g',cap',rfl,hc'⟩:=h';refine⟨?_,g,cap,rfl,hc⟩;rcases s with e|⟨g2,e,e2,x⟩
 ·by_cases hl:l.ownBlock=some g
  ·have eg:g'=g:=by
    rw[hl]at e;simpa[Value.ownBlock]using e
   subst eg;exact hr'.prefix hpq ⟨_,cap,cap',rfl,hc,rfl⟩
  ·obtain⟨h0,ao,c0,e0,h1,h3⟩:=hr;cases e0;refine⟨h0,_,_,rfl,h1,fun hn=>?_⟩;obtain⟨b,off,e1,hC,hlt,hcell,_⟩:=h3 hn;cases e1;have eb:=k.block g hlt (fun e=>hl e);exact⟨g,0,rfl,hC,aY hlt k.size,fun j hj=>by rw[World.cell?_of_block (w:=w) (a:=⟨g,0+j,none⟩) eb];exact hcell j hj,fun h=>by cases h⟩
 ·exact hr.go x (fun _ _ f=>f) (fun _ _ e=>e)
theorem E8 (w:World)(b k:Nat)(hbk:b=w.heap.size)(m:Int)(arr:Array Value)(ha:arr=(pats m k).toArray):Src Tryz.prog 3 67 (.slice (some ⟨b,0,none⟩) k k) k (pats m k) (w.alloc (.cells arr 72)):=by
 subst ha;subst hbk;exact Src.ofSlice (P:=Tryz.prog) _ (e':=72) Tryz.underlying67 _ _ _ _ (Ap _ _) (fun j u hu=>by
  rw[Addr.add_lit,Nat.zero_add,World.cell?_alloc_new];simpa using hu) (fun u hu=>by
  unfold pats at hu;obtain⟨l,hl,hu⟩:=List.mem_flatten.1 hu;rw[List.eq_of_mem_replicate hl]at hu;simp[pat]at hu;rcases hu with rfl|rfl|rfl<;>rfl)
structure KS (w X:World)(Wb:Nat)(tv iv av rv lv:Value)(na n:Nat)(oD:List Value)(m:Int)(xa xb xc:Value):Prop where
 b1:bK X w.heap.size (pat m) 72
 b2:bK X (w.heap.size+1) [lv,xa,xb,xc,.int .i64 m] 97
 bw:bK X Wb [tv,iv,av,rv] 32
 oa:Own X 5 av na oD
 ol:Own X 3 lv n (pats m n)
 kp:Kp (Of lv) w X
theorem KS.app {w X u u1:World}{Wb:Nat}{tv iv av rv lv:Value}{na n:Nat}{oD:List Value}{m:Int}{xa xb xc D5 GL D6:Value}(h:KS w X Wb tv iv av rv lv na n oD m xa xb xc)(hlt:∀g,lv.ownBlock=some g→g<w.heap.size)(halt:∀g,av.ownBlock=some g→g<w.heap.size)(hWb:Wb<w.heap.size)(d2:lv.ownBlock≠some Wb)(d3:∀g,av.ownBlock=some g→lv.ownBlock≠some g)
 (xu:Ext X u)(k1:Kp (Of lv) u u1)(o1:Own u1 3 lv n (pats m n))(j:Nat)(v:Value)(e:[lv,xa,xb,xc,.int .i64 m].set j v=[lv,D5,GL,D6,.int .i64 m]):
 KS w (u1.setCell ⟨w.heap.size+1,j,none⟩ v) Wb tv iv av rv lv na n oD m D5 GL D6:=by
 have k:=bI u1 (w.heap.size+1) j v;have kk:Kp (Of lv) X u1:=(Kp.cZ xu).trans k1;refine⟨(h.b1.kept kk (fun e=>by have:=hlt _ e;omega)).kept k af,?_,(h.bw.kept kk (fun e=>d2 e)).kept k af,(h.oa.kept kk (fun g hg e=>d3 g hg e)).kept k (fun g hg e=>by have:=halt g hg;omega),o1.kept k (fun g hg e=>by have:=hlt g hg;omega),(h.kp.trans kk).then k (fun i hi e=>af)⟩;have:=(h.b2.kept kk (fun e=>by have:=hlt _ e;omega)).set j v;rwa[e]at this
theorem Nt (w:World)(Wb:Nat)(tv iv av rv lv:Value)(na n:Nat)(oD cs:List Value)(hb:bK w Wb [tv,iv,av,rv] 32)(ha:Own w 5 av na oD)(hl:Own w 3 lv n cs)(d1:av.ownBlock≠some Wb)(d2:lv.ownBlock≠some Wb)(d3:∀g,av.ownBlock=some g→lv.ownBlock≠some g)(hna:na≤1000000000)(hn:n≤1000):
 Calls Tryz.prog 35 #[PtrTo Wb 0,lv] w fun e w'=>e=.returned (.tuple #[])∧∃eZ x,bK w' Wb [tv,iv,eZ,rv] 32∧Own w' 5 eZ (na+1) (oD++oL x)∧
  E5 (fun g=>(lv.ownBlock=some g∨w.heap.size≤g)∧eZ.ownBlock≠some g) w' x∧Kp (fun k=>k=Wb∨Of av k∨Of lv k) w w'∧(∀g,eZ.ownBlock=some g→av.ownBlock=some g∨w.heap.size≤g):=by
 have q2:=hb.cell 2;simp only[au]at q2;obtain⟨aa,ac,rfl,hac⟩:=ha.shape;obtain⟨la,lc,rfl,hlc⟩:=hl.shape;have hcs:=hl.1;have mE:∀g,(Value.slice la n lc).ownBlock=some g→g<w.heap.size:=fun g hg=>hl.lt hg
 have halt:∀g,(Value.slice aa na ac).ownBlock=some g→g<w.heap.size:=fun g hg=>ha.lt hg
 have hblt:=hb.lt;have hmb:-2000000000≤-1000-(na:Int)∧-1000-(na:Int)<0:=af;go_enter Tryz.func35,Tryz.ntmps35
 go_wp2_with fail
 generalize -1000-(na:Int)=m at*;have hB1:bK (w.alloc (.cells #[.int .i64 m,.int .i64 0,.int .i64 0] 72)) w.heap.size (pat m) 72:=bK.bO w [.int .i64 m,.int .i64 0,.int .i64 0] _;have x1:Ext w (w.alloc (.cells #[.int .i64 m,.int .i64 0,.int .i64 0] 72)):=ax.alloc _;have z1:(w.alloc (.cells #[.int .i64 m,.int .i64 0,.int .i64 0] 72)).heap.size=w.heap.size+1:=aj;generalize w.alloc _=W1 at*;have hl1:=hl.ext x1;have ha1:=ha.ext x1;have hb1:=hb.kept x1 id;clear hl ha hb q2;go_loopw [6] (fun i wr=>∃k:Nat,k≤n∧i=.int .i64 k∧Own wr 3 (.slice la n lc) n (pats m k++cs.drop (k*3))∧Kp (Of (.slice la n lc)) W1 wr∧wr.heap.size=W1.heap.size) (fun i _=>n-(intOf i).toNat)
 case atStart=>exact⟨0,aM _,rfl,by simpa[pats]using hl1,Kp.refl _ _,rfl⟩
 case round=>
  obtain⟨k,hk,rfl,ho,hK,hz⟩:=hrel;have hB:=hB1.kept hK (fun e=>by have:=mE _ e;omega);by_cases hkl:k<n
  ·obtain⟨g,cap,he,-,oh,-⟩:=ho.at af;cases he;have b0:=hB.cell 0;have b1:=hB.cell 1;have b2:=hB.cell 2;simp only[pat,au]at b0 b1 b2;have hwr:∀j,j<3→(wr.cell? ⟨g,k*3+j,none⟩).isSome=true∧wr.frozen? ⟨g,k*3+j,none⟩=false:=fun j hj=>by
    rcases ho.2 with⟨e,_⟩|⟨g',cap',e,_,_,_,_,h5⟩
    ·cases e
    ·cases e;exact h5 _ af
   obtain⟨e0,f0⟩:=hwr 0 af;obtain⟨e1,f1⟩:=hwr 1 af;obtain⟨e2,f2⟩:=hwr 2 af;obtain⟨v0,e0⟩:=Option.isSome_iff_exists.1 e0;obtain⟨v1,e1⟩:=Option.isSome_iff_exists.1 e1;obtain⟨v2,e2⟩:=Option.isSome_iff_exists.1 e2;simp only[Nat.add_zero]at e0 f0;clear hwr;have hM:=Own.mark k ho hkl hcs;have HM:=hide hM;clear hM
   go_wp2_with fail
   refine⟨⟨k+1,af,by go_num,bH HM,?_,?_⟩,by simp[intOf];omega⟩
   ·exact((hK.setCell (p:=⟨g,k*3,none⟩) (.inl rfl) _).setCell (p:=⟨g,k*3+1,none⟩) (.inl rfl) _).setCell (p:=⟨g,k*3+2,none⟩) (.inl rfl) _
   ·rw[size_set,size_set,size_set];exact hz
  ·obtain rfl:k=n:=af;have ho2:Own wr 3 (.slice la k lc) k (pats m k):=by
    have:cs.drop (k*3)=[]:=List.drop_eq_nil_of_le af;rw[this,List.append_nil]at ho;exact ho
   have ha2:=ha1.kept hK (fun g hg e=>d3 g hg e);have hb2:=hb1.kept hK (fun e=>d2 e);have kw:Kp (Of (.slice la k lc)) w wr:=(Kp.cZ x1).trans hK;have hlt2:w.heap.size+1=wr.heap.size:=af;have Vm:=hide hlt2;clear ho ha1 hb1 hl1 hB1 hK x1 hlc hlt2 hz z1
   go_upto_region 7 with fail
   have hlt2:=bH Vm;have hS0:KS w (wr.alloc (.cells #[.slice la k lc,.slice none 0 0,.slice none 0 0,.slice none 0 0,.int .i64 m] 97)) Wb tv iv (.slice aa na ac) rv (.slice la k lc) na k oD m (.slice none 0 0) (.slice none 0 0) (.slice none 0 0):=by
    have xx:Ext wr (wr.alloc (.cells #[.slice la k lc,.slice none 0 0,.slice none 0 0,.slice none 0 0,.int .i64 m] 97)):=ax.alloc _;refine⟨hB.kept xx id,?_,hb2.kept xx id,ha2.ext xx,ho2.ext xx,kw.trans (Kp.cZ xx)⟩;rw[hlt2];exact bK.bO wr [.slice la k lc,.slice none 0 0,.slice none 0 0,.slice none 0 0,.int .i64 m] _
   rw[←hlt2];have zX:(wr.alloc (.cells #[.slice la k lc,.slice none 0 0,.slice none 0 0,.slice none 0 0,.int .i64 m] 97)).heap.size=w.heap.size+2:=by simp;omega
   clear hB hb2 ha2 ho2 kw hlt2 Vm;have ZX:=hide zX;clear zX;generalize wr.alloc _=X0 at*;have Nu:Hid (w.heap.size+2≤X0.heap.size):=by show _≤_;rw[ZX.out];omega
   clear ZX;obtain⟨C,hC⟩:∃C:Nat→Prop,C=fun g=>(Value.slice la k lc).ownBlock=some g∨w.heap.size+2≤g:=⟨_,rfl⟩
   have kL:Hid (∀g,(Value.slice la k lc).ownBlock=some g∨w.heap.size+2≤g→C g):=fun g hg=>by rw[hC];exact hg
   have oC:Hid (∀g,C g→(Value.slice la k lc).ownBlock=some g∨w.heap.size+2≤g):=fun g hg=>by rw[hC]at hg;exact hg
   have zF:Hid (∀g,C g→¬g=w.heap.size+1):=fun g hg=>by
    rw[hC]at hg;rcases hg with e|e
    ·have:=mE g e;omega
    ·omega
   clear hC;have p0:=hS0.b1.cell 0;have p1:=hS0.b1.cell 1;have p2:=hS0.b1.cell 2;simp only[pat,au]at p0 p1 p2;have yD:Hid (#[Value.int .i64 m,.int .i64 0,.int .i64 0]=(pats m 1).toArray):=rfl
   go_upto_region 8 with(at_builtin;go_must (refine lD _ rfl _ _ 67 67 rfl 72 (.agg #[.int .i64 0,.int .i64 0,.int .i64 0]) 3 24 Tryz.underlying67 vQ rfl (.slice la k lc) k (pats m k) rfl (hS0.ol.dV _) _ rfl 1 _ (E8 _ _ 1 rfl m _ (bH yD)) af af ?_);intro va ua Nv Cr Vn Vo;have r0:=(hS0.b2.kept ((Kp.cZ (ax.alloc _)).trans Cr) (fun e=>by have:=mE _ e;omega)).cell 1;have r1:=(hS0.b2.kept ((Kp.cZ (ax.alloc _)).trans Cr) (fun e=>by have:=mE _ e;omega)).free 1;simp only[au]at r0;obtain⟨pO,ca,rfl,hca⟩:=Nv.shape)
   have hS1:=hS0.app mE halt hblt d2 d3 (ax.alloc _) Cr Vn 1 (.slice pO (k+1) ca) rfl;have Vp:=bI ua (w.heap.size+1) 1 (.slice pO (k+1) ca);have Nw:Hid (w.heap.size+2≤(ua.setCell ⟨w.heap.size+1,1,none⟩ (.slice pO (k+1) ca)).heap.size):=by
    show _≤_;have h1:=Cr.size;have h2:=Nu.out;rw[size_set];simp at h1;omega
   have Vq:Own ua 3 (.slice pO (k+1) ca) (k+1) (pats m (k+1)):=by rw[Aq];exact Nv
   have Vr:mg C ua (.slice pO (k+1) ca) (k+1) m:=mg.of Vq af (fun g hg=>kL.out g (by
    rcases Vo with e|⟨g',e1,e2,_⟩
    ·exact .inl (by rw[←e];exact hg)
    ·rw[e1]at hg;simp only[Option.some.injEq]at hg;have:=Nu.out;simp at e2;exact .inr af))
   have Vs:=Vr.kp Vp zF.out;clear hS0 Nu Vq Vr Vp Nv Cr Vn Vo p0 p1 p2 r0 r1 yD;generalize ua.setCell _ _=X1 at*;have p0:=hS1.b1.cell 0;have p1:=hS1.b1.cell 1;have p2:=hS1.b1.cell 2;simp only[pat,au]at p0 p1 p2;have Vt:Hid (#[Value.int .i64 m,.int .i64 0,.int .i64 0,.int .i64 m,.int .i64 0,.int .i64 0]=(pats m 2).toArray):=rfl
   go_upto_region 9 with(at_builtin;go_must (refine lD _ rfl _ _ 67 67 rfl 72 (.agg #[.int .i64 0,.int .i64 0,.int .i64 0]) 3 24 Tryz.underlying67 vQ rfl (.slice la k lc) k (pats m k) rfl (hS1.ol.dV _) _ rfl 2 _ (E8 _ _ 2 rfl m _ (bH Vt)) af af ?_);intro vb ub Ny zG Vu Nz;have r0:=(hS1.b2.kept ((Kp.cZ (ax.alloc _)).trans zG) (fun e=>by have:=mE _ e;omega)).cell 2;have r1:=(hS1.b2.kept ((Kp.cZ (ax.alloc _)).trans zG) (fun e=>by have:=mE _ e;omega)).free 2;simp only[au]at r0;obtain⟨ab,cb,rfl,hcb⟩:=Ny.shape)
   have hS2:=hS1.app mE halt hblt d2 d3 (ax.alloc _) zG Vu 2 (.slice ab (k+2) cb) rfl;have NA:=bI ub (w.heap.size+1) 2 (.slice ab (k+2) cb);have NC:Hid (w.heap.size+2≤(ub.setCell ⟨w.heap.size+1,2,none⟩ (.slice ab (k+2) cb)).heap.size):=by
    show _≤_;have h1:=zG.size;have h2:=Nw.out;rw[size_set];simp at h1;omega
   have Vv:Own ub 3 (.slice ab (k+2) cb) (k+2) (pats m (k+2)):=by rw[Aq];exact Ny
   have ND:mg C ub (.slice ab (k+2) cb) (k+2) m:=mg.of Vv af (fun g hg=>kL.out g (by
    rcases Nz with e|⟨g',e1,e2,_⟩
    ·exact .inl (by rw[←e];exact hg)
    ·rw[e1]at hg;simp only[Option.some.injEq]at hg;have:=Nw.out;simp at e2;exact .inr af))
   have Vw:=(((Vs.kp (S:=fun _=>False) (ax.alloc _) (fun _ _ f=>f)).step af af zG ND Nz).kp NA zF.out)
   have Vx:=ND.kp NA zF.out;clear hS1 Nw Vv ND NA Ny zG Vu Nz p0 p1 p2 r0 r1 Vt Vs;generalize ub.setCell _ _=X2 at*;have p0:=hS2.b1.cell 0;have p1:=hS2.b1.cell 1;have p2:=hS2.b1.cell 2;simp only[pat,au]at p0 p1 p2;have En:Hid (#[Value.int .i64 m,.int .i64 0,.int .i64 0,.int .i64 m,.int .i64 0,.int .i64 0,.int .i64 m,.int .i64 0,.int .i64 0]=(pats m 3).toArray):=rfl
   go_upto_region 10 with(at_builtin;go_must (refine lD _ rfl _ _ 67 67 rfl 72 (.agg #[.int .i64 0,.int .i64 0,.int .i64 0]) 3 24 Tryz.underlying67 vQ rfl (.slice la k lc) k (pats m k) rfl (hS2.ol.dV _) _ rfl 3 _ (E8 _ _ 3 rfl m _ (bH En)) af af ?_);intro vc uc NG wV Vy GN;have r0:=(hS2.b2.kept ((Kp.cZ (ax.alloc _)).trans wV) (fun e=>by have:=mE _ e;omega)).cell 3;have r1:=(hS2.b2.kept ((Kp.cZ (ax.alloc _)).trans wV) (fun e=>by have:=mE _ e;omega)).free 3;simp only[au]at r0;obtain⟨pQ,cc,rfl,hcc⟩:=NG.shape)
   have fP:=hS2.app mE halt hblt d2 d3 (ax.alloc _) wV Vy 3 (.slice pQ (k+3) cc) rfl;have GQ:=bI uc (w.heap.size+1) 3 (.slice pQ (k+3) cc);have ZZ3:Hid (w.heap.size+2≤(uc.setCell ⟨w.heap.size+1,3,none⟩ (.slice pQ (k+3) cc)).heap.size):=by
    show _≤_;have h1:=wV.size;have h2:=NC.out;rw[size_set];simp at h1;omega
   have Vz:Own uc 3 (.slice pQ (k+3) cc) (k+3) (pats m (k+3)):=by rw[Aq];exact NG
   have GU:mg C uc (.slice pQ (k+3) cc) (k+3) m:=mg.of Vz af (fun g hg=>kL.out g (by
    rcases GN with e|⟨g',e1,e2,_⟩
    ·exact .inl (by rw[←e];exact hg)
    ·rw[e1]at hg;simp only[Option.some.injEq]at hg;have:=NC.out;simp at e2;exact .inr af))
   have Aa3:=(((Vw.kp (S:=fun _=>False) (ax.alloc _) (fun _ _ f=>f)).step af af wV GU GN).kp GQ zF.out)
   have Ab3:=(((Vx.kp (S:=fun _=>False) (ax.alloc _) (fun _ _ f=>f)).step af af wV GU GN).kp GQ zF.out)
   have Ac3:=GU.kp GQ zF.out;clear hS2 NC Vz GU GQ NG wV Vy GN p0 p1 p2 r0 r1 En Vw Vx;generalize uc.setCell _ _=X3 at*;have q2:=fP.bw.cell 2;have t0:=fP.b2.cell 0;have t1:=fP.b2.cell 1;have t2:=fP.b2.cell 2;have t3:=fP.b2.cell 3;have t4:=fP.b2.cell 4;have f2:=fP.bw.free 2;simp only[au]at q2 t0 t1 t2 t3 t4;have hWB:Wb≠w.heap.size+1:=af;have hS:∀u,Kp (fun g=>g≠Wb∧g≠w.heap.size+1) X3 u→u.cell? ⟨Wb,2,none⟩=some (.slice aa na ac)∧u.cell? ⟨w.heap.size+1,0,none⟩=some (.slice la k lc)∧u.cell? ⟨w.heap.size+1,1,none⟩=some (.slice pO (k+1) ca)∧u.cell? ⟨w.heap.size+1,2,none⟩=some (.slice ab (k+2) cb)∧u.cell? ⟨w.heap.size+1,3,none⟩=some (.slice pQ (k+3) cc)∧u.cell? ⟨w.heap.size+1,4,none⟩=some (.int .i64 m):=fun u hu=>
    ⟨hu.cell q2 aj,hu.cell t0 aj,hu.cell t1 aj,hu.cell t2 aj,hu.cell t3 aj,hu.cell t4 aj⟩
   have HS:=hide hS;have VA:Hid (∀u,Ext X3 u→Own u 5 (.slice aa na ac) na oD):=fun u hu=>fP.oa.ext hu
   have JO:Hid (∀g,(Value.slice aa na ac).ownBlock=some g→g≠Wb∧g≠w.heap.size+1):=fun g hg=>⟨fun e=>d1 (by rw[←e];exact hg),fun e=>by have:=halt g hg;omega⟩
   have NH:Hid (#[Value.slice la k lc,.slice pO (k+1) ca,.slice ab (k+2) cb,.slice pQ (k+3) cc,.int .i64 m]=(oL ⟨.slice la k lc,.slice pO (k+1) ca,.slice ab (k+2) cb,.slice pQ (k+3) cc,k,m⟩).toArray):=rfl;have NI:Hid (∀u∈oL ⟨.slice la k lc,.slice pO (k+1) ca,.slice ab (k+2) cb,.slice pQ (k+3) cc,k,m⟩,u.oneCell'=true):=by
    intro u hu;simp[oL]at hu;rcases hu with rfl|rfl|rfl|rfl|rfl<;>rfl
   have hK1:Kp (fun g=>g≠Wb∧g≠w.heap.size+1) X3 X3.drew:=ax.drew;clear hS
   go_wp2_with fail
   refine bZ (n:=10) (Kp (fun g=>g≠Wb∧g≠w.heap.size+1) X3) (by kernel_rfl) ?_;refine Late.h HS 0 [10] rfl hK1 ?_;refine Late.h HS 1 [10] rfl hK1 ?_;refine Late.h HS 2 [10] rfl hK1 ?_;refine Late.h HS 3 [10] rfl hK1 ?_;refine Late.h HS 4 [10] rfl hK1 ?_;refine Late.h HS 5 [10] rfl hK1 ?_;refine Late.o 6 rfl (fun K hK=>?_);go_simp;refine hK _ _ (fun _=>(ax.alloc _).drew) ?_;clear hK K;try simp only[lX]
   refine Late.o 7 rfl (fun K hK=>?_);refine d_ rfl _ _ 29 29 rfl 97 zKA 5 104 Tryz.underlying29 ad4 rfl (.slice aa na ac) na oD rfl ((bH VA) _ (ax.alloc _).drew) _ (by rfl) 1 _ (uK _ _ _ Tryz.underlying29 _ _ (bH NH) (bH NI)) af af ?_;intro eZ w1 o2 k2 s2;have k12:Kp (fun g=>g≠Wb∧g≠w.heap.size+1) X3 w1:=(ax.alloc _).drew.trans (k2.mono (fun k _ e=>(bH JO) k e));refine hK _ _ (fun _=>k12) ?_;clear hK K;obtain⟨a',c',rfl,hc'⟩:=o2.shape;try simp only[lX]
   have q2':w1.cell? ⟨Wb,2,none⟩=some (.slice aa na ac):=k12.cell q2 aj;have f2':w1.frozen? ⟨Wb,2,none⟩=false:=by rw[World.frozen?_of_block (w:=X3) (a:=⟨Wb,2,none⟩) (k12.block Wb fP.bw.lt aj)];exact f2
   refine Late.o 8 rfl (fun K hK=>?_);go_simp;refine hK _ _ (fun _=>k12) ?_;clear hK K;try simp only[lX]
   refine Late.o 9 rfl (fun K hK=>?_);go_simp;refine hK _ _ (fun _=>k12) ?_;clear hK K;try simp only[lX]
   refine Late.o 10 rfl (fun K hK=>?_);go_simp;refine hK _ _ (fun h=>absurd rfl h) ?_;clear hK K;try simp only[lX]
   refine Late.done (by kernel_rfl) ?_ _
   go_end0
   have kk:Kp (Of (.slice aa na ac)) X3 w1:=(ax.alloc _).drew.trans k2;have ks:=bI w1 Wb 2 (.slice a' (na+1) c');have hXs:=(bH ZZ3)
   have wW:∀g,(Value.slice a' (na+1) c').ownBlock=some g→(Value.slice aa na ac).ownBlock=some g∨X3.heap.size≤g:=fun g hg=>by
    rcases s2 with e|⟨g',e1,e2⟩
    ·exact .inl (by rw[←e];exact hg)
    ·rw[e1]at hg;simp only[Option.some.injEq]at hg;subst hg;exact .inr (by
      have e3:(X3.alloc (Obj.cells #[Value.slice la k lc,Value.slice pO (k+1) ca,Value.slice ab (k+2) cb,Value.slice pQ (k+3) cc,Value.int .i64 m] 97)).drew.heap.size=X3.heap.size+1:=by show(World.alloc _ _).heap.size=_;simp
      omega)
   have VB:∀g,C g→¬Of (.slice aa na ac) g:=fun g hg e=>by
    rcases oC.out g hg with e'|e'
    ·exact d3 g e e'
    ·have:=halt g e;omega
   have hCc:∀g,g<X3.heap.size→C g→((Value.slice la k lc).ownBlock=some g∨w.heap.size≤g)∧(Value.slice a' (na+1) c').ownBlock≠some g:=fun g hlt hg=>by
    refine⟨(oC.out g hg).imp id (fun h=>af),fun e=>?_⟩;rcases wW g e with e'|e'
    ·exact VB g hg e'
    ·omega
   have hCW:∀g,((Value.slice la k lc).ownBlock=some g∨w.heap.size≤g)∧(Value.slice a' (na+1) c').ownBlock≠some g→¬g=Wb:=fun g hg e=>by
    rcases hg.1 with e'|e'
    ·exact d2 (by rw[←e];exact e')
    ·omega
   have hrow:∀(v:Value)(q:Nat),bM C false X3 3 v q (pats m q)→bM (fun g=>((Value.slice la k lc).ownBlock=some g∨w.heap.size≤g)∧(Value.slice a' (na+1) c').ownBlock≠some g) false (w1.setCell ⟨Wb,2,none⟩ (.slice a' (na+1) c')) 3 v q (pats m q):=fun v q h=>
    (h.go kk VB hCc).go ks hCW (fun _ _ e=>e)
   refine⟨rfl,.slice a' (na+1) c',⟨.slice la k lc,.slice pO (k+1) ca,.slice ab (k+2) cb,.slice pQ (k+3) cc,k,m⟩,?_,?_,⟨by show k≤_;omega,hrow _ _ (fP.ol.rowAt C (fun g hg=>kL.out g (.inl hg))).weak,hrow _ _ Aa3.1,hrow _ _ Ab3.1,hrow _ _ Ac3.1⟩,?_,fun g hg=>(wW g hg).imp id (fun h=>af)⟩
   ·have:=(fP.bw.kept kk (fun e=>d1 e)).set 2 (.slice a' (na+1) c');simpa using this
   ·exact o2.kept ks (fun g hg e=>by
     rcases wW g hg with e'|e'
     ·exact d1 (by rw[←e];exact e')
     ·omega)
   ·refine((fP.kp.mono (S':=fun k_1=>k_1=Wb∨Of (.slice aa na ac) k_1∨Of (.slice la k lc) k_1) (fun i _ h=>.inr (.inr h))).then kk (fun i _ h=>.inr (.inl h))).then ks (fun i _ h=>.inl h)
theorem sM (w:World)(C:Nat→Prop)(fr:Bool)(v:Value)(m:Int)(n:Nat)(h:bM C fr w 1 v n (List.replicate n (.int .i64 m)))(hn:n≤1000000000000000):
 Calls Tryz.prog 43 #[v,.int .i64 m] w fun e w'=>e=.returned (.bool true)∧w'=w:=by
 obtain⟨-,ao,cap,rfl,h1,h3⟩:=h;go_enter Tryz.func43,Tryz.ntmps43
 go_wp2_with fail
 go_loop [5] (fun i=>∃k:Nat,k≤n∧i=.int .i64 k) (fun i=>n-(intOf i).toNat)
 case atStart=>exact⟨0,aM _,rfl⟩
 case round=>
  obtain⟨k,hk,rfl⟩:=hrel;by_cases hkl:k<n
  ·obtain⟨g,off,rfl,-,-,hc,-⟩:=h3 af;have d0:=hc k af;rw[List.getElem?_replicate,if_pos hkl]at d0;clear hc h3
   go_wp2_with fail
   exact⟨⟨k+1,af,by go_num⟩,by simp[intOf];omega⟩
  ·go_wp2_with fail
   go_ret;exact⟨rfl,rfl⟩
def vS (C:Nat→Prop)(w:World)(v:Value)(m:Int):Prop:=∃b off cap,v=.slice (some ⟨b,off,none⟩) 1 cap∧1≤cap∧C b∧b<w.heap.size∧w.cell? ⟨b,off,none⟩=some (.int .i64 m)
theorem vS.go {C C':Nat→Prop}{S:Nat→Prop}{w w':World}{v:Value}{m:Int}(h:vS C w v m)(k:Kp S w w')(hS:∀i,C i→¬S i)(hC:∀i,i<w.heap.size→C i→C' i):vS C' w' v m:=by
 obtain⟨b,off,cap,rfl,h1,h2,h3,h4⟩:=h;exact⟨b,off,cap,rfl,h1,hC b h3 h2,aY h3 k.size,k.cell h4 (hS b h2)⟩
theorem sN (w:World)(C C':Nat→Prop)(fr:Bool)(v:Value)(m:Int)(vs:List Value)(h:bM C fr w 1 v vs.length vs)(hv:∀u∈vs,vS C' w u m)(hn:vs.length≤1000000000000000):
 Calls Tryz.prog 44 #[v,.int .i64 m] w fun e w'=>e=.returned (.bool true)∧w'=w:=by
 obtain⟨-,ao,cap,rfl,h1,h3⟩:=h;generalize hL:vs.length=n at*;go_enter Tryz.func44,Tryz.ntmps44
 go_wp2_with fail
 go_loop [5] (fun i=>∃k:Nat,k≤n∧i=.int .i64 k) (fun i=>n-(intOf i).toNat)
 case atStart=>exact⟨0,aM _,rfl⟩
 case round=>
  obtain⟨k,hk,rfl⟩:=hrel;by_cases hkl:k<n
  ·obtain⟨g,off,rfl,-,-,hc,-⟩:=h3 af;have d0:=hc k af;rw[ay af]at d0;obtain⟨b,o2,cap2,e,h2,-,-,h4⟩:=hv (vs[k]'af) (aJ _);rw[e]at d0;clear hc h3 hv hL e
   go_wp2_with fail
   exact⟨⟨k+1,af,by go_num⟩,by simp[intOf];omega⟩
  ·clear hL hv h3
   go_wp2_with fail
   go_ret;exact⟨rfl,rfl⟩
structure KI where
 l:Value
 a:Value
 b:Value
 c:Value
 n:Nat
 m:Int
def tX (x:KI):List Value:=[x.l,x.a,x.b,x.c,.int .i64 x.m]
structure NJ (C:Nat→Prop)(w:World)(x:KI):Prop where
 nl:x.n≤1000000000
 hl:bM C false w 1 x.l x.n (List.replicate x.n (.int .i64 x.m))
 ha:bM C false w 1 x.a (x.n+1) (List.replicate (x.n+1) (.int .i64 x.m))
 hb:bM C false w 1 x.b (x.n+2) (List.replicate (x.n+2) (.int .i64 x.m))
 hc:bM C false w 1 x.c (x.n+3) (List.replicate (x.n+3) (.int .i64 x.m))
structure KR where
 l:Value
 a:Value
 b:Value
 c:Value
 vl:List Value
 va:List Value
 vb:List Value
 vc:List Value
 m:Int
def rH (x:KR):List Value:=[x.l,x.a,x.b,x.c,.int .i64 x.m]
def rJ (C:Nat→Prop)(w:World)(v:Value)(vs:List Value)(m:Int):Prop:=vs.length≤1000000000∧bM C false w 1 v vs.length vs∧∀u∈vs,vS C w u m
structure Iy (C:Nat→Prop)(w:World)(x:KR):Prop where
 hl:rJ C w x.l x.vl x.m
 ha:rJ C w x.a x.va x.m
 hb:rJ C w x.b x.vb x.m
 hc:rJ C w x.c x.vc x.m
theorem rJ.go {C C':Nat→Prop}{S:Nat→Prop}{w w':World}{v:Value}{vs:List Value}{m:Int}(h:rJ C w v vs m)(k:Kp S w w')(hS:∀i,C i→¬S i)(hC:∀i,i<w.heap.size→C i→C' i):rJ C' w' v vs m:=
 ⟨h.1,h.2.1.go k hS hC,fun u hu=>(h.2.2 u hu).go k hS hC⟩
theorem NJ.go {C C':Nat→Prop}{S:Nat→Prop}{w w':World}{x:KI}(h:NJ C w x)(k:Kp S w w')(hS:∀i,C i→¬S i)(hC:∀i,i<w.heap.size→C i→C' i):NJ C' w' x:=
 ⟨h.nl,h.hl.go k hS hC,h.ha.go k hS hC,h.hb.go k hS hC,h.hc.go k hS hC⟩
theorem Iy.go {C C':Nat→Prop}{S:Nat→Prop}{w w':World}{x:KR}(h:Iy C w x)(k:Kp S w w')(hS:∀i,C i→¬S i)(hC:∀i,i<w.heap.size→C i→C' i):Iy C' w' x:=
 ⟨h.hl.go k hS hC,h.ha.go k hS hC,h.hb.go k hS hC,h.hc.go k hS hC⟩
structure KeptAt (C:Nat→Prop)(w:World)(iv av rv:Value)(li:List KI)(la:List KA)(lr:List KR):Prop where
 oi:Own w 5 iv li.length (li.flatMap tX)
 oa:Own w 5 av la.length (la.flatMap oL)
 oF:Own w 5 rv lr.length (lr.flatMap rH)
 ki:∀x∈li,NJ C w x
 ka:∀x∈la,E5 C w x
 kr:∀x∈lr,Iy C w x
 bi:li.length≤1000000000
 ba:la.length≤1000000000
 br:lr.length≤1000000000
theorem iq {α:Type}(s:Nat)(f:α→List Value)(hf:∀x,(f x).length=s)(l:List α)(i j:Nat)(hi:i<l.length)(hj:j<s):(l.flatMap f)[i*s+j]?=(f l[i])[j]?:=by
 rw[List.flatMap_def];refine jB s _ (fun e he=>?_) i j hj _ ?_
 ·obtain⟨x,_,rfl⟩:=List.mem_map.1 he;exact hf x
 ·rw[aN,ay hi];rfl
theorem Own.elem {α:Type}{w:World}{s g cap:Nat}{f:α→List Value}{l:List α}(hf:∀x,(f x).length=s)(h:Own w s (.slice (some ⟨g,0,none⟩) l.length cap) l.length (l.flatMap f))(i:Nat)(hi:i<l.length):∀j,j<s→w.cell? ⟨g,i*s+j,none⟩=(f l[i])[j]?:=fun j hj=>by
 rcases h.2 with⟨e,_⟩|⟨g',cap',e,_,_,_,h4,_⟩
 ·cases e
 ·cases e;rw[h4 _ (by
   have:(i+1)*s≤l.length*s:=Nat.mul_le_mul_right _ hi;rw[Nat.add_mul]at this;omega),iq s f hf l i j hi hj]
theorem KeptAt.ext {C:Nat→Prop}{w w':World}{iv av rv:Value}{li:List KI}{la:List KA}{lr:List KR}(h:KeptAt C w iv av rv li la lr)(k:Ext w w'):KeptAt C w' iv av rv li la lr:=
 ⟨h.oi.ext k,h.oa.ext k,h.oF.ext k,fun x hx=>(h.ki x hx).go k (fun _ _ f=>f) (fun _ _ e=>e),fun x hx=>(h.ka x hx).go k (fun _ _ f=>f) (fun _ _ e=>e),fun x hx=>(h.kr x hx).go k (fun _ _ f=>f) (fun _ _ e=>e),h.bi,h.ba,h.br⟩
theorem rM (C:Nat→Prop)(w:World)(Wb:Nat)(tv iv av rv:Value)(li:List KI)(la:List KA)(lr:List KR)(hb:bK w Wb [tv,iv,av,rv] 32)(h:KeptAt C w iv av rv li la lr):
 Calls Tryz.prog 14 #[PtrTo Wb 0] w fun e w'=>e=.returned (.bool true)∧Ext w w':=by
 obtain⟨ia,ic,rfl,hic⟩:=h.oi.shape;obtain⟨aa,ac,rfl,hac⟩:=h.oa.shape;obtain⟨ra,rc,rfl,hrc⟩:=h.oF.shape;have hbi:=h.bi;have hba:=h.ba;have hbr:=h.br;go_enter Tryz.func14,Tryz.ntmps14
 go_wp2_with fail
 go_loopw [3] (fun i wr=>∃k:Nat,k≤li.length∧i=.int .i64 k∧Ext w wr) (fun i _=>li.length-(intOf i).toNat)
 case atStart=>exact⟨0,aM _,rfl,Kp.refl _ _⟩
 case round=>
  obtain⟨k,hk,rfl,hx⟩:=hrel;have q:=(hb.kept hx id).cell 1;simp only[au]at q;by_cases hkl:k<li.length
  ·have hK:=h.ext hx;obtain⟨g,cap,he,-,-,-⟩:=hK.oi.at af;cases he;have hcell:=Own.elem (f:=tX) (fun _=>rfl) hK.oi k hkl;have hk:=hK.ki li[k] (aJ hkl);generalize li[k]=x at*;have d0:=hcell 0 af;have d1:=hcell 1 af;have d2:=hcell 2 af;have d3:=hcell 3 af;have d4:=hcell 4 af;simp only[tX,au,Nat.add_zero]at d0 d1 d2 d3 d4;clear hcell hK;have h0:=hk.hl.go (C':=C) ((Kp.refl (fun _=>False) wr).alloc (.cells #[x.l,x.a,x.b,x.c,.int .i64 x.m] 91)) (fun _ _ f=>f) (fun _ _ e=>e);have h1:=hk.ha.go (C':=C) ((Kp.refl (fun _=>False) wr).alloc (.cells #[x.l,x.a,x.b,x.c,.int .i64 x.m] 91)) (fun _ _ f=>f) (fun _ _ e=>e);have h2:=hk.hb.go (C':=C) ((Kp.refl (fun _=>False) wr).alloc (.cells #[x.l,x.a,x.b,x.c,.int .i64 x.m] 91)) (fun _ _ f=>f) (fun _ _ e=>e);have h3:=hk.hc.go (C':=C) ((Kp.refl (fun _=>False) wr).alloc (.cells #[x.l,x.a,x.b,x.c,.int .i64 x.m] 91)) (fun _ _ f=>f) (fun _ _ e=>e);obtain⟨l0,n0,c0,e0⟩:∃l n c,x.l=.slice l n c:=(by obtain⟨_,l,c,e,_⟩:=h0;exact⟨_,_,_,e⟩)
   obtain⟨l1,n1,c1,e1⟩:∃l n c,x.a=.slice l n c:=(by obtain⟨_,l,c,e,_⟩:=h1;exact⟨_,_,_,e⟩)
   obtain⟨l2,n2,c2,e2⟩:∃l n c,x.b=.slice l n c:=(by obtain⟨_,l,c,e,_⟩:=h2;exact⟨_,_,_,e⟩)
   obtain⟨l3,n3,c3,e3⟩:∃l n c,x.c=.slice l n c:=(by obtain⟨_,l,c,e,_⟩:=h3;exact⟨_,_,_,e⟩)
   have uU:=hide (sM _ C false _ _ _ h0 (by have:=hk.nl;omega));have kL:=hide (sM _ C false _ _ _ h1 (by have:=hk.nl;omega));have oC:=hide (sM _ C false _ _ _ h2 (by have:=hk.nl;omega));have uV:=hide (sM _ C false _ _ _ h3 (by have:=hk.nl;omega));rw[e0]at d0 uU kL oC uV;rw[e1]at d1 uU kL oC uV;rw[e2]at d2 uU kL oC uV;rw[e3]at d3 uU kL oC uV;clear e0 e1 e2 e3 h0 h1 h2 h3 hk;generalize x.m=m at*
   go_wp2_with fail
   refine(bH uU).mono ?_;rintro e _ ⟨rfl,rfl⟩
   go_wp2_with fail
   refine(bH kL).mono ?_;rintro e _ ⟨rfl,rfl⟩
   go_wp2_with fail
   refine(bH oC).mono ?_;rintro e _ ⟨rfl,rfl⟩
   go_wp2_with fail
   refine(bH uV).mono ?_;rintro e _ ⟨rfl,rfl⟩
   go_wp2_with fail
   exact⟨⟨k+1,af,by go_num,hx.alloc _⟩,by simp[intOf];omega⟩
  ·go_wp2_with fail
   clear q hkl;go_loopw [5] (fun i wr=>∃k:Nat,k≤lr.length∧i=.int .i64 k∧Ext w wr) (fun i _=>lr.length-(intOf i).toNat)
   case atStart=>exact⟨0,aM _,rfl,hx⟩
   case round=>
    clear hx;obtain⟨k,hk,rfl,hx⟩:=hrel;have q:=(hb.kept hx id).cell 3;simp only[au]at q;by_cases hkl:k<lr.length
    ·have hK:=h.ext hx;obtain⟨g,cap,he,-,-,-⟩:=hK.oF.at af;cases he;have hcell:=Own.elem (f:=rH) (fun _=>rfl) hK.oF k hkl;have hk:=hK.kr lr[k] (aJ hkl);generalize lr[k]=x at*;have d0:=hcell 0 af;have d1:=hcell 1 af;have d2:=hcell 2 af;have d3:=hcell 3 af;have d4:=hcell 4 af;simp only[rH,au,Nat.add_zero]at d0 d1 d2 d3 d4;clear hcell hK;have h0:=hk.hl.go (C':=C) ((Kp.refl (fun _=>False) wr).alloc (.cells #[x.l,x.a,x.b,x.c,.int .i64 x.m] 94)) (fun _ _ f=>f) (fun _ _ e=>e);have h1:=hk.ha.go (C':=C) ((Kp.refl (fun _=>False) wr).alloc (.cells #[x.l,x.a,x.b,x.c,.int .i64 x.m] 94)) (fun _ _ f=>f) (fun _ _ e=>e);have h2:=hk.hb.go (C':=C) ((Kp.refl (fun _=>False) wr).alloc (.cells #[x.l,x.a,x.b,x.c,.int .i64 x.m] 94)) (fun _ _ f=>f) (fun _ _ e=>e);have h3:=hk.hc.go (C':=C) ((Kp.refl (fun _=>False) wr).alloc (.cells #[x.l,x.a,x.b,x.c,.int .i64 x.m] 94)) (fun _ _ f=>f) (fun _ _ e=>e);obtain⟨l0,n0,c0,e0⟩:∃l n c,x.l=.slice l n c:=(by obtain⟨_,l,c,e,_⟩:=h0.2.1;exact⟨_,_,_,e⟩)
     obtain⟨l1,n1,c1,e1⟩:∃l n c,x.a=.slice l n c:=(by obtain⟨_,l,c,e,_⟩:=h1.2.1;exact⟨_,_,_,e⟩)
     obtain⟨l2,n2,c2,e2⟩:∃l n c,x.b=.slice l n c:=(by obtain⟨_,l,c,e,_⟩:=h2.2.1;exact⟨_,_,_,e⟩)
     obtain⟨l3,n3,c3,e3⟩:∃l n c,x.c=.slice l n c:=(by obtain⟨_,l,c,e,_⟩:=h3.2.1;exact⟨_,_,_,e⟩)
     have uU:=hide (sN _ C C false _ _ _ h0.2.1 h0.2.2 (by have:=h0.1;omega));have kL:=hide (sN _ C C false _ _ _ h1.2.1 h1.2.2 (by have:=h1.1;omega));have oC:=hide (sN _ C C false _ _ _ h2.2.1 h2.2.2 (by have:=h2.1;omega));have uV:=hide (sN _ C C false _ _ _ h3.2.1 h3.2.2 (by have:=h3.1;omega));rw[e0]at d0 uU kL oC uV;rw[e1]at d1 uU kL oC uV;rw[e2]at d2 uU kL oC uV;rw[e3]at d3 uU kL oC uV;clear e0 e1 e2 e3 h0 h1 h2 h3 hk;generalize x.m=m at*
     go_wp2_with fail
     refine(bH uU).mono ?_;rintro e _ ⟨rfl,rfl⟩
     go_wp2_with fail
     refine(bH kL).mono ?_;rintro e _ ⟨rfl,rfl⟩
     go_wp2_with fail
     refine(bH oC).mono ?_;rintro e _ ⟨rfl,rfl⟩
     go_wp2_with fail
     refine(bH uV).mono ?_;rintro e _ ⟨rfl,rfl⟩
     go_wp2_with fail
     exact⟨⟨k+1,af,by go_num,hx.alloc _⟩,by simp[intOf];omega⟩
    ·go_wp2_with fail
     clear q hkl;go_loopw [7] (fun i wr=>∃k:Nat,k≤la.length∧i=.int .i64 k∧Ext w wr) (fun i _=>la.length-(intOf i).toNat)
     case atStart=>exact⟨0,aM _,rfl,hx⟩
     case round=>
      clear hx;obtain⟨k,hk,rfl,hx⟩:=hrel;have q:=(hb.kept hx id).cell 2;simp only[au]at q;by_cases hkl:k<la.length
      ·have hK:=h.ext hx;obtain⟨g,cap,he,-,-,-⟩:=hK.oa.at af;cases he;have hcell:=Own.elem (f:=oL) (fun _=>rfl) hK.oa k hkl;have hk:=hK.ka la[k] (aJ hkl);generalize la[k]=x at*;have d0:=hcell 0 af;have d1:=hcell 1 af;have d2:=hcell 2 af;have d3:=hcell 3 af;have d4:=hcell 4 af;simp only[oL,au,Nat.add_zero]at d0 d1 d2 d3 d4;clear hcell hK;have h0:=hk.hl.go (C':=C) ((Kp.refl (fun _=>False) wr).alloc (.cells #[x.l,x.a,x.b,x.c,.int .i64 x.m] 97)) (fun _ _ f=>f) (fun _ _ e=>e);have h1:=hk.ha.go (C':=C) ((Kp.refl (fun _=>False) wr).alloc (.cells #[x.l,x.a,x.b,x.c,.int .i64 x.m] 97)) (fun _ _ f=>f) (fun _ _ e=>e);have h2:=hk.hb.go (C':=C) ((Kp.refl (fun _=>False) wr).alloc (.cells #[x.l,x.a,x.b,x.c,.int .i64 x.m] 97)) (fun _ _ f=>f) (fun _ _ e=>e);have h3:=hk.hc.go (C':=C) ((Kp.refl (fun _=>False) wr).alloc (.cells #[x.l,x.a,x.b,x.c,.int .i64 x.m] 97)) (fun _ _ f=>f) (fun _ _ e=>e);obtain⟨l0,n0,c0,e0⟩:∃l n c,x.l=.slice l n c:=(by obtain⟨_,l,c,e,_⟩:=h0;exact⟨_,_,_,e⟩)
       obtain⟨l1,n1,c1,e1⟩:∃l n c,x.a=.slice l n c:=(by obtain⟨_,l,c,e,_⟩:=h1;exact⟨_,_,_,e⟩)
       obtain⟨l2,n2,c2,e2⟩:∃l n c,x.b=.slice l n c:=(by obtain⟨_,l,c,e,_⟩:=h2;exact⟨_,_,_,e⟩)
       obtain⟨l3,n3,c3,e3⟩:∃l n c,x.c=.slice l n c:=(by obtain⟨_,l,c,e,_⟩:=h3;exact⟨_,_,_,e⟩)
       have uU:=hide (sK _ C false _ _ _ h0 (by have:=hk.nl;omega));have kL:=hide (sK _ C false _ _ _ h1 (by have:=hk.nl;omega));have oC:=hide (sK _ C false _ _ _ h2 (by have:=hk.nl;omega));have uV:=hide (sK _ C false _ _ _ h3 (by have:=hk.nl;omega));rw[e0]at d0 uU kL oC uV;rw[e1]at d1 uU kL oC uV;rw[e2]at d2 uU kL oC uV;rw[e3]at d3 uU kL oC uV;clear e0 e1 e2 e3 h0 h1 h2 h3 hk;generalize x.m=m at*
       go_wp2_with fail
       refine(bH uU).mono ?_;rintro e _ ⟨rfl,rfl⟩
       go_wp2_with fail
       refine(bH kL).mono ?_;rintro e _ ⟨rfl,rfl⟩
       go_wp2_with fail
       refine(bH oC).mono ?_;rintro e _ ⟨rfl,rfl⟩
       go_wp2_with fail
       refine(bH uV).mono ?_;rintro e _ ⟨rfl,rfl⟩
       go_wp2_with fail
       exact⟨⟨k+1,af,by go_num,hx.alloc _⟩,by simp[intOf];omega⟩
      ·go_wp2_with fail
       clear q hkl;go_ret;exact⟨rfl,hx⟩
def jm (m:Int)(n:Nat):List Value:=List.replicate n (.int .i64 m)
theorem wX (m:Int)(n:Nat):(jm m n).length=n:=by simp[jm]
theorem wY (m:Int)(a b:Nat):jm m (a+b)=jm m a++jm m b:=by unfold jm;rw[List.replicate_append_replicate]
theorem bM.aaJ {C:Nat→Prop}{w:World}{v v':Value}{m:Int}{n n':Nat}(h:bM C false w 1 v' n' (jm m n'))(hl:n≤n')(hb:∃g cap cap',v=.slice (some ⟨g,0,none⟩) n cap∧n≤cap∧v'=.slice (some ⟨g,0,none⟩) n' cap'):bM C false w 1 v n (jm m n):=by
 obtain⟨g,cap,cap',rfl,hn,rfl⟩:=hb;obtain⟨_,ao,c2,e,h1,h3⟩:=h;cases e;refine⟨by rw[wX];omega,_,cap,rfl,hn,fun hp=>?_⟩;obtain⟨b,off,e,hC,hlt,hc,_⟩:=h3 af;cases e;refine⟨g,0,rfl,hC,hlt,fun j hj=>?_,fun h=>by cases h⟩;rw[hc j af,show n'=n+(n'-n)from af,wY,aS (by rw[wX];omega)]
def zKI :Value:=.agg #[.slice none 0 0,.slice none 0 0,.slice none 0 0,.slice none 0 0,.int .i64 0]
theorem aea :(Tryz.prog.info? 91).map (fun i=>(i.zero,i.size,i.bytes))=some (some zKI,5,104):=by kernel_rfl
theorem Own.afl {w:World}{n g cap:Nat}{cs:List Value}{m:Int}(k:Nat)(h:Own w 1 (.slice (some ⟨g,0,none⟩) n cap) n (jm m k++cs.drop k))(hk:k<n)(hcs:cs.length=n):Own (w.setCell ⟨g,k,none⟩ (.int .i64 m)) 1 (.slice (some ⟨g,0,none⟩) n cap) n (jm m (k+1)++cs.drop (k+1)):=by
 have h1:=h.setCell k af (.int .i64 m);have e:(jm m k++cs.drop k).set k (.int .i64 m)=jm m (k+1)++cs.drop (k+1):=by
  rw[List.set_append_right _ _ (by rw[wX];omega),wX,Nat.sub_self,aV af,List.set_cons_zero,wY];simp[jm]
 rw[e]at h1;exact h1
def qW (C:Nat→Prop)(w:World)(v:Value)(n:Nat)(m:Int):Prop:=bM C false w 1 v n (jm m n)∧∃g cap,v=.slice (some ⟨g,0,none⟩) n cap∧n≤cap
theorem qW.of {C:Nat→Prop}{w:World}{v:Value}{n:Nat}{m:Int}(h:Own w 1 v n (jm m n))(hp:0<n)(hC:∀g,v.ownBlock=some g→C g):qW C w v n m:=by
 obtain⟨g,cap,e,h1,_⟩:=h.at hp;exact⟨(h.rowAt C hC).weak,g,cap,e,h1⟩
theorem qW.kp {C:Nat→Prop}{S:Nat→Prop}{w w':World}{v:Value}{n:Nat}{m:Int}(h:qW C w v n m)(k:Kp S w w')(hS:∀i,C i→¬S i):qW C w' v n m:=⟨h.1.go k hS (fun _ _ e=>e),h.2⟩
theorem qW.step {C:Nat→Prop}{w w':World}{v l v':Value}{p q:Nat}{m:Int}(h:qW C w v p m)(hpq:p≤q)(_hp:0<p)(k:Kp (Of l) w w')(h':qW C w' v' q m)(s:ad5 w w' l v'):qW C w' v p m:=by
 obtain⟨hr,g,cap,rfl,hc⟩:=h;obtain⟨hr',g',cap',rfl,hc'⟩:=h';refine⟨?_,g,cap,rfl,hc⟩;rcases s with e|⟨g2,e,e2,x⟩
 ·by_cases hl:l.ownBlock=some g
  ·have eg:g'=g:=by
    rw[hl]at e;simpa[Value.ownBlock]using e
   subst eg;exact hr'.aaJ hpq ⟨_,cap,cap',rfl,hc,rfl⟩
  ·obtain⟨h0,ao,c0,e0,h1,h3⟩:=hr;cases e0;refine⟨h0,_,_,rfl,h1,fun hn=>?_⟩;obtain⟨b,off,e1,hC,hlt,hcell,_⟩:=h3 hn;cases e1;have eb:=k.block g hlt (fun e=>hl e);exact⟨g,0,rfl,hC,aY hlt k.size,fun j hj=>by rw[World.cell?_of_block (w:=w) (a:=⟨g,0+j,none⟩) eb];exact hcell j hj,fun h=>by cases h⟩
 ·exact hr.go x (fun _ _ f=>f) (fun _ _ e=>e)
theorem E9 (w:World)(b k:Nat)(hbk:b=w.heap.size)(m:Int)(arr:Array Value)(ha:arr=(jm m k).toArray):Src Tryz.prog 1 46 (.slice (some ⟨b,0,none⟩) k k) k (jm m k) (w.alloc (.cells arr 3)):=by
 subst ha;subst hbk;exact Src.ofSlice (P:=Tryz.prog) _ (e':=3) Tryz.underlying46 _ _ _ _ (by rw[wX];omega) (fun j u hu=>by
  rw[Addr.add_lit,Nat.zero_add,World.cell?_alloc_new];simpa using hu) (fun u hu=>by
  rw[List.eq_of_mem_replicate hu];rfl)
structure ZE (w X:World)(Wb:Nat)(tv iv av rv lv:Value)(na n:Nat)(oD:List Value)(m:Int)(xa xb xc:Value):Prop where
 b2:bK X w.heap.size [lv,xa,xb,xc,.int .i64 m] 91
 bw:bK X Wb [tv,av,iv,rv] 32
 oa:Own X 5 av na oD
 ol:Own X 1 lv n (jm m n)
 kp:Kp (Of lv) w X
theorem ZE.app {w X u u1:World}{Wb:Nat}{tv iv av rv lv:Value}{na n:Nat}{oD:List Value}{m:Int}{xa xb xc D5 GL D6:Value}(h:ZE w X Wb tv iv av rv lv na n oD m xa xb xc)(hlt:∀g,lv.ownBlock=some g→g<w.heap.size)(halt:∀g,av.ownBlock=some g→g<w.heap.size)(hWb:Wb<w.heap.size)(d2:lv.ownBlock≠some Wb)(d3:∀g,av.ownBlock=some g→lv.ownBlock≠some g)
 (xu:Ext X u)(k1:Kp (Of lv) u u1)(o1:Own u1 1 lv n (jm m n))(j:Nat)(v:Value)(e:[lv,xa,xb,xc,.int .i64 m].set j v=[lv,D5,GL,D6,.int .i64 m]):
 ZE w (u1.setCell ⟨w.heap.size,j,none⟩ v) Wb tv iv av rv lv na n oD m D5 GL D6:=by
 have k:=bI u1 (w.heap.size) j v;have kk:Kp (Of lv) X u1:=(Kp.cZ xu).trans k1;refine⟨?_,(h.bw.kept kk (fun e=>d2 e)).kept k af,(h.oa.kept kk (fun g hg e=>d3 g hg e)).kept k (fun g hg e=>by have:=halt g hg;omega),o1.kept k (fun g hg e=>by have:=hlt g hg;omega),(h.kp.trans kk).then k (fun i hi e=>af)⟩;have:=(h.b2.kept kk (fun e=>by have:=hlt _ e;omega)).set j v;rwa[e]at this
theorem NK (w:World)(Wb:Nat)(tv iv av rv lv:Value)(na n:Nat)(oD cs:List Value)(hb:bK w Wb [tv,av,iv,rv] 32)(ha:Own w 5 av na oD)(hl:Own w 1 lv n cs)(d1:av.ownBlock≠some Wb)(d2:lv.ownBlock≠some Wb)(d3:∀g,av.ownBlock=some g→lv.ownBlock≠some g)(hna:na≤1000000000)(hn:n≤1000):
 Calls Tryz.prog 70 #[PtrTo Wb 0,lv] w fun e w'=>e=.returned (.tuple #[])∧∃eZ x,bK w' Wb [tv,eZ,iv,rv] 32∧Own w' 5 eZ (na+1) (oD++tX x)∧
  NJ (fun g=>(lv.ownBlock=some g∨w.heap.size≤g)∧eZ.ownBlock≠some g) w' x∧Kp (fun k=>k=Wb∨Of av k∨Of lv k) w w'∧(∀g,eZ.ownBlock=some g→av.ownBlock=some g∨w.heap.size≤g):=by
 have q2:=hb.cell 1;simp only[au]at q2;obtain⟨aa,ac,rfl,hac⟩:=ha.shape;obtain⟨la,lc,rfl,hlc⟩:=hl.shape;have hcs:=hl.1;have mE:∀g,(Value.slice la n lc).ownBlock=some g→g<w.heap.size:=fun g hg=>hl.lt hg
 have halt:∀g,(Value.slice aa na ac).ownBlock=some g→g<w.heap.size:=fun g hg=>ha.lt hg
 have hblt:=hb.lt;have hmb:-2000000000≤-1000-(na:Int)∧-1000-(na:Int)<0:=af;go_enter Tryz.func70,Tryz.ntmps70
 go_wp2_with fail
 generalize -1000-(na:Int)=m at*;have hcs':cs.length=n:=af;clear q2;go_loopw [5] (fun i wr=>∃k:Nat,k≤n∧i=.int .i64 k∧Own wr 1 (.slice la n lc) n (jm m k++cs.drop k)∧Kp (Of (.slice la n lc)) w wr∧wr.heap.size=w.heap.size) (fun i _=>n-(intOf i).toNat)
 case atStart=>exact⟨0,aM _,rfl,by simpa[jm]using hl,Kp.refl _ _,rfl⟩
 case round=>
  obtain⟨k,hk,rfl,ho,hK,hz⟩:=hrel;by_cases hkl:k<n
  ·obtain⟨g,cap,he,-,oh,-⟩:=ho.at af;cases he;have hwr:(wr.cell? ⟨g,k,none⟩).isSome=true∧wr.frozen? ⟨g,k,none⟩=false:=by
    rcases ho.2 with⟨e,_⟩|⟨g',cap',e,_,_,_,_,h5⟩
    ·cases e
    ·cases e;exact h5 _ af
   obtain⟨e0,f0⟩:=hwr;obtain⟨v0,e0⟩:=Option.isSome_iff_exists.1 e0;have HM:=hide (Own.afl k ho hkl hcs');have k0:(0:Int)≤(k:Int):=af;have k1:(k:Int)<(n:Int):=af
   go_wp2_with fail
   refine⟨⟨k+1,af,by go_num,bH HM,?_,?_⟩,by simp[intOf];omega⟩
   ·exact hK.setCell (p:=⟨g,k,none⟩) (.inl rfl) _
   ·rw[size_set];exact hz
  ·obtain rfl:k=n:=af;have ho2:Own wr 1 (.slice la k lc) k (jm m k):=by
    have:cs.drop k=[]:=List.drop_eq_nil_of_le af;rw[this,List.append_nil]at ho;exact ho
   have ha2:=ha.kept hK (fun g hg e=>d3 g hg e);have hb2:=hb.kept hK (fun e=>d2 e);have kw:Kp (Of (.slice la k lc)) w wr:=hK;have hlt2:w.heap.size=wr.heap.size:=af;have Vm:=hide hlt2;clear ho ha hb hl hK hlc hlt2 hz
   go_upto_region 6 with fail
   have hlt2:=bH Vm;have hS0:ZE w (wr.alloc (.cells #[.slice la k lc,.slice none 0 0,.slice none 0 0,.slice none 0 0,.int .i64 m] 91)) Wb tv iv (.slice aa na ac) rv (.slice la k lc) na k oD m (.slice none 0 0) (.slice none 0 0) (.slice none 0 0):=by
    have xx:Ext wr (wr.alloc (.cells #[.slice la k lc,.slice none 0 0,.slice none 0 0,.slice none 0 0,.int .i64 m] 91)):=ax.alloc _;refine⟨?_,hb2.kept xx id,ha2.ext xx,ho2.ext xx,kw.trans (Kp.cZ xx)⟩;rw[hlt2];exact bK.bO wr [.slice la k lc,.slice none 0 0,.slice none 0 0,.slice none 0 0,.int .i64 m] _
   rw[←hlt2];have zX:(wr.alloc (.cells #[.slice la k lc,.slice none 0 0,.slice none 0 0,.slice none 0 0,.int .i64 m] 91)).heap.size=w.heap.size+1:=by simp;omega
   clear hb2 ha2 ho2 kw hlt2 Vm;have ZX:=hide zX;clear zX;generalize wr.alloc _=X0 at*;have Nu:Hid (w.heap.size+1≤X0.heap.size):=by show _≤_;rw[ZX.out];omega
   clear ZX;obtain⟨C,hC⟩:∃C:Nat→Prop,C=fun g=>(Value.slice la k lc).ownBlock=some g∨w.heap.size+1≤g:=⟨_,rfl⟩
   have kL:Hid (∀g,(Value.slice la k lc).ownBlock=some g∨w.heap.size+1≤g→C g):=fun g hg=>by rw[hC];exact hg
   have oC:Hid (∀g,C g→(Value.slice la k lc).ownBlock=some g∨w.heap.size+1≤g):=fun g hg=>by rw[hC]at hg;exact hg
   have zF:Hid (∀g,C g→¬g=w.heap.size):=fun g hg=>by
    rw[hC]at hg;rcases hg with e|e
    ·have:=mE g e;omega
    ·omega
   clear hC;have yD:Hid (#[Value.int .i64 m]=(jm m 1).toArray):=rfl
   go_upto_region 7 with(at_builtin;go_must (refine lD _ rfl _ _ 46 46 rfl 3 (.int .i64 0) 1 8 Tryz.underlying46 nZ rfl (.slice la k lc) k (jm m k) rfl (hS0.ol.dV _) _ rfl 1 _ (E9 _ _ 1 rfl m _ (bH yD)) af af ?_);intro va ua Nv Cr Vn Vo;have r0:=(hS0.b2.kept ((Kp.cZ (ax.alloc _)).trans Cr) (fun e=>by have:=mE _ e;omega)).cell 1;have r1:=(hS0.b2.kept ((Kp.cZ (ax.alloc _)).trans Cr) (fun e=>by have:=mE _ e;omega)).free 1;simp only[au]at r0;obtain⟨pO,ca,rfl,hca⟩:=Nv.shape)
   have hS1:=hS0.app mE halt hblt d2 d3 (ax.alloc _) Cr Vn 1 (.slice pO (k+1) ca) rfl;have Vp:=bI ua (w.heap.size) 1 (.slice pO (k+1) ca);have Nw:Hid (w.heap.size+1≤(ua.setCell ⟨w.heap.size,1,none⟩ (.slice pO (k+1) ca)).heap.size):=by
    show _≤_;have h1:=Cr.size;have h2:=Nu.out;rw[size_set];simp at h1;omega
   have Vq:Own ua 1 (.slice pO (k+1) ca) (k+1) (jm m (k+1)):=by rw[wY];exact Nv
   have Vr:qW C ua (.slice pO (k+1) ca) (k+1) m:=qW.of Vq af (fun g hg=>kL.out g (by
    rcases Vo with e|⟨g',e1,e2,_⟩
    ·exact .inl (by rw[←e];exact hg)
    ·rw[e1]at hg;simp only[Option.some.injEq]at hg;have:=Nu.out;simp at e2;exact .inr af))
   have Vs:=Vr.kp Vp zF.out;clear hS0 Nu Vq Vr Vp Nv Cr Vn Vo r0 r1 yD;generalize ua.setCell _ _=X1 at*;have Vt:Hid (#[Value.int .i64 m,.int .i64 m]=(jm m 2).toArray):=rfl
   go_upto_region 8 with(at_builtin;go_must (refine lD _ rfl _ _ 46 46 rfl 3 (.int .i64 0) 1 8 Tryz.underlying46 nZ rfl (.slice la k lc) k (jm m k) rfl (hS1.ol.dV _) _ rfl 2 _ (E9 _ _ 2 rfl m _ (bH Vt)) af af ?_);intro vb ub Ny zG Vu Nz;have r0:=(hS1.b2.kept ((Kp.cZ (ax.alloc _)).trans zG) (fun e=>by have:=mE _ e;omega)).cell 2;have r1:=(hS1.b2.kept ((Kp.cZ (ax.alloc _)).trans zG) (fun e=>by have:=mE _ e;omega)).free 2;simp only[au]at r0;obtain⟨ab,cb,rfl,hcb⟩:=Ny.shape)
   have hS2:=hS1.app mE halt hblt d2 d3 (ax.alloc _) zG Vu 2 (.slice ab (k+2) cb) rfl;have NA:=bI ub (w.heap.size) 2 (.slice ab (k+2) cb);have NC:Hid (w.heap.size+1≤(ub.setCell ⟨w.heap.size,2,none⟩ (.slice ab (k+2) cb)).heap.size):=by
    show _≤_;have h1:=zG.size;have h2:=Nw.out;rw[size_set];simp at h1;omega
   have Vv:Own ub 1 (.slice ab (k+2) cb) (k+2) (jm m (k+2)):=by rw[wY];exact Ny
   have ND:qW C ub (.slice ab (k+2) cb) (k+2) m:=qW.of Vv af (fun g hg=>kL.out g (by
    rcases Nz with e|⟨g',e1,e2,_⟩
    ·exact .inl (by rw[←e];exact hg)
    ·rw[e1]at hg;simp only[Option.some.injEq]at hg;have:=Nw.out;simp at e2;exact .inr af))
   have Vw:=(((Vs.kp (S:=fun _=>False) (ax.alloc _) (fun _ _ f=>f)).step af af zG ND Nz).kp NA zF.out)
   have Vx:=ND.kp NA zF.out;clear hS1 Nw Vv ND NA Ny zG Vu Nz r0 r1 Vt Vs;generalize ub.setCell _ _=X2 at*;have En:Hid (#[Value.int .i64 m,.int .i64 m,.int .i64 m]=(jm m 3).toArray):=rfl
   go_upto_region 9 with(at_builtin;go_must (refine lD _ rfl _ _ 46 46 rfl 3 (.int .i64 0) 1 8 Tryz.underlying46 nZ rfl (.slice la k lc) k (jm m k) rfl (hS2.ol.dV _) _ rfl 3 _ (E9 _ _ 3 rfl m _ (bH En)) af af ?_);intro vc uc NG wV Vy GN;have r0:=(hS2.b2.kept ((Kp.cZ (ax.alloc _)).trans wV) (fun e=>by have:=mE _ e;omega)).cell 3;have r1:=(hS2.b2.kept ((Kp.cZ (ax.alloc _)).trans wV) (fun e=>by have:=mE _ e;omega)).free 3;simp only[au]at r0;obtain⟨pQ,cc,rfl,hcc⟩:=NG.shape)
   have fP:=hS2.app mE halt hblt d2 d3 (ax.alloc _) wV Vy 3 (.slice pQ (k+3) cc) rfl;have GQ:=bI uc (w.heap.size) 3 (.slice pQ (k+3) cc);have ZZ3:Hid (w.heap.size+1≤(uc.setCell ⟨w.heap.size,3,none⟩ (.slice pQ (k+3) cc)).heap.size):=by
    show _≤_;have h1:=wV.size;have h2:=NC.out;rw[size_set];simp at h1;omega
   have Vz:Own uc 1 (.slice pQ (k+3) cc) (k+3) (jm m (k+3)):=by rw[wY];exact NG
   have GU:qW C uc (.slice pQ (k+3) cc) (k+3) m:=qW.of Vz af (fun g hg=>kL.out g (by
    rcases GN with e|⟨g',e1,e2,_⟩
    ·exact .inl (by rw[←e];exact hg)
    ·rw[e1]at hg;simp only[Option.some.injEq]at hg;have:=NC.out;simp at e2;exact .inr af))
   have Aa3:=(((Vw.kp (S:=fun _=>False) (ax.alloc _) (fun _ _ f=>f)).step af af wV GU GN).kp GQ zF.out)
   have Ab3:=(((Vx.kp (S:=fun _=>False) (ax.alloc _) (fun _ _ f=>f)).step af af wV GU GN).kp GQ zF.out)
   have Ac3:=GU.kp GQ zF.out;clear hS2 NC Vz GU GQ NG wV Vy GN r0 r1 En Vw Vx;generalize uc.setCell _ _=X3 at*;have q2:=fP.bw.cell 1;have t0:=fP.b2.cell 0;have t1:=fP.b2.cell 1;have t2:=fP.b2.cell 2;have t3:=fP.b2.cell 3;have t4:=fP.b2.cell 4;have f2:=fP.bw.free 1;simp only[au]at q2 t0 t1 t2 t3 t4;have hWB:Wb≠w.heap.size:=af;have hS:∀u,Kp (fun g=>g≠Wb∧g≠w.heap.size) X3 u→u.cell? ⟨Wb,1,none⟩=some (.slice aa na ac)∧u.cell? ⟨w.heap.size,0,none⟩=some (.slice la k lc)∧u.cell? ⟨w.heap.size,1,none⟩=some (.slice pO (k+1) ca)∧u.cell? ⟨w.heap.size,2,none⟩=some (.slice ab (k+2) cb)∧u.cell? ⟨w.heap.size,3,none⟩=some (.slice pQ (k+3) cc)∧u.cell? ⟨w.heap.size,4,none⟩=some (.int .i64 m):=fun u hu=>
    ⟨hu.cell q2 aj,hu.cell t0 aj,hu.cell t1 aj,hu.cell t2 aj,hu.cell t3 aj,hu.cell t4 aj⟩
   have HS:=hide hS;have VA:Hid (∀u,Ext X3 u→Own u 5 (.slice aa na ac) na oD):=fun u hu=>fP.oa.ext hu
   have JO:Hid (∀g,(Value.slice aa na ac).ownBlock=some g→g≠Wb∧g≠w.heap.size):=fun g hg=>⟨fun e=>d1 (by rw[←e];exact hg),fun e=>by have:=halt g hg;omega⟩
   have NH:Hid (#[Value.slice la k lc,.slice pO (k+1) ca,.slice ab (k+2) cb,.slice pQ (k+3) cc,.int .i64 m]=(tX ⟨.slice la k lc,.slice pO (k+1) ca,.slice ab (k+2) cb,.slice pQ (k+3) cc,k,m⟩).toArray):=rfl;have NI:Hid (∀u∈tX ⟨.slice la k lc,.slice pO (k+1) ca,.slice ab (k+2) cb,.slice pQ (k+3) cc,k,m⟩,u.oneCell'=true):=by
    intro u hu;simp[tX]at hu;rcases hu with rfl|rfl|rfl|rfl|rfl<;>rfl
   have hK1:Kp (fun g=>g≠Wb∧g≠w.heap.size) X3 X3.drew:=ax.drew;clear hS
   go_wp2_with fail
   refine bZ (n:=10) (Kp (fun g=>g≠Wb∧g≠w.heap.size) X3) (by kernel_rfl) ?_;refine Late.h HS 0 [10] rfl hK1 ?_;refine Late.h HS 1 [10] rfl hK1 ?_;refine Late.h HS 2 [10] rfl hK1 ?_;refine Late.h HS 3 [10] rfl hK1 ?_;refine Late.h HS 4 [10] rfl hK1 ?_;refine Late.h HS 5 [10] rfl hK1 ?_;refine Late.o 6 rfl (fun K hK=>?_);go_simp;refine hK _ _ (fun _=>(ax.alloc _).drew) ?_;clear hK K;try simp only[lX]
   refine Late.o 7 rfl (fun K hK=>?_);refine d_ rfl _ _ 28 28 rfl 91 zKI 5 104 Tryz.underlying28 aea rfl (.slice aa na ac) na oD rfl ((bH VA) _ (ax.alloc _).drew) _ (by rfl) 1 _ (uK _ _ _ Tryz.underlying28 _ _ (bH NH) (bH NI)) af af ?_;intro eZ w1 o2 k2 s2;have k12:Kp (fun g=>g≠Wb∧g≠w.heap.size) X3 w1:=(ax.alloc _).drew.trans (k2.mono (fun k _ e=>(bH JO) k e));refine hK _ _ (fun _=>k12) ?_;clear hK K;obtain⟨a',c',rfl,hc'⟩:=o2.shape;try simp only[lX]
   have q2':w1.cell? ⟨Wb,1,none⟩=some (.slice aa na ac):=k12.cell q2 aj;have f2':w1.frozen? ⟨Wb,1,none⟩=false:=by rw[World.frozen?_of_block (w:=X3) (a:=⟨Wb,1,none⟩) (k12.block Wb fP.bw.lt aj)];exact f2
   refine Late.o 8 rfl (fun K hK=>?_);go_simp;refine hK _ _ (fun _=>k12) ?_;clear hK K;try simp only[lX]
   refine Late.o 9 rfl (fun K hK=>?_);go_simp;refine hK _ _ (fun _=>k12) ?_;clear hK K;try simp only[lX]
   refine Late.o 10 rfl (fun K hK=>?_);go_simp;refine hK _ _ (fun h=>absurd rfl h) ?_;clear hK K;try simp only[lX]
   refine Late.done (by kernel_rfl) ?_ _
   go_end0
   have kk:Kp (Of (.slice aa na ac)) X3 w1:=(ax.alloc _).drew.trans k2;have ks:=bI w1 Wb 1 (.slice a' (na+1) c');have hXs:=(bH ZZ3)
   have wW:∀g,(Value.slice a' (na+1) c').ownBlock=some g→(Value.slice aa na ac).ownBlock=some g∨X3.heap.size≤g:=fun g hg=>by
    rcases s2 with e|⟨g',e1,e2⟩
    ·exact .inl (by rw[←e];exact hg)
    ·rw[e1]at hg;simp only[Option.some.injEq]at hg;subst hg;exact .inr (by
      have e3:(X3.alloc (Obj.cells #[Value.slice la k lc,Value.slice pO (k+1) ca,Value.slice ab (k+2) cb,Value.slice pQ (k+3) cc,Value.int .i64 m] 91)).drew.heap.size=X3.heap.size+1:=by show(World.alloc _ _).heap.size=_;simp
      omega)
   have VB:∀g,C g→¬Of (.slice aa na ac) g:=fun g hg e=>by
    rcases oC.out g hg with e'|e'
    ·exact d3 g e e'
    ·have:=halt g e;omega
   have hCc:∀g,g<X3.heap.size→C g→((Value.slice la k lc).ownBlock=some g∨w.heap.size≤g)∧(Value.slice a' (na+1) c').ownBlock≠some g:=fun g hlt hg=>by
    refine⟨(oC.out g hg).imp id (fun h=>af),fun e=>?_⟩;rcases wW g e with e'|e'
    ·exact VB g hg e'
    ·omega
   have hCW:∀g,((Value.slice la k lc).ownBlock=some g∨w.heap.size≤g)∧(Value.slice a' (na+1) c').ownBlock≠some g→¬g=Wb:=fun g hg e=>by
    rcases hg.1 with e'|e'
    ·exact d2 (by rw[←e];exact e')
    ·omega
   have hrow:∀(v:Value)(q:Nat),bM C false X3 1 v q (jm m q)→bM (fun g=>((Value.slice la k lc).ownBlock=some g∨w.heap.size≤g)∧(Value.slice a' (na+1) c').ownBlock≠some g) false (w1.setCell ⟨Wb,1,none⟩ (.slice a' (na+1) c')) 1 v q (jm m q):=fun v q h=>
    (h.go kk VB hCc).go ks hCW (fun _ _ e=>e)
   refine⟨rfl,.slice a' (na+1) c',⟨.slice la k lc,.slice pO (k+1) ca,.slice ab (k+2) cb,.slice pQ (k+3) cc,k,m⟩,?_,?_,⟨by show k≤_;omega,hrow _ _ (fP.ol.rowAt C (fun g hg=>kL.out g (.inl hg))).weak,hrow _ _ Aa3.1,hrow _ _ Ab3.1,hrow _ _ Ac3.1⟩,?_,fun g hg=>(wW g hg).imp id (fun h=>af)⟩
   ·have:=(fP.bw.kept kk (fun e=>d1 e)).set 1 (.slice a' (na+1) c');simpa using this
   ·exact o2.kept ks (fun g hg e=>by
     rcases wW g hg with e'|e'
     ·exact d1 (by rw[←e];exact e')
     ·omega)
   ·refine((fP.kp.mono (S':=fun k_1=>k_1=Wb∨Of (.slice aa na ac) k_1∨Of (.slice la k lc) k_1) (fun i _ h=>.inr (.inr h))).then kk (fun i _ h=>.inr (.inl h))).then ks (fun i _ h=>.inl h)
inductive Ow where
 |no|arg|wb|tv|iv|av|rv|kept|x (i:Nat)|y (i:Nat)
 deriving DecidableEq
abbrev ig :=Nat→Ow
structure rO (O:ig)(w:World)(Wb:Nat)(tv iv av rv:Value)(li:List KI)(la:List KA)(lr:List KR):Prop where
 wb:bK w Wb [tv,iv,av,rv] 32
 rP:O Wb=.wb
 kept:KeptAt (fun b=>O b=.kept) w iv av rv li la lr
 oi:∀g,iv.ownBlock=some g→O g=.iv
 oa:∀g,av.ownBlock=some g→O g=.av
 oF:∀g,rv.ownBlock=some g→O g=.rv
 top:∀b,w.heap.size≤b→O b=.no
section
variable{O O':ig}{w w':World}{Wb:Nat}{tv iv av rv:Value}{li:List KI}{la:List KA}{lr:List KR}
theorem rO.other {S:Nat→Prop}(h:rO O w Wb tv iv av rv li la lr)(k:Kp S w w')(hS:∀b,S b→O b≠.wb∧O b≠.iv∧O b≠.av∧O b≠.rv∧O b≠.kept)(_ho:∀b,b<w.heap.size→O' b=O b∨(O b=.no∧O' b≠.wb∧O' b≠.iv))(ht:∀b,w'.heap.size≤b→O' b=.no)(hn:∀b c,O b=c→c≠.no→O' b=c):rO O' w' Wb tv iv av rv li la lr:=by
 have hk:=h.kept;refine⟨h.wb.kept k (fun e=>(hS Wb e).1 h.rP),hn _ _ h.rP aj,⟨hk.oi.kept k (fun g hg e=>(hS g e).2.1 (h.oi g hg)),hk.oa.kept k (fun g hg e=>(hS g e).2.2.1 (h.oa g hg)),hk.oF.kept k (fun g hg e=>(hS g e).2.2.2.1 (h.oF g hg)),fun x hx=>(hk.ki x hx).go k (fun b hb e=>(hS b e).2.2.2.2 hb) (fun b _ e=>hn b _ e aj),fun x hx=>(hk.ka x hx).go k (fun b hb e=>(hS b e).2.2.2.2 hb) (fun b _ e=>hn b _ e aj),fun x hx=>(hk.kr x hx).go k (fun b hb e=>(hS b e).2.2.2.2 hb) (fun b _ e=>hn b _ e aj),hk.bi,hk.ba,hk.br⟩,fun g hg=>hn _ _ (h.oi g hg) aj,fun g hg=>hn _ _ (h.oa g hg) aj,fun g hg=>hn _ _ (h.oF g hg) aj,ht⟩
theorem rO.ext (h:rO O w Wb tv iv av rv li la lr)(k:Ext w w'):rO O w' Wb tv iv av rv li la lr:=
 h.other k (fun _ f=>f.elim) (fun _ _=>.inl rfl) (fun b hb=>h.top b (aO k.size hb)) (fun _ _ e _=>e)
def sS (O:ig)(w w':World)(lv nv:Value)(c:Ow):ig:=fun b=>if b<w.heap.size then(if lv.ownBlock=some b then .kept else O b)else if nv.ownBlock=some b then c else if b<w'.heap.size then .kept else .no
theorem vT {lv nv:Value}{c:Ow}{b:Nat}(hb:b<w.heap.size)(hl:lv.ownBlock≠some b):sS O w w' lv nv c b=O b:=by unfold sS;rw[if_pos hb,if_neg hl]
theorem NN {lv nv:Value}{c:Ow}{b:Nat}(hb:b<w.heap.size)(hl:lv.ownBlock=some b):sS O w w' lv nv c b=.kept:=by unfold sS;rw[if_pos hb,if_pos hl]
theorem Iz {lv nv:Value}{c:Ow}{b:Nat}(hb:¬b<w.heap.size)(hl:nv.ownBlock=some b):sS O w w' lv nv c b=c:=by unfold sS;rw[if_neg hb,if_pos hl]
theorem IA {lv nv:Value}{c:Ow}{b:Nat}(hb:¬b<w.heap.size)(hl:nv.ownBlock≠some b)(hb':b<w'.heap.size):sS O w w' lv nv c b=.kept:=by unfold sS;rw[if_neg hb,if_neg hl,if_pos hb']
theorem IB {lv nv:Value}{c:Ow}{b:Nat}(hb:¬b<w'.heap.size)(hz:w.heap.size≤w'.heap.size)(hl:nv.ownBlock≠some b):sS O w w' lv nv c b=.no:=by unfold sS;rw[if_neg af,if_neg hl,if_neg hb]
theorem rO.ints (h:rO O w Wb tv iv av rv li la lr){lv:Value}{n:Nat}{cs:List Value}(hl:Own w 1 lv n cs)(hlo:∀g,lv.ownBlock=some g→O g=.no)(hb:li.length≤900000000)(hn:n≤1000):
 Calls Tryz.prog 70 #[PtrTo Wb 0,lv] w fun e w'=>e=.returned (.tuple #[])∧∃O' sU x,rO O' w' Wb tv sU av rv (li++[x]) la lr∧Kp (fun b=>O b=.wb∨O b=.iv∨lv.ownBlock=some b) w w'∧(∀b,b<w.heap.size→lv.ownBlock≠some b→O' b=O b):=by
 have hk:=h.kept;have hlW:lv.ownBlock≠some Wb:=fun e=>by have:=hlo Wb e;rw[h.rP]at this;cases this
 have hiW:iv.ownBlock≠some Wb:=fun e=>by have:=h.oi Wb e;rw[h.rP]at this;cases this
 refine(NK w Wb tv av iv rv lv li.length n _ cs h.wb hk.oi hl hiW hlW (fun g hg e=>by have:=hlo g e;rw[h.oi g hg]at this;cases this) af hn).mono ?_;rintro e w' ⟨rfl,sU,x,r1,r2,r3,r4,r5⟩;have hz:=r4.size;have hno:∀c,c≠.wb→c≠.iv→c≠.no→∀b,O b=c→¬(b=Wb∨Of iv b∨Of lv b):=fun c h1 h2 h3 b hb e=>by
  rcases e with e|e|e
  ·rw[e,h.rP]at hb;exact h1 hb.symm
  ·rw[h.oi b e]at hb;exact h2 hb.symm
  ·rw[hlo b e]at hb;exact h3 hb.symm
 have hold:∀b c,O b=c→c≠.no→sS O w w' lv sU .iv b=c:=fun b c hb hc=>by
  have hlt:b<w.heap.size:=Classical.byContradiction fun e=>hc (by rw[←hb];exact h.top b af)
  rw[vT hlt (fun e=>hc (by rw[←hb];exact hlo b e))];exact hb
 refine⟨rfl,sS O w w' lv sU .iv,sU,x,⟨r1,hold _ _ h.rP aj,⟨by rw[aD,List.flatMap_append];simpa using r2,hk.oa.kept r4 (fun g hg=>hno _ aj aj aj g (h.oa g hg)),hk.oF.kept r4 (fun g hg=>hno _ aj aj aj g (h.oF g hg)),fun y hy=>?_,fun y hy=>(hk.ka y hy).go r4 (fun b hb=>hno _ aj aj aj b hb) (fun b _ e=>hold b _ e aj),fun y hy=>(hk.kr y hy).go r4 (fun b hb=>hno _ aj aj aj b hb) (fun b _ e=>hold b _ e aj),by simp;omega,hk.ba,hk.br⟩,fun g hg=>?_,fun g hg=>hold _ _ (h.oa g hg) aj,fun g hg=>hold _ _ (h.oF g hg) aj,fun b hb=>?_⟩,r4.mono (fun b _ e=>?_),fun b hb hne=>vT hb hne⟩
 ·rcases aI.1 hy with hy|hy
  ·exact(hk.ki y hy).go r4 (fun b hb=>hno _ aj aj aj b hb) (fun b _ e=>hold b _ e aj)
  ·obtain rfl:=aZ.1 hy;refine r3.go (Kp.refl (fun _=>False) _) (fun _ _ f=>f) (fun b hlt hb=>?_);by_cases hbw:b<w.heap.size
   ·rcases hb.1 with e|e
    ·exact NN hbw e
    ·omega
   ·exact IA hbw hb.2 hlt
 ·rcases r5 g hg with e|e
  ·exact hold _ _ (h.oi g e) aj
  ·exact Iz af hg
 ·exact IB af hz (fun e=>by have:=r2.lt e;omega)
 ·rcases e with e|e|e
  ·exact .inl (by rw[e];exact h.rP)
  ·exact .inr (.inl (h.oi b e))
  ·exact .inr (.inr e)
end
theorem VF (l:List (Nat×Pl.Part)):l.flatMap lK=(l.map Pl.xL).flatMap jI:=by
 induction l with
 |nil=>rfl
 |cons q r ih=>
  simp only[List.flatMap_cons,List.map_cons,ih];rfl
theorem ZF (l:List (Nat×Nat×Nat))(i j:Nat)(hi:i<l.length)(hj:j<3):(l.flatMap jI)[i*3+j]?=(jI l[i])[j]?:=iq 3 jI (fun _=>rfl) l i j hi hj
abbrev tY (kind W A B:Int)(s:ByteArray):Value:=.agg #[.int .i64 kind,.int .i64 W,.int .i64 A,.int .i64 B,.string s]
structure On (w:World)(Wb:Nat)(tv iv av rv:Value)(nt i:Nat)(X Y:Nat)(file:ByteArray)(Wn:Int):Prop where
 hb:bK w Wb [tv,iv,av,rv] 32
 hi:i<nt
 row:∃g cap,tv=.slice (some ⟨g,0,none⟩) nt cap∧nt≤cap∧g<w.heap.size∧w.cell? ⟨g,i*3,none⟩=some (PtrTo X 0)∧w.cell? ⟨g,i*3+1,none⟩=some (PtrTo Y 0)∧w.cell? ⟨g,i*3+2,none⟩=some (.string file)
 pick:∀u,Calls Tryz.prog 33 #[.int .i64 Wn,.int .i64 nt] u fun e u'=>e=.returned (.int .i64 i)∧u'=u
theorem Kp.then' {S S':Nat→Prop}{w w1 w2:World}(h:Ext w w1)(k:Kp S' w1 w2)(hs:∀i,i<w.heap.size→S' i→S i):Kp S w w2:=(Kp.cZ (S:=S) h).then k hs
theorem NR (w:World)(Wb:Nat)(tv iv av rv:Value)(nt i X Y P na:Nat)(file sv:ByteArray)(Wn A B:Int)(oD:List Value)(col dH:bU)(m:Pl.Sc)(r:Pl.cO)(ho:On w Wb tv iv av rv nt i X Y file Wn)(_hnt:nt≤1000)(ha:Own w 5 av na oD)(d1:av.ownBlock≠some Wb)(hna:na≤1000000000)
 (hx:mq col w X m P)(hy:I5 dH w Y r)(heq:m.asked.map Pl.xL=Pl.jg r)(hal:m.asked.length≤1000)(hm:r.made≤100000000000000)(hpl:r.pieces.length≤1000)(hlen:∀p∈r.pieces,p.length≤1000000∧p.got.length≤p.length∧p.place≤1000000):
 Calls Tryz.prog 13 #[PtrTo Wb 0,tY 1 Wn A B sv] w fun e w'=>e=.returned (.bool true)∧∃eZ x,bK w' Wb [tv,iv,eZ,rv] 32∧Own w' 5 eZ (na+1) (oD++oL x)∧E5 (fun g=>w.heap.size≤g∧eZ.ownBlock≠some g) w' x∧Kp (fun k=>k=Wb∨Of av k) w w'∧(∀g,eZ.ownBlock=some g→av.ownBlock=some g∨w.heap.size≤g):=by
 obtain⟨hb,hi,⟨g,cap,rfl,hnc,hg,t0,t1,t2⟩,hpick⟩:=ho;have q0:=hb.cell 0;simp only[aA]at q0;have hblt:=hb.lt;have i0:(0:Int)≤(i:Int):=af;have i1:(i:Int)<(nt:Int):=af;have jJ:=hide hpick;have HXA:Hid (∀u,Ext w u→Calls Tryz.prog 23 #[PtrTo X 0] u fun e w'=>∃v,e=.returned v∧Own w' 3 v m.asked.length (m.asked.flatMap lK)∧Ext u w'∧∀g,v.ownBlock=some g→u.heap.size≤g):=fun u hu=>Fw col u X P m (hx.kept hu (fun _ f=>f.elim)) hal
 have HYA:Hid (∀u,Ext w u→Calls Tryz.prog 34 #[PtrTo Y 0] u fun e w'=>∃v,e=.returned v∧Own w' 3 v (Pl.jg r).length ((Pl.jg r).flatMap jI)∧Ext u w'∧∀g,v.ownBlock=some g→u.heap.size≤g):=fun u hu=>Fx dH u Y r (hy.kept hu (fun _ f=>f.elim)) hm hpl hlen
 rw[VF,heq]at HXA;have hLl:m.asked.length=(Pl.jg r).length:=by rw[←heq,aQ]
 rw[hLl]at HXA hal;clear hx hy heq hLl hm hpl hlen hpick;generalize Pl.jg r=L at*;have n0:=World.new_ne w _ q0;have n1:=World.new_ne w _ t0;go_enter Tryz.func13,Tryz.ntmps13
 go_wp2_with fail
 go_region_held3 (fun u=>u.cell? ⟨Wb,0,none⟩=some (.slice (some ⟨g,0,none⟩) nt cap)∧u.cell? ⟨w.heap.size,1,none⟩=some (.int .i64 Wn)∧u.cell? ⟨g,i*3,none⟩=some (PtrTo X 0)∧u.cell? ⟨g,i*3+1,none⟩=some (PtrTo Y 0)∧u.cell? ⟨g,i*3+2,none⟩=some (.string file)) (go_keep) (first|(go_at_call 33;refine((bH jJ) _).mono ?_;rintro e w' ⟨rfl,rfl⟩)|fail)
 all_goals
  have qB:Ext w ((w.alloc (.cells #[.int .i64 1,.int .i64 Wn,.int .i64 A,.int .i64 B,.string sv] 36)).alloc (.cells #[PtrTo X 0,PtrTo Y 0,.string file] 85)).drew:=((ax.alloc _).alloc _).drew;have hB1:bK ((w.alloc (.cells #[.int .i64 1,.int .i64 Wn,.int .i64 A,.int .i64 B,.string sv] 36)).alloc (.cells #[PtrTo X 0,PtrTo Y 0,.string file] 85)).drew w.heap.size [.int .i64 1,.int .i64 Wn,.int .i64 A,.int .i64 B,.string sv] 36:=(bK.bO w [.int .i64 1,.int .i64 Wn,.int .i64 A,.int .i64 B,.string sv] 36).kept (((Kp.refl (fun _=>False) _).alloc _).drew) id;have hB2:bK ((w.alloc (.cells #[.int .i64 1,.int .i64 Wn,.int .i64 A,.int .i64 B,.string sv] 36)).alloc (.cells #[PtrTo X 0,PtrTo Y 0,.string file] 85)).drew (w.heap.size+1) [PtrTo X 0,PtrTo Y 0,.string file] 85:=by
   have:=bK.bO (w.alloc (.cells #[.int .i64 1,.int .i64 Wn,.int .i64 A,.int .i64 B,.string sv] 36)) [PtrTo X 0,PtrTo Y 0,.string file] 85;rw[show(w.alloc (.cells #[.int .i64 1,.int .i64 Wn,.int .i64 A,.int .i64 B,.string sv] 36)).heap.size=w.heap.size+1 from aj]at this;exact this
  have zz:w.heap.size+2≤(((w.alloc (.cells #[.int .i64 1,.int .i64 Wn,.int .i64 A,.int .i64 B,.string sv] 36)).alloc (.cells #[PtrTo X 0,PtrTo Y 0,.string file] 85)).drew).heap.size:=by show _≤(World.alloc _ _).heap.size;simp
  generalize((w.alloc _).alloc _).drew=W2 at*;have a0:=hB1.cell 0;have c0:=hB2.cell 0;have c1:=hB2.cell 1;simp only[au]at a0 c0 c1;clear n0 n1 q0 t0 t1 t2;have ha2:=ha.ext qB;have hb2:=hb.kept qB id
  go_wp2_with fail
  refine((bH HXA) W2 qB).mono ?_;rintro e w3 ⟨lv,rfl,o3,x3,n3⟩;have c1':=x3.cell c1 id;obtain⟨la,lc,rfl,hlc⟩:=o3.shape
  go_wp2_with fail
  refine((bH HYA) w3 (qB.trans x3)).mono ?_;rintro e w4 ⟨mv,rfl,o4,x4,n4⟩;obtain⟨ma,mc,rfl,hmc⟩:=o4.shape;have o34:=o3.ext x4;have hbe:((L.length:Int)==(L.length:Int))=true:=aj
  go_wp2_with fail
  go_loopw [8,9] (fun t i wr=>∃k:Nat,k≤L.length∧i=.int .i64 k∧t=.bool true∧Ext w4 wr) (fun _ i _=>L.length-(intOf i).toNat)
  case atStart=>exact⟨0,aM _,rfl,rfl,Kp.refl _ _⟩
  case round=>
   obtain⟨k,hk,rfl,rfl,hx5⟩:=hrel;have ol:=o34.ext hx5;have om:=o4.ext hx5;by_cases hkl:k<L.length
   ·obtain⟨gl,cl,hel,-,-,hcl⟩:=ol.at af;obtain⟨gm,cm,hem,-,-,hcm⟩:=om.at af;cases hel;cases hem;have e0:=hcl (k*3+0) af;have e1:=hcl (k*3+1) af;have e2:=hcl (k*3+2) af;have f0:=hcm (k*3+0) af;have f1:=hcm (k*3+1) af;have f2:=hcm (k*3+2) af;rw[ZF L k _ hkl af]at e0 e1 e2 f0 f1 f2;generalize L[k]=tr at*;simp only[jI,I,au,Nat.add_zero]at e0 e1 e2 f0 f1 f2;clear hcl hcm ol om;have k0:(0:Int)≤(k:Int):=af;have k1:(k:Int)<(L.length:Int):=af
    go_wp2_with fail
    go_quiet (fail)
    go_wp2_with fail
    exact⟨⟨k+1,af,by go_num,aj,hx5.drewN _⟩,by simp[intOf];omega⟩
   ·have hx25:Ext W2 wr:=(x3.trans x4).trans hx5;have hb5:=hb2.kept hx25 id;have ha5:=ha2.ext hx25;have hK:=Nt wr Wb _ _ _ _ _ na L.length oD _ hb5 ha5 ol d1 (fun e=>by have:=n3 Wb e;omega) (fun g hg e=>by have:=n3 g e;have:=ha.lt hg;omega) hna hal;have HK:=hide hK;clear hK ol om o34 o4 o3 ha2 hb2
    go_wp2_with fail
    refine(bH HK).mono ?_;rintro e w6 ⟨rfl,eZ,x,r1,r2,r3,r4,r5⟩
    go_wp2_with fail
    go_ret;have hz:=(qB.trans hx25).size;have hz2:=(x3.trans (x4.trans hx5)).size;refine⟨rfl,eZ,x,r1,r2,r3.go (Kp.refl (fun _=>False) _) (fun _ _ f=>f) (fun g hlt hg=>⟨?_,hg.2⟩),Kp.then' (qB.trans hx25) r4 (fun i hi h=>?_),fun g hg=>(r5 g hg).imp id (fun h=>af)⟩
    ·rcases hg.1 with e|e
     ·have:=n3 g e;omega
     ·omega
    ·rcases h with h|h|h
     ·exact .inl h
     ·exact .inr h
     ·have:=n3 i h;omega
theorem NU (P:Program)(w:World)(t e tx ty:TypeId)(z:Value)(size bytes:Nat)(ht:P.underlying t=some (.slice e))(hinfo:(P.info? e).map (fun i=>(i.zero,i.size,i.bytes))=some (some z,size,bytes))(hzc:z.cells.size=size)
 (ao:Option Addr)(n:Nat)(cs:List Value)(hown:Own w size (.slice ao n n) n cs)(x:Value)(m:Nat)(news:List Value)(hs:Src P size tx x m news w)(hb:(n+m)*bytes≤140737488355328)(hm:n+m≤1000000000000000)(hm1:0<m):
 ∃v' w',(Builtin.append_ #[t,tx] ty #[.slice ao n n,x]).run P w=.ok v' w'∧Own w' size v' (n+m) (cs++news)∧Ext w w'∧v'.ownBlock=some w.heap.size:=by
 obtain⟨i0,hi,hz0,hz1,hz2⟩:=info_parts hinfo;have hs':Src P i0.size tx x m news w:=by rw[hz1];exact hs
 have hnl:news.length=m*size:=hs.newsLen;have hcl:=hown.1;have hlen:(cs++news).length=(n+m)*size:=by rw[aD,hcl,hnl,Nat.add_mul]
 have hold:(Builtin.firstCells i0.size n (.slice ao n n)).run P w.drew=.ok cs.toArray w.drew:=by
  rcases hown.2 with⟨e1,e2⟩|⟨g,cap,e1,h1,h2,h3,h4,h5⟩
  ·simp only[Value.slice.injEq]at e1;obtain⟨rfl,rfl,-⟩:=e1;obtain rfl:cs=[]:=aT (by simpa using hcl);exact run_firstCells_none w.drew _ _ _ _
  ·simp only[Value.slice.injEq,true_and]at e1;obtain⟨rfl,rfl⟩:=e1;rw[hz1];exact run_firstCells_some w.drew size n ⟨g,0,none⟩ _ _ cs hcl (fun j u hu=>by
    have hj:=(aL.1 hu).1;rw[Addr.add_lit,Nat.zero_add];exact(h4 j af).trans hu)
 have hrun:=run_append_grow_src (P:=P) w t tx ty e i0 z ht hi hz0 ao n n cs hold x m news hs' af af (growslice_fits af (by rw[hz2];exact hb));have hge:=grownCap_ge w (n+m) n e;have hcm:=grownCap_le_maxLen w (n+m) n e (by unfold maxLen;omega);have hsz:((cs++news).toArray++Builtin.zeroCells z.cells (grownCap w (n+m) n e-(n+m))).size=grownCap w (n+m) n e*size:=by
  rw[Array.size_append,size_zeroCells,hzc,List.size_toArray,hlen,←Nat.add_mul]
  congr 1
  omega
 refine⟨_,_,hrun,⟨hlen,.inr ⟨w.heap.size,_,rfl,hge,hcm,aj,fun j hj=>?_,fun j hj=>⟨?_,?_⟩⟩⟩,Kp.alloc (Kp.drew ax) _,rfl⟩
 ·have e1:=World.cell?_alloc_new w.drew ((cs++news).toArray++Builtin.zeroCells z.cells (grownCap w (n+m) n e-(n+m))) e j;have e2:w.drew.heap.size=w.heap.size:=rfl;rw[e2]at e1;rw[e1,Array.getElem?_append_left (by rw[List.size_toArray,hlen];exact hj),List.getElem?_toArray]
 ·have e1:=World.cell?_alloc_new w.drew ((cs++news).toArray++Builtin.zeroCells z.cells (grownCap w (n+m) n e-(n+m))) e j;have e2:w.drew.heap.size=w.heap.size:=rfl;rw[e2]at e1;rw[e1,Array.getElem?_eq_getElem (by rw[hsz];exact hj)];rfl
 ·exact World.frozen?_alloc_new w.drew _ _ j
theorem sP {P:Program}(w:World){ops:Array Oper}{rest:List Oper}{o:Oper}{a:Act}{Q:Exit→Act→World→Prop}(hgd:o.guard=none)(s x:Operand)(t tx:TypeId)
 (ho:o.op=.call {callee:=.builtin .append,args:=#[s,x],argTypes:=#[t,tx]})(e:TypeId)(z:Value)(size bytes:Nat)(ht:P.underlying t=some (.slice e))(hinfo:(P.info? e).map (fun i=>(i.zero,i.size,i.bytes))=some (some z,size,bytes))(hzc:z.cells.size=size)
 (ao:Option Addr)(n:Nat)(cs:List Value)(hv:a.eval s=.slice ao n n)(hown:Own w size (.slice ao n n) n cs)(xv:Value)(hx:a.eval x=xv)(m:Nat)(news:List Value)(hs:Src P size tx xv m news w)(hb:(n+m)*bytes≤140737488355328)(hm:n+m≤1000000000000000)(hm1:0<m)
 (hK:∀v' w',Own w' size v' (n+m) (cs++news)→Ext w w'→v'.ownBlock=some w.heap.size→wpList P ops Q rest (a.put o.dst v') w'):wpList P ops Q (o::rest) a w:=by
 refine wpList_plain hgd fun K hK'=>?_
 obtain⟨v',w',hrun,r1,r2,r3⟩:=NU P w t e tx o.type z size bytes ht hinfo hzc ao n cs hown xv m news hs hb hm hm1;unfold Oper.wp;simp[execOp,ho,resolve,invoke,builtin,hv,hx,hrun,Result.andThen];exact hK' _ _ (hK v' w' r1 r2 r3)
theorem bK.ajr {w:World}{b:Nat}{cs:List Value}{e:TypeId}(h:bK w b cs e)(hc:cs.length≤maxLen):Own w 1 (.slice (some ⟨b,0,none⟩) cs.length cs.length) cs.length cs:=
 ⟨af,.inr ⟨b,cs.length,rfl,aK _,hc,h.lt,fun j _=>h.cell j,fun j hj=>⟨by rw[h.cell,ay af];rfl,h.free j⟩⟩⟩
theorem IC {P:Program}(w:World)(b k:Nat)(hb:b=w.heap.size)(t e:TypeId)(ht:P.underlying t=some (.slice e))(arr:Array Value)(cs:List Value)(ha:arr=cs.toArray)(hk:cs.length=k)(h1:∀u∈cs,u.oneCell'=true):Src P 1 t (.slice (some ⟨b,0,none⟩) k k) k cs (w.alloc (.cells arr e)):=by
 subst hb;subst ha;exact Src.ofSlice (P:=P) _ (e':=e) ht _ _ _ _ af (fun j u hu=>by
  rw[Addr.add_lit,Nat.zero_add,World.cell?_alloc_new];simpa using hu) h1
def ji (N:Nat)(w:World)(u:Value)(m:Int):Prop:=∃b,u=.slice (some ⟨b,0,none⟩) 1 1∧N≤b∧bK w b [.int .i64 m] 3
theorem ji.kept {S:Nat→Prop}{N:Nat}{w w':World}{u:Value}{m:Int}(h:ji N w u m)(k:Kp S w w')(hS:∀b,S b→b<N):ji N w' u m:=by
 obtain⟨b,e,hn,hb⟩:=h;exact⟨b,e,hn,hb.kept k (fun s=>by have:=hS b s;omega)⟩
theorem ji.mark {N:Nat}{w:World}{u:Value}{m:Int}{C:Nat→Prop}(h:ji N w u m)(hC:∀b,N≤b→b<w.heap.size→C b):vS C w u m:=by
 obtain⟨b,rfl,hn,hb⟩:=h;exact⟨b,0,1,rfl,aK _,hC b hn hb.lt,hb.lt,by have:=hb.cell 0;simpa using this⟩
abbrev rQ (X:World)(m:Int):World:=X.alloc (.cells #[.int .i64 m] 3)
theorem tZ (X:World)(m:Int):(rQ X m).heap.size=X.heap.size+1:=by simp[rQ]
theorem IE (X:World)(m:Int):Ext X (rQ X m):=ax.alloc _
theorem new1 {X:World}{N:Nat}{m:Int}(hN:N≤X.heap.size):ji N (rQ X m) (.slice (some ⟨X.heap.size,0,none⟩) 1 1) m:=⟨_,rfl,hN,bK.bO X [.int .i64 m] _⟩
theorem new2 {X:World}{N:Nat}{m:Int}(hN:N≤X.heap.size):ji N (rQ (rQ X m) m) (.slice (some ⟨X.heap.size,0,none⟩) 1 1) m∧ji N (rQ (rQ X m) m) (.slice (some ⟨X.heap.size+1,0,none⟩) 1 1) m:=by
 refine⟨(new1 hN).kept (IE _ _) (fun _ f=>f.elim),?_⟩;have:=new1 (X:=rQ X m) (N:=N) (m:=m) (by rw[tZ];omega);rw[tZ]at this;exact this
theorem ajs {X:World}{N:Nat}{m:Int}(hN:N≤X.heap.size):ji N (rQ (rQ (rQ X m) m) m) (.slice (some ⟨X.heap.size,0,none⟩) 1 1) m∧ji N (rQ (rQ (rQ X m) m) m) (.slice (some ⟨X.heap.size+1,0,none⟩) 1 1) m∧ji N (rQ (rQ (rQ X m) m) m) (.slice (some ⟨X.heap.size+2,0,none⟩) 1 1) m:=by
 obtain⟨h1,h2⟩:=new2 (X:=X) (m:=m) hN;refine⟨h1.kept (IE _ _) (fun _ f=>f.elim),h2.kept (IE _ _) (fun _ f=>f.elim),?_⟩;have:=new1 (X:=rQ (rQ X m) m) (N:=N) (m:=m) (by rw[tZ,tZ];omega);rw[tZ,tZ]at this;exact this
structure RowsIn (O:ig)(w:World)(lv:Value)(vs:List Value)(ls:List (List Int)):Prop where
 len:vs.length=ls.length
 at_:(lv=.slice none 0 0∧ls=[])∨∃Lb,lv=.slice (some ⟨Lb,0,none⟩) ls.length ls.length∧iM (fun g=>O g=.no) w Lb vs ls
def zKR :Value:=.agg #[.slice none 0 0,.slice none 0 0,.slice none 0 0,.slice none 0 0,.int .i64 0]
theorem aej :(Tryz.prog.info? 94).map (fun i=>(i.zero,i.size,i.bytes))=some (some zKR,5,104):=by kernel_rfl
theorem ji.set {N B j:Nat}{w:World}{u v:Value}{m:Int}{cs:List Value}(h:ji N w u m)(hB:bK w B cs 94):ji N (w.setCell ⟨B,j,none⟩ v) u m:=by
 obtain⟨b,e,hn,hb⟩:=h;exact⟨b,e,hn,hb.kept (bI w B j v) (hb.ne hB (by decide))⟩
def qw (N B:Nat)(X:World)(v:Value)(cs:List Value)(m:Int):Prop:=Own X 1 v cs.length cs∧(∀u∈cs,ji N X u m)∧∀g,v.ownBlock=some g→N≤g∧g≠B
structure ZJ (N B:Nat)(W1 X:World)(Wb:Nat)(tv iv av rv:Value)(nr:Nat)(rcs:List Value)(lv:Value)(n:Nat)(ws:List Value)(m:Int)(xa xb xc:Value)(ca cb cc:List Value):Prop where
 box:bK X B [lv,xa,xb,xc,.int .i64 m] 94
 hB:N≤B
 bw:bK X Wb [tv,iv,av,rv] 32
 orw:Own X 5 rv nr rcs
 VL:Own X 1 lv n ws
 VN:∀u∈ws,ji N X u m
 ra:qw N B X xa ca m
 rb:qw N B X xb cb m
 rc:qw N B X xc cc m
 kp:Kp (Of lv) W1 X
theorem ji.ext {N:Nat}{w w':World}{u:Value}{m:Int}(h:ji N w u m)(x:Ext w w'):ji N w' u m:=h.kept x (fun _ f=>f.elim)
theorem qw.ext {N B:Nat}{X X':World}{v:Value}{cs:List Value}{m:Int}(h:qw N B X v cs m)(x:Ext X X'):qw N B X' v cs m:=⟨h.1.ext x,fun u hu=>(h.2.1 u hu).ext x,h.2.2⟩
theorem qw.set {N B j:Nat}{X:World}{v u:Value}{cs bs:List Value}{m:Int}(h:qw N B X v cs m)(hB:bK X B bs 94):qw N B (X.setCell ⟨B,j,none⟩ u) v cs m:=⟨h.1.kept (bI X B j u) (fun g hg e=>(h.2.2 g hg).2 e),fun y hy=>(h.2.1 y hy).set hB,h.2.2⟩
theorem ZJ.laid {N B:Nat}{W1 X u1:World}{Wb:Nat}{tv iv av rv:Value}{nr:Nat}{rcs:List Value}{lv:Value}{n:Nat}{ws:List Value}{m:Int}{xa xb xc D5 GL D6:Value}{ca cb cc ca' cb' cc':List Value}(h:ZJ N B W1 X Wb tv iv av rv nr rcs lv n ws m xa xb xc ca cb cc)(x:Ext X u1)(hN:W1.heap.size≤N)(hlv:∀g,lv.ownBlock=some g→g<N)(hrv:∀g,rv.ownBlock=some g→g<N)(hWb:Wb<N)(j:Nat)(v:Value)(e:[lv,xa,xb,xc,.int .i64 m].set j v=[lv,D5,GL,D6,.int .i64 m])(ra:qw N B u1 D5 ca' m)(rb:qw N B u1 GL cb' m)(rc:qw N B u1 D6 cc' m):
 ZJ N B W1 (u1.setCell ⟨B,j,none⟩ v) Wb tv iv av rv nr rcs lv n ws m D5 GL D6 ca' cb' cc':=by
 have hb1:=h.box.kept x id;have k:=bI u1 B j v;have hB:=h.hB;refine⟨by have:=hb1.set j v;rw[e]at this;exact this,h.hB,(h.bw.kept x id).kept k af,(h.orw.ext x).kept k (fun g hg e=>by have:=hrv g hg;omega),(h.VL.ext x).kept k (fun g hg e=>by have:=hlv g hg;omega),fun u hu=>((h.VN u hu).ext x).set hb1,ra.set hb1,rb.set hb1,rc.set hb1,(h.kp.trans (Kp.cZ x)).then k (fun i hi e=>af)⟩
section
variable{O:ig}{w w':World}{Wb:Nat}{tv iv av rv:Value}{li:List KI}{la:List KA}{lr:List KR}
theorem rO.aaN (h:rO O w Wb tv iv av rv li la lr){lv rv':Value}{x:KR}(hlo:∀g,lv.ownBlock=some g→O g=.no)(hb:lr.length≤900000000)(r1:bK w' Wb [tv,iv,av,rv'] 32)(r2:Own w' 5 rv' (lr.length+1) (lr.flatMap rH++rH x))(r3:Iy (fun g=>(lv.ownBlock=some g∨w.heap.size≤g)∧rv'.ownBlock≠some g) w' x)(r4:Kp (fun k=>k=Wb∨Of rv k∨Of lv k) w w')(r5:∀g,rv'.ownBlock=some g→rv.ownBlock=some g∨w.heap.size≤g):
 rO (sS O w w' lv rv' .rv) w' Wb tv iv av rv' li la (lr++[x])∧Kp (fun b=>O b=.wb∨O b=.rv∨lv.ownBlock=some b) w w'∧(∀b,b<w.heap.size→lv.ownBlock≠some b→sS O w w' lv rv' .rv b=O b):=by
 have hk:=h.kept;have hz:=r4.size;have hno:∀c,c≠.wb→c≠.rv→c≠.no→∀b,O b=c→¬(b=Wb∨Of rv b∨Of lv b):=fun c h1 h2 h3 b hb e=>by
  rcases e with e|e|e
  ·rw[e,h.rP]at hb;exact h1 hb.symm
  ·rw[h.oF b e]at hb;exact h2 hb.symm
  ·rw[hlo b e]at hb;exact h3 hb.symm
 have hold:∀b c,O b=c→c≠.no→sS O w w' lv rv' .rv b=c:=fun b c hb hc=>by
  have hlt:b<w.heap.size:=Classical.byContradiction fun e=>hc (by rw[←hb];exact h.top b af)
  rw[vT hlt (fun e=>hc (by rw[←hb];exact hlo b e))];exact hb
 refine⟨⟨r1,hold _ _ h.rP aj,⟨hk.oi.kept r4 (fun g hg=>hno _ aj aj aj g (h.oi g hg)),hk.oa.kept r4 (fun g hg=>hno _ aj aj aj g (h.oa g hg)),by rw[aD,List.flatMap_append];simpa using r2,fun y hy=>(hk.ki y hy).go r4 (fun b hb=>hno _ aj aj aj b hb) (fun b _ e=>hold b _ e aj),fun y hy=>(hk.ka y hy).go r4 (fun b hb=>hno _ aj aj aj b hb) (fun b _ e=>hold b _ e aj),fun y hy=>?_,hk.bi,hk.ba,by simp;omega⟩,fun g hg=>hold _ _ (h.oi g hg) aj,fun g hg=>hold _ _ (h.oa g hg) aj,fun g hg=>?_,fun b hb=>?_⟩,r4.mono (fun b _ e=>?_),fun b hb hne=>vT hb hne⟩
 ·rcases aI.1 hy with hy|hy
  ·exact(hk.kr y hy).go r4 (fun b hb=>hno _ aj aj aj b hb) (fun b _ e=>hold b _ e aj)
  ·obtain rfl:=aZ.1 hy;refine r3.go (Kp.refl (fun _=>False) _) (fun _ _ f=>f) (fun b hlt hb=>?_);by_cases hbw:b<w.heap.size
   ·rcases hb.1 with e|e
    ·exact NN hbw e
    ·omega
   ·exact IA hbw hb.2 hlt
 ·rcases r5 g hg with e|e
  ·exact hold _ _ (h.oF g e) aj
  ·exact Iz af hg
 ·exact IB af hz (fun e=>by have:=r2.lt e;omega)
 ·rcases e with e|e|e
  ·exact .inl (by rw[e];exact h.rP)
  ·exact .inr (.inl (h.oF b e))
  ·exact .inr (.inr e)
end
inductive Sq (O:ig)(w w':World)(e:Ending)(Wb:Nat)(tv av:Value)(li:List KI)(la:List KA)(lr:List KR)(n:Nat):Prop
 |mk (O':ig) (sU rv':Value) (vv:List KI) (x:KR) (he:e=.returned (.tuple #[])) (hk:rO O' w' Wb tv sU av rv' (li++vv) la (lr++[x])) (hl:vv.length=n) (kp:Kp (fun b=>O b=.wb∨O b=.iv∨O b=.rv∨O b=.no) w w') (ho:∀b,b<w.heap.size→O b≠.no→O' b=O b):Sq O w w' e Wb tv av li la lr n
theorem NV (O:ig)(w:World)(Wb:Nat)(tv iv av rv lv:Value)(li:List KI)(la:List KA)(lr:List KR)(vs:List Value)(ls:List (List Int))(h:rO O w Wb tv iv av rv li la lr)(hl:RowsIn O w lv vs ls)(hb:li.length≤800000000)(hbr:lr.length≤800000000)(hn:ls.length≤100)(hln:∀l∈ls,l.length≤1000):
 Calls Tryz.prog 40 #[PtrTo Wb 0,lv] w fun e w'=>Sq O w w' e Wb tv av li la lr ls.length:=by
 have hvl:=hl.len;obtain⟨ao,rfl⟩:∃ao,lv=.slice ao ls.length ls.length:=by
  rcases hl.at_ with⟨rfl,e⟩|⟨Lb,rfl,-⟩
  ·exact⟨none,by rw[e];rfl⟩
  ·exact⟨_,rfl⟩
 have Gh:Hid (0<ls.length→∃Lb,ao=some ⟨Lb,0,none⟩∧iM (fun g=>O g=.no) w Lb vs ls):=fun hp=>by
  rcases hl.at_ with⟨-,e⟩|⟨Lb,e,hN⟩
  ·rw[e]at hp;simp at hp
  ·simp only[Value.slice.injEq,and_true]at e;exact⟨Lb,e,hN⟩
 have HLZ:Hid (ls.length=0→(ao=none∨∃Lb,ao=some ⟨Lb,0,none⟩∧iM (fun g=>O g=.no) w Lb vs ls)):=fun hp=>by
  rcases hl.at_ with⟨e,-⟩|⟨Lb,e,hN⟩
  ·simp only[Value.slice.injEq]at e;exact .inl e.1
  ·simp only[Value.slice.injEq,and_true]at e;exact .inr ⟨Lb,e,hN⟩
 clear hl;go_enter Tryz.func40,Tryz.ntmps40
 go_wp2_with fail
 go_loopw [4] (fun i wr=>∃(k:Nat)(O':ig)(sU:Value)(vv:List KI),k≤ls.length∧i=.int .i64 k∧rO O' wr Wb tv sU av rv (li++vv) la lr∧Hid (vv.length=k)∧Kp (fun b=>O b=.wb∨O b=.iv∨O b=.rv∨O b=.no) w wr∧(∀b,b<w.heap.size→O b≠.no→O' b=O b)∧(∀Lb,ao=some ⟨Lb,0,none⟩→bK wr Lb vs 46∧O' Lb=.no)∧(∀(j:Nat)v l,k≤j→vs[j]?=some v→ls[j]?=some l→Own wr 1 v l.length (l.map I)∧∀g,v.ownBlock=some g→O' g=.no)) (fun i _=>ls.length-(intOf i).toNat)
 case atStart=>
  refine⟨0,O,iv,[],aM _,rfl,by simpa using h,by show _=_;rfl,Kp.refl _ _,fun _ _ _=>rfl,fun Lb e=>?_,fun j v l _ hv hl=>?_⟩
  ·by_cases hp:0<ls.length
   ·obtain⟨ZK,e',hN⟩:=Gh.out hp;rw[e]at e';cases e';exact⟨hN.blk,hN.new⟩
   ·rcases HLZ.out af with e'|⟨ZK,e',hN⟩
    ·rw[e]at e';cases e'
    ·rw[e]at e';cases e';exact⟨hN.blk,hN.new⟩
  ·obtain⟨ZK,e',hN⟩:=Gh.out (by have:=(aL.1 hl).1;omega);exact⟨hN.own j v l hv hl,fun g hg=>(hN.si j v g hv hg).1⟩
 case round=>
  obtain⟨k,O1,iv1,li1,hk,rfl,hK,HL1,ZL,NW,xX,hrest⟩:=hrel;by_cases hkl:k<ls.length
  ·obtain⟨Lb,hao,hN⟩:=Gh.out af;subst hao;obtain⟨hBL,hOL⟩:=xX Lb rfl;have hvk:vs[k]?=some (vs[k]'af):=ay _;have hlk:ls[k]?=some ls[k]:=ay hkl;obtain⟨GK,ZM⟩:=hrest k _ _ (aK _) hvk hlk;have hll:=hln ls[k] (aJ hkl);obtain⟨v,LF⟩:∃v,v=vs[k]'af:=⟨_,rfl⟩
   obtain⟨l,hle⟩:∃l,l=ls[k]:=⟨_,rfl⟩
   rw[←LF]at GK ZM hvk;rw[←hle]at GK hll hlk;have e0:=(hBL.cell k).trans hvk;have HVK:=hide hvk;have AY:=hide hlk;clear LF hle hvk hlk;have HKI:=hide (hK.ints GK ZM (by rw[aD];have:=HL1.out;omega) hll);obtain⟨va,vc,rfl,-⟩:=GK.shape;have k0:(0:Int)≤(k:Int):=af;have k1:(k:Int)<(ls.length:Int):=af
   go_wp2_with (go_at_call 70;refine(bH HKI).mono ?_;rintro e W2 ⟨rfl,O2,GY,x2,hK2,kp2,hO2⟩)
   go_roundw
   case rel=>
    have hsame:∀b,b<wr.heap.size→(Value.slice va l.length vc).ownBlock≠some b→O1 b=.no→O2 b=.no:=fun b hb hne e=>by rw[hO2 b hb hne];exact e
    have hkeep:∀b,(Value.slice va l.length vc).ownBlock≠some b→O1 b=.no→¬(O1 b=.wb∨O1 b=.iv∨(Value.slice va l.length vc).ownBlock=some b):=fun b hne e s=>by
     rcases s with s|s|s
     ·rw[e]at s;cases s
     ·rw[e]at s;cases s
     ·exact hne s
    have aen:(Value.slice va l.length vc).ownBlock≠some Lb:=fun e=>(hN.si k _ Lb HVK.out e).2 rfl
    refine⟨k+1,O2,GY,li1++[x2],af,by go_num,by rw[←aW];exact hK2,by show _=_;rw[aD,HL1.out];rfl,ZL.then kp2 (fun b hb s=>?_),fun b hb hne=>?_,fun ZK e=>?_,fun j v' l' hj hv' hl'=>?_⟩
    ·rcases s with s|s|s
     ·by_cases hO:O b=.no
      ·exact .inr (.inr (.inr hO))
      ·rw[NW b hb hO]at s;exact .inl s
     ·by_cases hO:O b=.no
      ·exact .inr (.inr (.inr hO))
      ·rw[NW b hb hO]at s;exact .inr (.inl s)
     ·by_cases hO:O b=.no
      ·exact .inr (.inr (.inr hO))
      ·have:=ZM b s;rw[NW b hb hO]at this;exact absurd this hO
    ·have e1:=NW b hb hne;rw[hO2 b (aY hb ZL.size) (fun e=>hne (by rw[←e1];exact ZM b e)),e1]
    ·cases e;exact⟨hBL.kept kp2 (hkeep Lb aen hOL),hsame Lb hBL.lt aen hOL⟩
    ·obtain⟨a1,a2⟩:=hrest j v' l' af hv' hl';have hne:∀g,v'.ownBlock=some g→(Value.slice va l.length vc).ownBlock≠some g:=fun g hg e=>by
      have:=hN.apart k j _ v' g HVK.out hv' e hg;omega
     exact⟨a1.kept kp2 (fun g hg=>hkeep g (hne g hg) (a2 g hg)),fun g hg=>hsame g (a1.lt hg) (hne g hg) (a2 g hg)⟩
   case measure=>simp[intOf];omega
  ·obtain rfl:k=ls.length:=af;have k1:¬(ls.length:Int)<(ls.length:Int):=af;clear hrest;obtain⟨W1,rfl⟩:∃W1,W1=wr:=⟨_,rfl⟩
   obtain⟨ra,rc,rfl,hrc⟩:=hK.kept.oF.shape;have hrl:=hK.kept.oF;have c3:=hK.wb.cell 3;simp only[au]at c3;have hmb:-2000000000≤-1000-(lr.length:Int)∧-1000-(lr.length:Int)<0:=af
   go_wp2_with fail
   generalize -1000-(lr.length:Int)=m at*;clear c3;go_loopw [6] (fun i wq=>∃(k:Nat)(ws:List Value),k≤ls.length∧i=.int .i64 k∧Hid (ws.length=k)∧(∀Lb,ao=some ⟨Lb,0,none⟩→bK wq Lb (ws++vs.drop k) 46)∧(∀u∈ws,ji W1.heap.size wq u m)∧Kp (fun b=>(Value.slice ao ls.length ls.length).ownBlock=some b) W1 wq) (fun i _=>ls.length-(intOf i).toNat)
   case atStart=>exact⟨0,[],aM _,rfl,by show _=_;rfl,fun Lb e=>by simpa using(xX Lb e).1,fun u hu=>by simp at hu,Kp.refl _ _⟩
   case round=>
    obtain⟨k,ws,hk,rfl,yH,hBw,JB,kW⟩:=hrel;by_cases hkl:k<ls.length
    ·obtain⟨Lb,hao,-⟩:=Gh.out af;subst hao;have hB:=hBw Lb rfl;have k0:(0:Int)≤(k:Int):=af;have k1:(k:Int)<(ls.length:Int):=af;have zh:k<(ws++vs.drop k).length:=by rw[aD,yH.out,bq];omega
     have e0:=hB.cell k;have f0:=hB.free k;rw[ay zh]at e0;have hLl:Lb<wr.heap.size:=hB.lt;have ks:=bI wr Lb k (.slice (some ⟨wr.heap.size,0,none⟩) 1 1);have hzs:(wr.setCell ⟨Lb,k,none⟩ (.slice (some ⟨wr.heap.size,0,none⟩) 1 1)).heap.size=wr.heap.size:=size_set _ _ _;have xa:Ext (wr.setCell ⟨Lb,k,none⟩ (.slice (some ⟨wr.heap.size,0,none⟩) 1 1)) ((wr.setCell ⟨Lb,k,none⟩ (.slice (some ⟨wr.heap.size,0,none⟩) 1 1)).alloc (.cells #[.int .i64 m] 3)):=ax.alloc _;have bA:=bK.bO (wr.setCell ⟨Lb,k,none⟩ (.slice (some ⟨wr.heap.size,0,none⟩) 1 1)) [.int .i64 m] 3;rw[hzs]at bA;have HBS:=hide ((hB.set k (.slice (some ⟨wr.heap.size,0,none⟩) 1 1)).kept xa id);have HSE:Hid ((ws++vs.drop k).set k (.slice (some ⟨wr.heap.size,0,none⟩) 1 1)=(ws++[.slice (some ⟨wr.heap.size,0,none⟩) 1 1])++vs.drop (k+1)):=by
      show _=_;rw[List.set_append_right _ _ (by rw[yH.out];exact aK _),yH.out,Nat.sub_self,aV af,List.set_cons_zero];simp
     have Mc:Hid (∀u∈ws++[.slice (some ⟨wr.heap.size,0,none⟩) 1 1],ji W1.heap.size ((wr.setCell ⟨Lb,k,none⟩ (.slice (some ⟨wr.heap.size,0,none⟩) 1 1)).alloc (.cells #[.int .i64 m] 3)) u m):=fun u hu=>by
      have YZ:Lb<W1.heap.size:=(xX Lb rfl).1.lt;rcases aI.1 hu with hu|hu
      ·exact((JB u hu).kept ks (fun b hb=>af)).ext xa
      ·obtain rfl:=aZ.1 hu;exact⟨wr.heap.size,rfl,kW.size,bA⟩
     have HKW:Hid (Kp (fun b=>(Value.slice (some ⟨Lb,0,none⟩) ls.length ls.length).ownBlock=some b) W1 ((wr.setCell ⟨Lb,k,none⟩ (.slice (some ⟨wr.heap.size,0,none⟩) 1 1)).alloc (.cells #[.int .i64 m] 3))):=(kW.setCell (p:=⟨Lb,k,none⟩) (.inl rfl) _).alloc _;clear bA xa hzs ks
     go_wp2_with fail
     go_roundw
     case rel=>exact⟨k+1,ws++[.slice (some ⟨wr.heap.size,0,none⟩) 1 1],af,by go_num,by show _=_;rw[aD,yH.out];rfl,fun ZK e=>by cases e;rw[←HSE.out];exact HBS.out,Mc.out,HKW.out⟩
     case measure=>simp[intOf];omega
    ·obtain rfl:k=ls.length:=af;have k1:¬(ls.length:Int)<(ls.length:Int):=af;have hdn:vs.drop ls.length=[]:=List.drop_eq_nil_of_le af;have aeo:Own wr 1 (.slice ao ls.length ls.length) ls.length ws:=by
      have hz:ls.length=0∨0<ls.length:=af;have key:∀Lb,ao=some ⟨Lb,0,none⟩→Own wr 1 (.slice ao ls.length ls.length) ls.length ws:=fun Lb e=>by
       have hB:=hBw Lb e;rw[hdn,List.append_nil]at hB;have:=hB.ajr (by unfold maxLen;rw[yH.out];omega);rw[yH.out]at this;rw[e];exact this
      rcases hz with hz|hz
      ·rcases HLZ.out hz with e|⟨Lb,e,-⟩
       ·have hw0:ws=[]:=aT (by rw[yH.out];exact hz);rw[e,hz,hw0];exact Own.nil _ _
       ·exact key Lb e
      ·obtain⟨Lb,e,-⟩:=Gh.out hz;exact key Lb e
     have yI:∀g,(Value.slice ao ls.length ls.length).ownBlock=some g→g<W1.heap.size∧O1 g=.no:=fun g hg=>by
      cases hao:ao with
      |none=>rw[hao]at hg;simp[Value.ownBlock]at hg
      |some a=>
       rw[hao]at hg;by_cases hp:0<ls.length
       ·obtain⟨Lb,e,-⟩:=Gh.out hp;rw[hao]at e;cases e;simp[Value.ownBlock]at hg;subst hg;exact⟨(xX _ hao).1.lt,(xX _ hao).2⟩
       ·rcases HLZ.out af with e|⟨Lb,e,-⟩
        ·rw[hao]at e;cases e
        ·rw[hao]at e;cases e;simp[Value.ownBlock]at hg;subst hg;exact⟨(xX _ hao).1.lt,(xX _ hao).2⟩
     have Yn:=hK.wb.lt;have H_:∀g,(Value.slice ra lr.length rc).ownBlock=some g→g<W1.heap.size:=fun g hg=>hrl.lt hg
     have hWl:¬(Value.slice ao ls.length ls.length).ownBlock=some Wb:=fun e=>by have:=(yI Wb e).2;rw[hK.rP]at this;cases this
     have hrl2:∀g,(Value.slice ra lr.length rc).ownBlock=some g→¬(Value.slice ao ls.length ls.length).ownBlock=some g:=fun g hg e=>by have:=(yI g e).2;rw[hK.oF g hg]at this;cases this
     go_upto_region 10 with fail
     have xx:Ext wr (wr.alloc (.cells #[.slice ao ls.length ls.length,.slice none 0 0,.slice none 0 0,.slice none 0 0,.int .i64 m] 94)):=ax.alloc _;have E_:∀X:World,qw W1.heap.size wr.heap.size X (.slice none 0 0) [] m:=fun X=>⟨Own.nil _ _,fun u hu=>(by simp at hu),fun g hg=>by simp[Value.ownBlock]at hg⟩
     have hS0:ZJ W1.heap.size wr.heap.size W1 (wr.alloc (.cells #[.slice ao ls.length ls.length,.slice none 0 0,.slice none 0 0,.slice none 0 0,.int .i64 m] 94)) Wb tv iv1 av (.slice ra lr.length rc) lr.length (lr.flatMap rH) (.slice ao ls.length ls.length) ls.length ws m (.slice none 0 0) (.slice none 0 0) (.slice none 0 0) [] [] []:=
      ⟨bK.bO wr [.slice ao ls.length ls.length,.slice none 0 0,.slice none 0 0,.slice none 0 0,.int .i64 m] _,kW.size,(hK.wb.kept kW hWl).kept xx id,(hrl.kept kW hrl2).ext xx,aeo.ext xx,fun u hu=>(JB u hu).ext xx,E_ _,E_ _,E_ _,kW.trans (Kp.cZ xx)⟩
     clear aeo JB hBw;obtain⟨B,hBe⟩:∃B,B=wr.heap.size:=⟨_,rfl⟩
     rw[←hBe]at hS0 E_;rw[←hBe];clear hBe;generalize wr.alloc (.cells #[.slice ao ls.length ls.length,.slice none 0 0,.slice none 0 0,.slice none 0 0,.int .i64 m] 94)=X0 at*;have xE1:Ext X0 ((X0.alloc (.cells #[.int .i64 m] 3)).alloc (.cells #[.slice (some ⟨X0.heap.size,0,none⟩) 1 1] 46)):=((ax.alloc _).alloc _)
     go_upto_region 11 with(at_builtin;go_must (refine sP _ rfl _ _ 51 51 rfl 46 (.slice none 0 0) 1 24 Tryz.underlying51 zo rfl ao ls.length ws rfl (hS0.VL.ext xE1) _ rfl 1 [.slice (some ⟨X0.heap.size,0,none⟩) 1 1] (IC _ _ 1 aj _ _ Tryz.underlying51 _ _ rfl rfl (by intro u hu;simp at hu;subst hu;rfl)) af af af ?_);intro va ua o1 x1 b1;obtain⟨JU,JV,rfl,-⟩:=o1.shape;have bb1:=(hS0.box.kept xE1 id).kept x1 id;have e1b:=bb1.cell 1;have f1b:=bb1.free 1;simp only[au]at e1b;clear bb1)
     have hX1:W1.heap.size≤X0.heap.size:=hS0.kp.size;have ajt:=hS0.box.lt;have nw1:=new1 (X:=X0) (m:=m) hX1;have xL1:Ext (X0.alloc (.cells #[.int .i64 m] 3)) ua:=Kp.trans (ax.alloc _) x1;have l1:qw W1.heap.size B ua (.slice JU (ls.length+1) JV) (ws++[.slice (some ⟨X0.heap.size,0,none⟩) 1 1]) m:=by
      refine⟨by rw[aD,yH.out];exact o1,fun u hu=>?_,fun g hg=>?_⟩
      ·rcases aI.1 hu with hu|hu
       ·exact(hS0.VN u hu).ext (xE1.trans x1)
       ·obtain rfl:=aZ.1 hu;exact nw1.ext xL1
      ·have hge:=xE1.size;have hg':=Option.some.inj (b1.symm.trans hg);rw[hg']at hge;omega
     have hS1:=hS0.laid (xE1.trans x1) (aK _) (fun g hg=>(yI g hg).1) H_ Yn 1 (.slice JU (ls.length+1) JV) rfl l1 (E_ _) (E_ _);clear hS0 l1 nw1 xL1 o1 x1 b1 e1b f1b xE1 hX1 ajt;generalize ua.setCell ⟨B,1,none⟩ (.slice JU (ls.length+1) JV)=X1 at*;have xE2:Ext X1 (((X1.alloc (.cells #[.int .i64 m] 3)).alloc (.cells #[.int .i64 m] 3)).alloc (.cells #[.slice (some ⟨X1.heap.size,0,none⟩) 1 1,.slice (some ⟨X1.heap.size+1,0,none⟩) 1 1] 46)):=(((ax.alloc _).alloc _).alloc _)
     go_upto_region 12 with(at_builtin;go_must (refine sP _ rfl _ _ 51 51 rfl 46 (.slice none 0 0) 1 24 Tryz.underlying51 zo rfl ao ls.length ws rfl (hS1.VL.ext xE2) _ rfl 2 [.slice (some ⟨X1.heap.size,0,none⟩) 1 1,.slice (some ⟨X1.heap.size+1,0,none⟩) 1 1] (IC _ _ 2 aj _ _ Tryz.underlying51 _ _ rfl rfl (by intro u hu;simp at hu;rcases hu with rfl|rfl<;>rfl)) af af af ?_);intro vb ub o2 x2 b2;obtain⟨JW,JX,rfl,-⟩:=o2.shape;have bb2:=(hS1.box.kept xE2 id).kept x2 id;have e2b:=bb2.cell 2;have f2b:=bb2.free 2;simp only[au]at e2b;clear bb2)
     have hX2:W1.heap.size≤X1.heap.size:=hS1.kp.size;have aju:=hS1.box.lt;have nw2:=new2 (X:=X1) (m:=m) hX2;have xL2:Ext ((X1.alloc (.cells #[.int .i64 m] 3)).alloc (.cells #[.int .i64 m] 3)) ub:=Kp.trans (ax.alloc _) x2;have l2:qw W1.heap.size B ub (.slice JW (ls.length+2) JX) (ws++[.slice (some ⟨X1.heap.size,0,none⟩) 1 1,.slice (some ⟨X1.heap.size+1,0,none⟩) 1 1]) m:=by
      refine⟨by rw[aD,yH.out];exact o2,fun u hu=>?_,fun g hg=>?_⟩
      ·rcases aI.1 hu with hu|hu
       ·exact(hS1.VN u hu).ext (xE2.trans x2)
       ·simp only[List.mem_cons,List.not_mem_nil,or_false]at hu;rcases hu with rfl|rfl
        ·exact(nw2.1).ext xL2
        ·exact(nw2.2).ext xL2
      ·have hge:=xE2.size;have hg':=Option.some.inj (b2.symm.trans hg);rw[hg']at hge;omega
     have hS2:=hS1.laid (xE2.trans x2) (aK _) (fun g hg=>(yI g hg).1) H_ Yn 2 (.slice JW (ls.length+2) JX) rfl (hS1.ra.ext (xE2.trans x2)) l2 (E_ _);clear hS1 l2 nw2 xL2 o2 x2 b2 e2b f2b xE2 hX2 aju;generalize ub.setCell ⟨B,2,none⟩ (.slice JW (ls.length+2) JX)=X2 at*;have xE3:Ext X2 ((((X2.alloc (.cells #[.int .i64 m] 3)).alloc (.cells #[.int .i64 m] 3)).alloc (.cells #[.int .i64 m] 3)).alloc (.cells #[.slice (some ⟨X2.heap.size,0,none⟩) 1 1,.slice (some ⟨X2.heap.size+1,0,none⟩) 1 1,.slice (some ⟨X2.heap.size+2,0,none⟩) 1 1] 46)):=((((ax.alloc _).alloc _).alloc _).alloc _)
     go_upto_region 13 with(at_builtin;go_must (refine sP _ rfl _ _ 51 51 rfl 46 (.slice none 0 0) 1 24 Tryz.underlying51 zo rfl ao ls.length ws rfl (hS2.VL.ext xE3) _ rfl 3 [.slice (some ⟨X2.heap.size,0,none⟩) 1 1,.slice (some ⟨X2.heap.size+1,0,none⟩) 1 1,.slice (some ⟨X2.heap.size+2,0,none⟩) 1 1] (IC _ _ 3 aj _ _ Tryz.underlying51 _ _ rfl rfl (by intro u hu;simp at hu;rcases hu with rfl|rfl|rfl<;>rfl)) af af af ?_);intro vc uc o3 x3 b3;obtain⟨JY,JZ,rfl,-⟩:=o3.shape;have bb3:=(hS2.box.kept xE3 id).kept x3 id;have e3b:=bb3.cell 3;have f3b:=bb3.free 3;simp only[au]at e3b;clear bb3)
     have VO:W1.heap.size≤X2.heap.size:=hS2.kp.size;have ajv:=hS2.box.lt;have ZN:=ajs (X:=X2) (m:=m) VO;have ZO:Ext (((X2.alloc (.cells #[.int .i64 m] 3)).alloc (.cells #[.int .i64 m] 3)).alloc (.cells #[.int .i64 m] 3)) uc:=Kp.trans (ax.alloc _) x3;have l3:qw W1.heap.size B uc (.slice JY (ls.length+3) JZ) (ws++[.slice (some ⟨X2.heap.size,0,none⟩) 1 1,.slice (some ⟨X2.heap.size+1,0,none⟩) 1 1,.slice (some ⟨X2.heap.size+2,0,none⟩) 1 1]) m:=by
      refine⟨by rw[aD,yH.out];exact o3,fun u hu=>?_,fun g hg=>?_⟩
      ·rcases aI.1 hu with hu|hu
       ·exact(hS2.VN u hu).ext (xE3.trans x3)
       ·simp only[List.mem_cons,List.not_mem_nil,or_false]at hu;rcases hu with rfl|rfl|rfl
        ·exact(ZN.1).ext ZO
        ·exact(ZN.2.1).ext ZO
        ·exact(ZN.2.2).ext ZO
      ·have hge:=xE3.size;have hg':=Option.some.inj (b3.symm.trans hg);rw[hg']at hge;omega
     have fP:=hS2.laid (xE3.trans x3) (aK _) (fun g hg=>(yI g hg).1) H_ Yn 3 (.slice JY (ls.length+3) JZ) rfl (hS2.ra.ext (xE3.trans x3)) (hS2.rb.ext (xE3.trans x3)) l3;clear hS2 l3 ZN ZO o3 x3 b3 e3b f3b xE3 VO ajv;generalize uc.setCell ⟨B,3,none⟩ (.slice JY (ls.length+3) JZ)=X3 at*;have q3:=fP.bw.cell 3;have t0:=fP.box.cell 0;have t1:=fP.box.cell 1;have t2:=fP.box.cell 2;have t3:=fP.box.cell 3;have t4:=fP.box.cell 4;have f3:=fP.bw.free 3;simp only[au]at q3 t0 t1 t2 t3 t4;have hBW:Wb≠B:=by have:=fP.hB;omega
     have hS:∀u,Kp (fun g=>g≠Wb∧g≠B) X3 u→u.cell? ⟨Wb,3,none⟩=some (.slice ra lr.length rc)∧u.cell? ⟨B,0,none⟩=some (.slice ao ls.length ls.length)∧u.cell? ⟨B,1,none⟩=some (.slice JU (ls.length+1) JV)∧u.cell? ⟨B,2,none⟩=some (.slice JW (ls.length+2) JX)∧u.cell? ⟨B,3,none⟩=some (.slice JY (ls.length+3) JZ)∧u.cell? ⟨B,4,none⟩=some (.int .i64 m):=fun u hu=>
      ⟨hu.cell q3 aj,hu.cell t0 aj,hu.cell t1 aj,hu.cell t2 aj,hu.cell t3 aj,hu.cell t4 aj⟩
     have HS:=hide hS;have VA:Hid (∀u,Ext X3 u→Own u 5 (.slice ra lr.length rc) lr.length (lr.flatMap rH)):=fun u hu=>fP.orw.ext hu
     have JO:Hid (∀g,(Value.slice ra lr.length rc).ownBlock=some g→g≠Wb∧g≠B):=fun g hg=>⟨(fun e=>by have:=hK.oF g hg;rw[e,hK.rP]at this;cases this),(fun e=>by have:=H_ g hg;have:=fP.hB;omega)⟩
     have NH:Hid (#[Value.slice ao ls.length ls.length,.slice JU (ls.length+1) JV,.slice JW (ls.length+2) JX,.slice JY (ls.length+3) JZ,.int .i64 m]=[Value.slice ao ls.length ls.length,.slice JU (ls.length+1) JV,.slice JW (ls.length+2) JX,.slice JY (ls.length+3) JZ,.int .i64 m].toArray):=rfl;have NI:Hid (∀u∈[Value.slice ao ls.length ls.length,.slice JU (ls.length+1) JV,.slice JW (ls.length+2) JX,.slice JY (ls.length+3) JZ,.int .i64 m],u.oneCell'=true):=by
      intro u hu;simp at hu;rcases hu with rfl|rfl|rfl|rfl|rfl<;>rfl
     have hK1:Kp (fun g=>g≠Wb∧g≠B) X3 X3.drew:=ax.drew;clear hS;refine bZ (n:=10) (Kp (fun g=>g≠Wb∧g≠B) X3) (by kernel_rfl) ?_;refine Late.h HS 0 [10] rfl hK1 ?_;refine Late.h HS 1 [10] rfl hK1 ?_;refine Late.h HS 2 [10] rfl hK1 ?_;refine Late.h HS 3 [10] rfl hK1 ?_;refine Late.h HS 4 [10] rfl hK1 ?_;refine Late.h HS 5 [10] rfl hK1 ?_;refine Late.o 6 rfl (fun K hK=>?_);go_simp;refine hK _ _ (fun _=>(ax.alloc _).drew) ?_;clear hK K;try simp only[lX]
     refine Late.o 7 rfl (fun K hKK=>?_);refine d_ rfl _ _ 30 30 rfl 94 zKR 5 104 Tryz.underlying30 aej rfl (.slice ra lr.length rc) lr.length (lr.flatMap rH) rfl ((bH VA) _ (ax.alloc _).drew) _ (by rfl) 1 _ (uK _ _ _ Tryz.underlying30 _ _ (bH NH) (bH NI)) af af ?_;intro rv' w1 o2 k2 s2;have k12:Kp (fun g=>g≠Wb∧g≠B) X3 w1:=(ax.alloc _).drew.trans (k2.mono (fun k _ e=>(bH JO) k e));refine hKK _ _ (fun _=>k12) ?_;clear hKK K;obtain⟨a',c',rfl,hc'⟩:=o2.shape;try simp only[lX]
     have q3':w1.cell? ⟨Wb,3,none⟩=some (.slice ra lr.length rc):=k12.cell q3 aj;have f3':w1.frozen? ⟨Wb,3,none⟩=false:=by rw[World.frozen?_of_block (w:=X3) (a:=⟨Wb,3,none⟩) (k12.block Wb fP.bw.lt aj)];exact f3
     refine Late.o 8 rfl (fun K hK=>?_);go_simp;refine hK _ _ (fun _=>k12) ?_;clear hK K;try simp only[lX]
     refine Late.o 9 rfl (fun K hK=>?_);go_simp;refine hK _ _ (fun _=>k12) ?_;clear hK K;try simp only[lX]
     refine Late.o 10 rfl (fun K hK=>?_);go_simp;refine hK _ _ (fun h=>absurd rfl h) ?_;clear hK K;try simp only[lX]
     refine Late.done (by kernel_rfl) ?_ _
     go_end0
     have kk:Kp (Of (.slice ra lr.length rc)) X3 w1:=(ax.alloc _).drew.trans k2;have ks:=bI w1 Wb 3 (.slice a' (lr.length+1) c');have wW:∀g,(Value.slice a' (lr.length+1) c').ownBlock=some g→(Value.slice ra lr.length rc).ownBlock=some g∨X3.heap.size≤g:=fun g hg=>by
      rcases s2 with e|⟨g',e1,e2⟩
      ·exact .inl (by rw[←e];exact hg)
      ·rw[e1]at hg;simp only[Option.some.injEq]at hg;subst hg;exact .inr (aO (((Kp.refl (fun _=>False) X3).alloc _).drew).size e2)
     have hXs:=fP.kp.size;obtain⟨C,hC⟩:∃C:Nat→Prop,C=fun g=>((Value.slice ao ls.length ls.length).ownBlock=some g∨W1.heap.size≤g)∧(Value.slice a' (lr.length+1) c').ownBlock≠some g:=⟨_,rfl⟩
     have hC0:∀g,((Value.slice ao ls.length ls.length).ownBlock=some g∨W1.heap.size≤g)→¬Of (.slice ra lr.length rc) g:=fun g hg e=>by
      rcases hg with e'|e'
      ·exact hrl2 g e e'
      ·have:=H_ g e;omega
     have hC1:∀g,g<X3.heap.size→((Value.slice ao ls.length ls.length).ownBlock=some g∨W1.heap.size≤g)→C g:=fun g hlt hg=>by
      rw[hC];refine⟨hg,fun e=>?_⟩;rcases wW g e with e'|e'
      ·exact hC0 g hg e'
      ·omega
     have hCW:∀g,C g→¬g=Wb:=fun g hg e=>by
      rw[hC]at hg;rcases hg.1 with e'|e'
      ·exact hWl (by rw[←e];exact e')
      ·omega
     have hrow:∀(v:Value)(cs:List Value),Own X3 1 v cs.length cs→(∀g,v.ownBlock=some g→(Value.slice ao ls.length ls.length).ownBlock=some g∨W1.heap.size≤g)→(∀u∈cs,ji W1.heap.size X3 u m)→cs.length≤1000→rJ C (w1.setCell ⟨Wb,3,none⟩ (.slice a' (lr.length+1) c')) v cs m:=fun v cs ho hv hu hl=>
      ⟨af,(((ho.rowAt (fun g=>(Value.slice ao ls.length ls.length).ownBlock=some g∨W1.heap.size≤g) hv).weak).go kk hC0 hC1).go ks hCW (fun _ _ e=>e),fun u h=>(((hu u h).mark (C:=fun g=>(Value.slice ao ls.length ls.length).ownBlock=some g∨W1.heap.size≤g) (fun b hb _=>.inr hb)).go kk hC0 hC1).go ks hCW (fun _ _ e=>e)⟩
     have hwl:=yH.out;have hKR:Iy C (w1.setCell ⟨Wb,3,none⟩ (.slice a' (lr.length+1) c')) ⟨.slice ao ls.length ls.length,.slice JU (ls.length+1) JV,.slice JW (ls.length+2) JX,.slice JY (ls.length+3) JZ,ws,_,_,_,m⟩:=
      ⟨hrow _ ws (by rw[hwl];exact fP.VL) (fun g hg=>.inl hg) fP.VN af,hrow _ _ fP.ra.1 (fun g hg=>.inr (fP.ra.2.2 g hg).1) fP.ra.2.1 (by simp;omega),hrow _ _ fP.rb.1 (fun g hg=>.inr (fP.rb.2.2 g hg).1) fP.rb.2.1 (by simp;omega),hrow _ _ fP.rc.1 (fun g hg=>.inr (fP.rc.2.2 g hg).1) fP.rc.2.1 (by simp;omega)⟩
     rw[hC]at hKR;have hWr:¬(Value.slice ra lr.length rc).ownBlock=some Wb:=fun e=>by have:=hK.oF Wb e;rw[hK.rP]at this;cases this
     obtain⟨z1,z2,z3⟩:=hK.aaN (fun g hg=>(yI g hg).2) af (by have:=(fP.bw.kept kk hWr).set 3 (.slice a' (lr.length+1) c');simpa using this) (o2.kept ks (fun g hg e=>by
      rcases wW g hg with e'|e'
      ·exact hWr (by rw[←e];exact e')
      ·omega)) hKR (((fP.kp.mono (S':=fun k_1=>k_1=Wb∨Of (.slice ra lr.length rc) k_1∨Of (.slice ao ls.length ls.length) k_1) (fun i _ h=>.inr (.inr h))).then kk (fun i _ h=>.inr (.inl h))).then ks (fun i _ h=>.inl h)) (fun g hg=>(wW g hg).imp id (fun h=>af))
     refine Sq.mk _ _ _ li1 _ rfl z1 HL1.out (ZL.then z2 (fun b hb s=>?_)) (fun b hb hne=>?_)
     ·by_cases hO:O b=.no
      ·exact .inr (.inr (.inr hO))
      ·rw[NW b hb hO]at s;rcases s with s|s|s
       ·exact .inl s
       ·exact .inr (.inr (.inl s))
       ·have:=(yI b s).2;rw[NW b hb hO]at this;exact absurd this hO
     ·have e1:=NW b hb hne;rw[z3 b (aY hb ZL.size) (fun e=>hne (by rw[←e1];exact(yI b e).2)),e1]
def t_ (C:Nat→Prop)(w:World)(v:Value)(vs:List Value)(ls:List (List Int)):Prop:=(v=.slice none 0 0∧ls=[])∨∃Lb,v=.slice (some ⟨Lb,0,none⟩) ls.length ls.length∧iM C w Lb vs ls
theorem t_.shape {C:Nat→Prop}{w:World}{v:Value}{vs:List Value}{ls:List (List Int)}(h:t_ C w v vs ls):∃ao,v=.slice ao ls.length ls.length:=by
 rcases h with⟨rfl,e⟩|⟨Lb,rfl,-⟩
 ·exact⟨none,by rw[e];rfl⟩
 ·exact⟨_,rfl⟩
theorem t_.at_ {C:Nat→Prop}{w:World}{ao:Option Addr}{n c:Nat}{vs:List Value}{ls:List (List Int)}(h:t_ C w (.slice ao n c) vs ls)(k:Nat)(hk:k<ls.length):∃Lb va vc,ao=some ⟨Lb,0,none⟩∧w.cell? ⟨Lb,k,none⟩=some (.slice va ls[k].length vc)∧Own w 1 (.slice va ls[k].length vc) ls[k].length (ls[k].map I):=by
 rcases h with⟨-,e⟩|⟨Lb,e,hN⟩
 ·rw[e]at hk;simp at hk
 ·simp only[Value.slice.injEq]at e;have hv:k<vs.length:=by rw[hN.len];exact hk
  have ho:=hN.own k _ _ (ay hv) (ay hk);obtain⟨va,vc,LF,-⟩:=ho.shape;rw[LF]at ho;exact⟨Lb,va,vc,e.1,by rw[hN.blk.cell,ay hv,LF],ho⟩
theorem t_.ext {C:Nat→Prop}{w w':World}{v:Value}{vs:List Value}{ls:List (List Int)}(h:t_ C w v vs ls)(x:Ext w w'):t_ C w' v vs ls:=by
 rcases h with h|⟨Lb,e,hN⟩
 ·exact .inl h
 ·exact .inr ⟨Lb,e,hN.ext x⟩
theorem NY (C C':Nat→Prop)(w:World)(av bv:Value)(vsa vsb:List Value)(ls:List (List Int))(ha:t_ C w av vsa ls)(hb:t_ C' w bv vsb ls)(hn:ls.length≤100)(hln:∀l∈ls,l.length≤1000):
 Calls Tryz.prog 38 #[av,bv] w fun e w'=>e=.returned (.bool true)∧Ext w w':=by
 obtain⟨ao,rfl⟩:=ha.shape;obtain⟨bo,rfl⟩:=hb.shape;have hne:((ls.length:Int)==(ls.length:Int))=true:=aj;go_enter Tryz.func38,Tryz.ntmps38
 go_wp2_with fail
 go_loopw [5] (fun i wq=>∃k:Nat,k≤ls.length∧i=.int .i64 k∧Ext w wq) (fun i _=>ls.length-(intOf i).toNat)
 case atStart=>exact⟨0,aM _,rfl,Kp.refl _ _⟩
 case round=>
  obtain⟨k,hk,rfl,xk⟩:=hrel;by_cases hkl:k<ls.length
  ·have k0:(0:Int)≤(k:Int):=af;have k1:(k:Int)<(ls.length:Int):=af;obtain⟨La,va,vc,hao,ea,oa⟩:=ha.at_ k hkl;obtain⟨Lb,ua,uc,MG,eb,ob⟩:=hb.at_ k hkl;subst hao;subst MG;have hll:=hln ls[k] (aJ hkl);obtain⟨l,hle⟩:∃l,l=ls[k]:=⟨_,rfl⟩
   rw[←hle]at ea oa eb ob hll;clear hle;have ea':=xk.cell ea id;have eb':=xk.cell eb id;have hle2:((l.length:Int)==(l.length:Int))=true:=aj
   go_wp2_with fail
   go_quiet (fail);generalize hWf:World.drewN _ _=Wf;have xf:Ext w Wf:=by rw[←hWf];exact xk.drewN _
   clear hWf ea' eb'
   go_wp2_with fail
   go_loopw [6] (fun i wq=>∃j:Nat,j≤l.length∧i=.int .i64 j∧Ext w wq) (fun i _=>l.length-(intOf i).toNat)
   case atStart=>exact⟨0,aM _,rfl,xf⟩
   case round=>
    obtain⟨j,hj,rfl,xj⟩:=hrel;have ea':=xj.cell ea id;have eb':=xj.cell eb id;by_cases hjl:j<l.length
    ·have j0:(0:Int)≤(j:Int):=af;have j1:(j:Int)<(l.length:Int):=af;obtain⟨ga,ca,hea,-,-,hca⟩:=oa.at af;obtain⟨gb,cb,Dx,-,-,hcb⟩:=ob.at af;cases hea;cases Dx;have y1:w.cell? ⟨ga,j,none⟩=some (.int .i64 l[j]):=(hca j af).trans (by rw[aN,ay hjl];rfl);have y2:w.cell? ⟨gb,j,none⟩=some (.int .i64 l[j]):=(hcb j af).trans (by rw[aN,ay hjl];rfl);clear hca hcb;generalize l[j]=x at*;have z1:=xj.cell y1 id;have z2:=xj.cell y2 id;clear y1 y2;have hxx:(x==x)=true:=aj
     go_wp2_with fail
     go_quiet (fail)
     go_wp2_with fail
     exact⟨⟨j+1,af,by go_num,xj.drewN _⟩,by simp[intOf];omega⟩
    ·have j1:¬(j:Int)<(l.length:Int):=af
     go_wp2_with fail
     exact⟨⟨k+1,af,by go_num,xj⟩,by simp[intOf];omega⟩
  ·have k1:¬(k:Int)<(ls.length:Int):=af
   go_wp2_with fail
   go_ret;exact⟨rfl,xk⟩
def VY :List UInt8:=[67,79,76,49,1,3,5,1,1,97,1,3,4,3,120,209,171,200,0,11,67,79,76,49]
theorem afp :Pl.lC [[97]] [[[5,5,5]]]=true:=by decide+kernel
theorem Yq :Pl.parts [[97]] [[[5,5,5]]]=([67,79,76,49,1,3,5],[1,1,97,1,3,4,3,120,209,171,200]):=by decide+kernel
theorem Yr :Pl.write [[97]] [[[5,5,5]]]=(VY,0):=by
 unfold Pl.write;rw[afp,if_pos rfl,Yq];decide+kernel
theorem aez :((({data:=#[67,79,76,49,1,3,5,1,1,97,1,3,4,3,120,209,171,200,0,11,67,79,76,49]}:ByteArray).extract 4 7).toList==[1,3,5])=true:=by
 rw[ByteArray.toList_eq];decide+kernel
theorem Cw {w:World}{b:Nat}{cs:List Value}{e:TypeId}(h:bK w b cs e)(hm:cs.length≤1000):Rd w.heap.size w (.slice (some ⟨b,0,none⟩) cs.length cs.length) cs:=
 ⟨_,_,rfl,aK _,af,fun _=>⟨b,0,rfl,h.lt,fun j _=>by rw[Nat.zero_add,h.cell]⟩⟩
theorem VZ (w:World):Calls Tryz.prog 61 #[] w fun e w'=>e=.returned (.bool true)∧Ext w w':=by
 go_enter Tryz.func61,Tryz.ntmps61
 go_wp2_with fail
 have h1:=bK.bO w [.string ⟨#[97]⟩] 9;have h2:=bK.bO (w.alloc (.cells #[.string ⟨#[97]⟩] 9)) [.int .i64 5,.int .i64 5,.int .i64 5] 3;have h3:=bK.bO ((w.alloc (.cells #[.string ⟨#[97]⟩] 9)).alloc (.cells #[.int .i64 5,.int .i64 5,.int .i64 5] 3)) [.slice (some ⟨w.heap.size+1,0,none⟩) 3 3] 46;have h4:=bK.bO (((w.alloc (.cells #[.string ⟨#[97]⟩] 9)).alloc (.cells #[.int .i64 5,.int .i64 5,.int .i64 5] 3)).alloc (.cells #[.slice (some ⟨w.heap.size+1,0,none⟩) 3 3] 46)) [.slice (some ⟨w.heap.size+2,0,none⟩) 1 1] 51;have x4:Ext w ((((w.alloc (.cells #[.string ⟨#[97]⟩] 9)).alloc (.cells #[.int .i64 5,.int .i64 5,.int .i64 5] 3)).alloc (.cells #[.slice (some ⟨w.heap.size+1,0,none⟩) 3 3] 46)).alloc (.cells #[.slice (some ⟨w.heap.size+2,0,none⟩) 1 1] 51)):=(((ax.alloc _).alloc _).alloc _).alloc _;simp only[World.size_alloc]at h2 h3 h4;replace h1:=((h1.kept ((Kp.refl (fun _=>False) _).alloc (.cells #[.int .i64 5,.int .i64 5,.int .i64 5] 3)) id).kept ((Kp.refl (fun _=>False) _).alloc (.cells #[.slice (some ⟨w.heap.size+1,0,none⟩) 3 3] 46)) id).kept ((Kp.refl (fun _=>False) _).alloc (.cells #[.slice (some ⟨w.heap.size+2,0,none⟩) 1 1] 51)) id;replace h2:=(h2.kept ((Kp.refl (fun _=>False) _).alloc (.cells #[.slice (some ⟨w.heap.size+1,0,none⟩) 3 3] 46)) id).kept ((Kp.refl (fun _=>False) _).alloc (.cells #[.slice (some ⟨w.heap.size+2,0,none⟩) 1 1] 51)) id;replace h3:=h3.kept ((Kp.refl (fun _=>False) _).alloc (.cells #[.slice (some ⟨w.heap.size+2,0,none⟩) 1 1] 51)) id;simp only[Nat.add_assoc,Nat.reduceAdd]at h1 h2 h3 h4 x4⊢;generalize(((w.alloc _).alloc _).alloc _).alloc _=W4 at*;have r1:h_ W4.heap.size W4 (.slice (some ⟨w.heap.size,0,none⟩) 1 1) [⟨#[97]⟩]:=Cw h1 aj;have r2:jD W4.heap.size W4 (.slice (some ⟨w.heap.size+1,0,none⟩) 3 3) [5,5,5]:=Cw h2 aj;have r3:ql W4.heap.size W4 (.slice (some ⟨w.heap.size+2,0,none⟩) 1 1) [[5,5,5]]:=⟨[.slice (some ⟨w.heap.size+1,0,none⟩) 3 3],Cw h3 aj,rfl,fun i x xs hx hxs=>by
  match i with
  |0=>simp at hx hxs;subst hx;subst hxs;exact r2
  |i+1=>simp at hx⟩
 have r4:jy W4.heap.size W4 (.slice (some ⟨w.heap.size+3,0,none⟩) 1 1) [[[5,5,5]]]:=⟨[.slice (some ⟨w.heap.size+2,0,none⟩) 1 1],Cw h4 aj,rfl,fun i x xs hx hxs=>by
  match i with
  |0=>simp at hx hxs;subst hx;subst hxs;exact r3
  |i+1=>simp at hx⟩
 have hwr:=J5 W4.heap.size W4 _ _ [⟨#[97]⟩] [[[5,5,5]]] r1 r4 (aK _);rw[show([⟨#[97]⟩]:List ByteArray).map bytesOf=[[97]]from rfl,Yr]at hwr;refine hwr.mono ?_;rintro e w5 ⟨rfl,x5⟩;clear hwr r1 r2 r3 r4 h1 h2 h3 h4;show _;simp only[VY]
 go_wp2_with fail
 go_ret;refine⟨?_,x4.trans x5⟩;show Ending.returned (.bool _)=_;rw[aez]
theorem N7 :(Pl.kG 24 [[97]] 1 2 2 0).asked.map Pl.xL=[(1,18,6)]:=by decide+kernel
theorem Yt :Pl.ni 24 1 2 2 0=true:=by decide+kernel
theorem V3 (w:World):Calls Tryz.prog 11 #[] w fun e w'=>e=.returned (.bool true)∧Ext w w':=by
 have hop:Hid (∀u:World,bK u w.heap.size [.string ⟨#[97]⟩] 9→Calls Tryz.prog 22 #[.int .i64 24,.slice (some ⟨w.heap.size,0,none⟩) 1 1,tK 1 2 2 0] u fun e w'=>Ext u w'∧∃X,e=.returned (.tuple #[PtrTo X 0,.int .i64 0])∧Calls Tryz.prog 23 #[PtrTo X 0] w' fun e w''=>∃v,e=.returned v∧Own w'' 3 v 1 (jI (1,18,6))∧Ext w' w''):=fun u hu=>by
  have hr:h_ u.heap.size u (.slice (some ⟨w.heap.size,0,none⟩) 1 1) [⟨#[97]⟩]:=Cw hu aj;refine(Bq u.heap.size u _ [⟨#[97]⟩] 24 1 2 2 0 hr).mono ?_;rintro e w1 ⟨x1,h⟩;refine⟨x1,?_⟩;rcases h with⟨hbad,_⟩|⟨_,X,P,col,rfl,hx,_⟩
  ·rw[Yt]at hbad;cases hbad
  ·refine⟨X,rfl,?_⟩;have hl:(Pl.kG 24 [[97]] 1 2 2 0).asked.length=1:=by
    have:=congrArg List.length N7;simpa using this
   refine(Fw col w1 X P (Pl.kG 24 [[97]] 1 2 2 0) hx (by rw[hl];omega)).mono ?_;rintro e w2 ⟨v,rfl,o2,x2,_⟩;rw[VF,N7,hl]at o2;exact⟨v,rfl,by simpa using o2,x2⟩
 have hB:Hid (bK (w.alloc (.cells #[.string ⟨#[97]⟩] 9)) w.heap.size [.string ⟨#[97]⟩] 9):=bK.bO w [.string ⟨#[97]⟩] _;go_enter Tryz.func11,Tryz.ntmps11
 go_wp2_with fail
 refine((bH hop) _ (bH hB)).mono ?_;rintro e w1 ⟨x1,X,rfl,zS⟩;have HA:=hide zS;clear zS
 go_wp2_with fail
 refine(bH HA).mono ?_;rintro e w2 ⟨v,rfl,o2,x2⟩;obtain⟨g,cap,rfl,-,-,hc⟩:=o2.at af;have d0:=hc 0 af;have d1:=hc 1 af;have d2:=hc 2 af;simp only[jI,I,au]at d0 d1 d2;clear hc o2
 go_wp2_with fail
 go_ret;refine⟨?_,((ax.alloc _).trans x1).trans x2⟩;first|rfl|trace_state
end Go.Proofs.YthicgffppmbamaaGreat
