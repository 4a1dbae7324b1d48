import Derived.Deep.MidRow
import Derived.Deep.RegionHeld3
import Derived.Test.YthicgffppmbamaaGreatP1
set_option maxRecDepth 100000
set_option maxHeartbeats 16000000
namespace Go.Proofs.YthicgffppmbamaaGreat
open Go.RowKit
theorem K7 (s:ByteArray):tx (bytesOf s)=.string s:=by simp[tx,bytesOf]
theorem CW :(Tryz.prog.info? 9).map (fun i=>(i.zero,i.size,i.bytes))=some (some (.string ByteArray.empty),1,16):=by kernel_rfl
theorem Own.dV {w:World}{size n:Nat}{v:Value}{cs:List Value}(h:Own w size v n cs)(o:Obj):Own (w.alloc o) size v n cs:=h.ext (ax.alloc o)
theorem WN (B0:Nat)(w:World)(v:Value)(ss:List ByteArray)(hr:h_ B0 w v ss):
 Calls Tryz.prog 79 #[v] w fun e w'=>∃nv,e=.returned nv∧Own w' 1 nv (Pl.dU (ss.map bytesOf)).length ((Pl.dU (ss.map bytesOf)).map tx)∧Ext w w'∧∀g,nv.ownBlock=some g→w.heap.size≤g:=by
 have hrn:=zb B0 w v ss hr;have hr0:=hr;obtain⟨ao,cap,rfl,h1,h2,h3⟩:=h_.open hr;cases hok:Pl.fJ (ss.map bytesOf)with
 |false=>
  have e:Pl.dU (ss.map bytesOf)=[]:=by unfold Pl.dU;rw[if_neg (by rw[hok];simp)]
  rw[e];rw[hok]at hrn;have HN:=hide hrn;clear hrn hok e h3 hr hr0;go_enter Tryz.func79,Tryz.ntmps79
  go_wp2_with fail
  refine(bH HN).mono ?_;rintro e w ⟨rfl,rfl⟩
  go_wp2_with fail
  go_ret;exact⟨_,rfl,Own.nil _ _,Kp.refl _ _,fun g hg=>by simp[Value.ownBlock]at hg⟩
 |true=>
  have e:Pl.dU (ss.map bytesOf)=ss.map bytesOf:=by unfold Pl.dU;rw[if_pos hok]
  rw[e];have hnm:=(Pl.fD _).1 hok;rw[aQ]at hnm;have hsz:∀s∈ss,s.size≤8:=fun s hs=>by
   have:=hnm.2.2.1;rw[show ss.length=(ss.map bytesOf).length from aj,aX,List.all_eq_true]at this;have:=(Pl.nQ _).1 (this (bytesOf s) (List.mem_map.2 ⟨s,hs,rfl⟩));rw[gX]at this;exact this.2
  obtain⟨l1,l2,-⟩:=hnm;rw[hok]at hrn;have HN:=hide hrn;clear hrn hok e;go_enter Tryz.func79,Tryz.ntmps79
  go_wp2_with fail
  refine(bH HN).mono ?_;rintro e w ⟨rfl,rfl⟩;obtain⟨b,off,rfl,hb,hc⟩:=h3 af
  go_wp2_with fail
  go_loopw [3,11] (fun t i wr=>∃k:Nat,k≤ss.length∧i=.int .i64 k∧Own wr 1 t k (((ss.take k).map bytesOf).map tx)∧Ext w wr∧∀g,t.ownBlock=some g→w.heap.size≤g) (fun _ i _=>ss.length-(intOf i).toNat)
  case atStart=>exact⟨0,aM _,rfl,Own.nil _ _,Kp.refl _ _,fun g hg=>by simp[Value.ownBlock]at hg⟩
  case round=>
   obtain⟨k,hk,rfl,ho,hx,hg⟩:=hrel;by_cases hkl:k<ss.length
   ·have hck:=hx.cell (hc k hkl) id;have Be:ss.getD k ByteArray.empty=ss[k]:=by rw[aC,ay hkl];rfl
    rw[Be]at hck;have hsk:=hsz ss[k] (aJ hkl);have HT:Hid (((ss.take (k+1)).map bytesOf).map tx=((ss.take k).map bytesOf).map tx++[.string ss[k]]):=by
     show _=_;rw[aF hkl,a_,a_,List.map_singleton,List.map_singleton,K7]
    have hz:=hx.size;generalize ss[k]=y at*;clear hc h3 Be hr hr0
    go_wp2_with fail
    refine(Ey y _ af).mono ?_;rintro e w2 ⟨rfl,x2⟩;have ho2:=ho.ext x2;obtain⟨ta,tc,rfl,_⟩:=ho.shape
    go_wp2_with (at_builtin;go_must (refine dI _ rfl _ _ 22 22 rfl 9 (.string ByteArray.empty) 1 16 Tryz.underlying22 CW rfl _ _ _ rfl (ho2.dV _) _ rfl 1 [.string y] (uJ _ _ _ Tryz.underlying22 _ [.string y] rfl (by simp[Value.oneCell'])) af af ?_);intro v3 w3 o3 k3 s3)
    have x3:Ext w w3:=((hx.trans x2).alloc _).then k3 (fun i hi e=>by have:=hg i e;omega)
    go_roundw
    case rel=>exact⟨k+1,af,by go_num,by rw[HT.out];exact o3,x3,fun g e=>by
     rcases eT s3 e with e'|e'
     ·exact hg g e'
     ·have:=x2.size;simp at e';omega⟩
    case measure=>simp[intOf];omega
   ·obtain rfl:k=ss.length:=af;rw[aX]at ho
    go_wp2_with fail
    go_ret;exact⟨_,rfl,by simpa using ho,hx,hg⟩
abbrev tK (W T R G:Int):Value:=.agg #[.int .i64 W,.int .i64 T,.int .i64 R,.int .i64 G]
theorem vk (w:World)(W T R G:Int):
 Calls Tryz.prog 78 #[tK W T R G] w fun e w'=>e=.returned (.bool (Pl.vW W T R G))∧Ext w w':=by
 by_cases h1:¬(1≤W)
 ·have e:Pl.vW W T R G=false:=by rw[←Bool.not_eq_true,Pl.nC];omega
  rw[e];clear e;go_enter Tryz.func78,Tryz.ntmps78;go_wp2;go_ret;exact⟨rfl,ax.alloc _⟩
 by_cases h2:¬(W≤4)
 ·have e:Pl.vW W T R G=false:=by rw[←Bool.not_eq_true,Pl.nC];omega
  rw[e];clear e;go_enter Tryz.func78,Tryz.ntmps78;go_wp2;go_ret;exact⟨rfl,ax.alloc _⟩
 by_cases h3:¬(1≤T)
 ·have e:Pl.vW W T R G=false:=by rw[←Bool.not_eq_true,Pl.nC];omega
  rw[e];clear e;go_enter Tryz.func78,Tryz.ntmps78;go_wp2;go_ret;exact⟨rfl,ax.alloc _⟩
 by_cases h4:¬(T≤4)
 ·have e:Pl.vW W T R G=false:=by rw[←Bool.not_eq_true,Pl.nC];omega
  rw[e];clear e;go_enter Tryz.func78,Tryz.ntmps78;go_wp2;go_ret;exact⟨rfl,ax.alloc _⟩
 by_cases h5:¬(1≤R)
 ·have e:Pl.vW W T R G=false:=by rw[←Bool.not_eq_true,Pl.nC];omega
  rw[e];clear e;go_enter Tryz.func78,Tryz.ntmps78;go_wp2;go_ret;exact⟨rfl,ax.alloc _⟩
 by_cases h6:¬(R≤20)
 ·have e:Pl.vW W T R G=false:=by rw[←Bool.not_eq_true,Pl.nC];omega
  rw[e];clear e;go_enter Tryz.func78,Tryz.ntmps78;go_wp2;go_ret;exact⟨rfl,ax.alloc _⟩
 by_cases h7:¬(0≤G)
 ·have e:Pl.vW W T R G=false:=by rw[←Bool.not_eq_true,Pl.nC];omega
  rw[e];clear e;go_enter Tryz.func78,Tryz.ntmps78;go_wp2;go_ret;exact⟨rfl,ax.alloc _⟩
 by_cases h8:¬(G≤32)
 ·have e:Pl.vW W T R G=false:=by rw[←Bool.not_eq_true,Pl.nC];omega
  rw[e];clear e;go_enter Tryz.func78,Tryz.ntmps78;go_wp2;go_ret;exact⟨rfl,ax.alloc _⟩
 have e:Pl.vW W T R G=true:=by rw[Pl.nC];omega
 rw[e];clear e;go_enter Tryz.func78,Tryz.ntmps78;go_wp2;go_ret;exact⟨rfl,ax.alloc _⟩
theorem bK.setCells {b:Nat}{e:TypeId}:∀(vs:List Value)(o:Nat)(w:World)(cs:List Value),bK w b cs e→o+vs.length≤cs.length→bK (w.setCells b o vs) b (cs.take o++vs++cs.drop (o+vs.length)) e
 |[],o,w,cs,h,_=>by simpa[World.setCells]using h
 |v::r,o,w,cs,h,hl=>by
  simp only[aR]at hl;have h1:=h.set o v;have:=bK.setCells r (o+1) _ _ h1 (by rw[List.length_set];omega);have e1:(cs.set o v).take (o+1)=cs.take o++[v]:=by
   rw[aF (by rw[List.length_set];omega),List.getElem_set_self,List.take_set_of_le (aK _)]
  have e2:(cs.set o v).drop (o+1+r.length)=cs.drop (o+(r.length+1)):=by
   rw[List.drop_set_of_lt af]
   congr 1
   omega
  rw[e1,e2]at this;simpa[World.setCells,aW]using this
theorem oI (b:Nat):∀(vs:List Value)(o:Nat)(w:World),Kp (fun k=>k=b) w (w.setCells b o vs)
 |[],_,w=>Kp.refl _ w
 |v::r,o,w=>by
  have h1:Kp (fun k=>k=b) w (w.setCell ⟨b,o,none⟩ v):=bI w b o v;exact h1.trans (oI b r (o+1) _)
theorem bK.there {w:World}{b:Nat}{cs:List Value}{e:TypeId}(h:bK w b cs e)(n:Nat)(hn:n≤cs.length):w.there b 0 n:=fun j hj=>
 ⟨by rw[Nat.zero_add,h.cell j,ay af];rfl,by rw[Nat.zero_add];exact h.free j⟩
theorem WO :(Tryz.prog.info? 142).map (·.size)=some 19:=by kernel_rfl
theorem pY (col:bU)(w:World)(P:Nat)(cs:List Value)(hl:cs.length=19)(why:Nat)(aie:why≠0)(hb:bK w P cs 142)(hc:col P=.scan)(ht:∀k,w.heap.size≤k→col k=.out):
 Calls Tryz.prog 82 #[PtrTo P 0,.int .i64 why] w fun e w'=>e=.returned (.tuple #[])∧fA col w' P (Pl.ended why) [] [] (.slice none 0 0) (.slice none 0 0) (.slice none 0 0) (.slice none 0 0) (.slice none 0 0)∧Kp (fun k=>k=P) w w':=by
 have hth:=hb.there 19 af;have hone:#[Value.int .i64 why,.int .i64 0,.slice none 0 0,.int .i64 0,.int .i64 0,.int .i64 0,.int .i64 0,.int .i64 0,.nilFunc,.int .i64 0,.slice none 0 0,.slice none 0 0,.slice none 0 0,.int .i64 0,.int .i64 0,.slice none 0 0,.int .i64 0,.int .i64 0,.int .i64 0].all (·.oneCell')=true:=by simp[Value.oneCell']
 have HO:=hide hone;have HT:=hide hth;clear hone hth;have hB:=bK.setCells [.int .i64 why,.int .i64 0,.slice none 0 0,.int .i64 0,.int .i64 0,.int .i64 0,.int .i64 0,.int .i64 0,.nilFunc,.int .i64 0,.slice none 0 0,.slice none 0 0,.slice none 0 0,.int .i64 0,.int .i64 0,.slice none 0 0,.int .i64 0,.int .i64 0,.int .i64 0] 0 w cs hb (by simp[hl]);have hK:=oI P [.int .i64 why,.int .i64 0,.slice none 0 0,.int .i64 0,.int .i64 0,.int .i64 0,.int .i64 0,.int .i64 0,.nilFunc,.int .i64 0,.slice none 0 0,.slice none 0 0,.slice none 0 0,.int .i64 0,.int .i64 0,.slice none 0 0,.int .i64 0,.int .i64 0,.int .i64 0] 0 w;have hd:cs.drop 19=[]:=List.drop_eq_nil_of_le af;simp only[List.take_zero,List.nil_append,aR,List.length_nil,Nat.zero_add,Nat.reduceAdd,hd,List.append_nil]at hB;clear hd;have HB:=hide hB;have HK:=hide hK;clear hB hK;go_enter Tryz.func82,Tryz.ntmps82
 go_wp2_with (refine wpList_store_mid rfl 142 _ _ rfl P 0 _ rfl rfl (bH HT) WO (bH HO) ?_)
 go_end0
 have hB:=bH HB;have hK:=bH HK;clear HB HK;generalize w.setCells P 0 _=W1 at*;have hg:fA col W1 P (Pl.ended why) [] [] (.slice none 0 0) (.slice none 0 0) (.slice none 0 0) (.slice none 0 0) (.slice none 0 0):=by
  refine⟨?_,hc,fun k hk=>ht k (aO hK.size hk),bM.nil _ _ _ _,Own.nil _ _,fun g hg=>by simp[Value.ownBlock]at hg,⟨rfl,fun i p q a=>by simp at a⟩,Own.nil _ _,fun g hg=>by simp[Value.ownBlock]at hg,⟨rfl,fun i p q a=>by simp at a⟩,aj,pW.nil _ _,jV.nil _ _ _⟩;have:dw P (Pl.ended why) (.slice none 0 0) (.slice none 0 0) (.slice none 0 0) (.slice none 0 0) (.slice none 0 0)=[.int .i64 why,.int .i64 0,.slice none 0 0,.int .i64 0,.int .i64 0,.int .i64 0,.int .i64 0,.int .i64 0,.nilFunc,.int .i64 0,.slice none 0 0,.slice none 0 0,.slice none 0 0,.int .i64 0,.int .i64 0,.slice none 0 0,.int .i64 0,.int .i64 0,.int .i64 0]:=by
   simp[dw,Pl.ended,lT,I,aie]
  rw[this];exact hB
 exact⟨rfl,hg,hK⟩
theorem Oz (w:World)(n:Int)(f:Value)(hf:∃g x,f=.func g x #[]):
 Calls Tryz.prog 80 #[.int .i64 n,f] w fun e w'=>e=.returned (.agg #[.int .i64 n,f,.int .i64 0,.slice none 0 0,.slice none 0 0])∧Ext w w':=by
 obtain⟨g,x,rfl⟩:=hf;go_enter Tryz.func80,Tryz.ntmps80;go_wp2;refine bodyPost_ret (v:=.agg #[.int .i64 n,.func g x #[],.int .i64 0,.slice none 0 0,.slice none 0 0]) (by simp[results,Tryz.results80,go_sem]) rfl ⟨rfl,?_⟩;exact ax.alloc _
theorem Qw (w:World)(v:Value)(size W T R G:Int)(hbad:Pl.ni size W T R G=false):
 Calls Tryz.prog 53 #[.int .i64 size,v,tK W T R G] w fun e w'=>e=.returned (.tuple #[.pointer none,.int .i64 2])∧Ext w w':=by
 have hrs:=fun u=>vk u W T R G
 have HS:=hide hrs;clear hrs;by_cases h0:size<0
 ·clear hbad;go_enter Tryz.func53,Tryz.ntmps53
  go_wp2_with fail
  go_ret2
  exact⟨rfl,ax.alloc _⟩
 by_cases h1:4000<size
 ·clear hbad;go_enter Tryz.func53,Tryz.ntmps53
  go_wp2_with fail
  go_ret2
  exact⟨rfl,ax.alloc _⟩
 have e:Pl.vW W T R G=false:=by
  unfold Pl.ni at hbad;rw[aH (by omega:(0:Int)≤size),aH (by omega:size≤4000)]at hbad;simpa using hbad
 rw[e]at HS;clear hbad e;go_enter Tryz.func53,Tryz.ntmps53
 go_wp2_with fail
 refine((bH HS) _).mono ?_;rintro e w1 ⟨rfl,x1⟩
 go_wp2_with fail
 go_ret2
 exact⟨rfl,(ax.alloc _).trans x1⟩
theorem bM.weak {C:Nat→Prop}{w:World}{size n:Nat}{v:Value}{cs:List Value}(h:bM C true w size v n cs):bM C false w size v n cs:=by
 obtain⟨hl,ao,cap,rfl,h1,h3⟩:=h;refine⟨hl,ao,cap,rfl,h1,fun hp=>?_⟩;obtain⟨b,off,rfl,hb,hlt,hc,hf⟩:=h3 hp;exact⟨b,off,rfl,hb,hlt,hc,fun h=>by cases h⟩
theorem K8 :(Tryz.prog.info? 136).map (·.size)=some 5:=by kernel_rfl
def vZ (P:Nat)(nv:Value):bU:=fun k=>if k=P then .scan else if nv.ownBlock=some k then .ro else .out
theorem Z_ {w:World}{P:Nat}{m:Pl.Sc}{nv:Value}(hb:bK w P (dw P m nv (.slice none 0 0) (.slice none 0 0) (.slice none 0 0) (.slice none 0 0)) 142)(hn:Own w 1 nv m.want.length (m.want.map tx))(hne:nv.ownBlock≠some P)(ha:m.asked=[])(hw:m.waiting=[])(hh:m.ahead=[])(hg:m.rows.groups=[]):
 fA (vZ P nv) w P m [] [] nv (.slice none 0 0) (.slice none 0 0) (.slice none 0 0) (.slice none 0 0):=by
 have hlt:=hb.lt;refine⟨hb,by simp[vZ],fun k hk=>?_,(hn.rowAt _ (fun g hg=>?_)).weak,by rw[ha];exact Own.nil _ _,fun g hg=>by simp[Value.ownBlock]at hg,⟨by rw[ha];rfl,fun i p q a=>by simp at a⟩,by rw[hw];exact Own.nil _ _,fun g hg=>by simp[Value.ownBlock]at hg,⟨by rw[hw];rfl,fun i p q a=>by simp at a⟩,aj,by rw[hh];exact pW.nil _ _,by rw[hg];exact jV.nil _ _ _⟩
 ·unfold vZ;rw[if_neg af,if_neg (fun e=>by have:=hn.lt e;omega)]
 ·show vZ P nv g=.ro;unfold vZ;rw[if_neg (fun e=>hne (by rw[←e];exact hg)),if_pos hg]
theorem Tg (B0:Nat)(w:World)(v:Value)(ss:List ByteArray)(size W T R G:Int)(hr:h_ B0 w v ss)(hok:Pl.ni size W T R G=true):
 Calls Tryz.prog 53 #[.int .i64 size,v,tK W T R G] w fun e w'=>∃P col,e=.returned (.tuple #[PtrTo P 0,.int .i64 0])∧iW col w' P (Pl.kG size.toNat (ss.map bytesOf) W.toNat T.toNat R.toNat G.toNat)∧Ext w w'∧∀k,k<w.heap.size→col k=.out:=by
 have hk:0≤size∧size≤4000∧Pl.vW W T R G=true:=by
  unfold Pl.ni at hok;simp only[Bool.and_eq_true,decide_eq_true_eq]at hok;exact⟨hok.1.1,hok.1.2,hok.2⟩
 obtain⟨h0,h1,h2⟩:=hk;obtain⟨⟨w1,w2⟩,⟨t1,t2⟩,⟨r1,r2⟩,g1,g2⟩:=(Pl.nC _ _ _ _).1 h2;have hrs:=fun u=>vk u W T R G
 rw[h2]at hrs;have HS:=hide hrs;have hkp:=fun u(hu:Ext w u)=>WN B0 u v ss (hr.kept hu (fun _ f=>f.elim))
 have HK:=hide hkp;clear hrs hok h2 hkp;obtain⟨ao,cap,rfl,n1,n2,-⟩:=h_.open hr;clear hr;go_enter Tryz.func53,Tryz.ntmps53
 go_wp2_with fail
 refine((bH HS) _).mono ?_;rintro e u1 ⟨rfl,x1⟩;have IZ:Ext w u1:=(ax.alloc _).trans x1;have q0:u1.cell? ⟨w.heap.size,0,none⟩=some (.int .i64 W):=x1.cell (World.cell?_alloc_new w _ _ 0) id;have q1:u1.cell? ⟨w.heap.size,1,none⟩=some (.int .i64 T):=x1.cell (World.cell?_alloc_new w _ _ 1) id;have q2:u1.cell? ⟨w.heap.size,2,none⟩=some (.int .i64 R):=x1.cell (World.cell?_alloc_new w _ _ 2) id;have q3:u1.cell? ⟨w.heap.size,3,none⟩=some (.int .i64 G):=x1.cell (World.cell?_alloc_new w _ _ 3) id
 go_wp2_with fail
 go_region_held3 (fun u=>u.cell? ⟨w.heap.size,0,none⟩=some (.int .i64 W)∧u.cell? ⟨w.heap.size,1,none⟩=some (.int .i64 T)∧u.cell? ⟨w.heap.size,2,none⟩=some (.int .i64 R)∧u.cell? ⟨w.heap.size,3,none⟩=some (.int .i64 G)) (first|exact⟨x2.cell q0 id,x2.cell q1 id,x2.cell q2 id,x2.cell q3 id⟩|exact⟨((Kp.refl (fun _=>False) u2).alloc _).cell (x2.cell q0 id) id,((Kp.refl (fun _=>False) u2).alloc _).cell (x2.cell q1 id) id,((Kp.refl (fun _=>False) u2).alloc _).cell (x2.cell q2 id) id,((Kp.refl (fun _=>False) u2).alloc _).cell (x2.cell q3 id) id⟩|go_keep) (first|(go_at_call 79;refine((bH HK) _ (IZ.trans (lJ _))).mono ?_;rintro e u2 ⟨nv,rfl,o2,x2,g2'⟩;obtain⟨na,nc,rfl,_⟩:=o2.shape)|fail)
 all_goals
  have z1:=x2.cell q1 id;have hB3:=bK.bO u2 [.int .i64 0,.int .i64 size,.slice na (Pl.dU (ss.map bytesOf)).length nc,.int .i64 W,.int .i64 T,.int .i64 R,.int .i64 G,.int .i64 0,.nilFunc,.int .i64 0,.slice none 0 0,.slice none 0 0,.slice none 0 0,.int .i64 0,.int .i64 0,.slice none 0 0,.int .i64 0,.int .i64 0,.int .i64 0] 142;have x23:Ext u2 (u2.alloc (.cells #[.int .i64 0,.int .i64 size,.slice na (Pl.dU (ss.map bytesOf)).length nc,.int .i64 W,.int .i64 T,.int .i64 R,.int .i64 G,.int .i64 0,.nilFunc,.int .i64 0,.slice none 0 0,.slice none 0 0,.slice none 0 0,.int .i64 0,.int .i64 0,.slice none 0 0,.int .i64 0,.int .i64 0,.int .i64 0] 142)):=ax.alloc _;have y1:=x23.cell z1 id;have Bj:∀g,(Value.slice na (Pl.dU (ss.map bytesOf)).length nc).ownBlock=some g→g<u2.heap.size:=fun g hg=>o2.lt hg
  have qB:Ext w u2:=(IZ.trans (lJ _)).trans x2;have o3:=o2.ext x23;have hwP:=qB.size;clear q0 q1 q2 q3 z1 o2;generalize u2.heap.size=P at*;generalize u2.alloc _=U3 at*;have HP:=hide Bj;clear Bj
  go_wp2_with fail
  refine(Oz _ _ _ ⟨_,_,rfl⟩).mono ?_;rintro e u4 ⟨rfl,x4⟩;have hB4:=hB3.kept x4 id;have o4:=o3.ext x4;have hth:u4.there P 7 5:=fun j hj=>⟨by rw[hB4.cell,ay (by simp;omega)];rfl,hB4.free _⟩
  have HT:=hide hth;have hone:#[Value.int .i64 T,tC P,.int .i64 0,.slice none 0 0,.slice none 0 0].all (·.oneCell')=true:=by simp[Value.oneCell']
  have HO:=hide hone;have hB5:=bK.setCells [Value.int .i64 T,tC P,.int .i64 0,.slice none 0 0,.slice none 0 0] 7 u4 _ hB4 aj;have k5:=oI P [Value.int .i64 T,tC P,.int .i64 0,.slice none 0 0,.slice none 0 0] 7 u4;have o5:=o4.kept k5 (fun g hg e=>by have:=(bH HP) g hg;omega);have x45:Ext w (u4.setCells P 7 [Value.int .i64 T,tC P,.int .i64 0,.slice none 0 0,.slice none 0 0]):=((qB.trans x23).trans x4).then k5 (fun i hi e=>af);have hR:fA (vZ P (.slice na (Pl.dU (ss.map bytesOf)).length nc)) (u4.setCells P 7 [Value.int .i64 T,tC P,.int .i64 0,.slice none 0 0,.slice none 0 0]) P {size:=size.toNat,want:=Pl.dU (ss.map bytesOf),win:=W.toNat,tries:=T.toNat,dh:=R.toNat,gap:=G.toNat} [] [] (.slice na (Pl.dU (ss.map bytesOf)).length nc) (.slice none 0 0) (.slice none 0 0) (.slice none 0 0) (.slice none 0 0):=by
   refine Z_ ?_ o5 (fun e=>by have:=(bH HP) P e;omega) rfl rfl rfl rfl;have ec:dw P {size:=size.toNat,want:=Pl.dU (ss.map bytesOf),win:=W.toNat,tries:=T.toNat,dh:=R.toNat,gap:=G.toNat} (.slice na (Pl.dU (ss.map bytesOf)).length nc) (.slice none 0 0) (.slice none 0 0) (.slice none 0 0) (.slice none 0 0)=[.int .i64 0,.int .i64 size,.slice na (Pl.dU (ss.map bytesOf)).length nc,.int .i64 W,.int .i64 T,.int .i64 R,.int .i64 G,.int .i64 T,tC P,.int .i64 0,.slice none 0 0,.slice none 0 0,.slice none 0 0,.int .i64 0,.int .i64 0,.slice none 0 0,.int .i64 0,.int .i64 0,.int .i64 0]:=by
    simp only[dw,lT,I,if_true,Int.toNat_of_nonneg h0,Int.toNat_of_nonneg (by omega:0≤W),Int.toNat_of_nonneg (by omega:0≤T),Int.toNat_of_nonneg (by omega:0≤R),Int.toNat_of_nonneg g1,Int.natCast_zero]
   rw[ec];exact hB5
  have hout:∀k,k<w.heap.size→vZ P (.slice na (Pl.dU (ss.map bytesOf)).length nc) k=.out:=fun k hk=>by
   unfold vZ;rw[if_neg af,if_neg (fun e=>by have:=g2' k e;have:=IZ.size;have:u1.drew.heap.size=u1.heap.size:=rfl;omega)]
  have HR:=hide hR;have HX:=hide x45;have HU:=hide hout;clear hth hone hB5 k5 o5 o4 hB4 hB3 o3 y1 x45 hR hout g2';by_cases aif:size<10
  ·have em:Pl.kG size.toNat (ss.map bytesOf) W.toNat T.toNat R.toNat G.toNat=Pl.ended 2:=by unfold Pl.kG;rw[if_pos af]
   have EM:=hide em;clear em
   go_wp2_with (refine wpList_store_mid rfl 136 _ _ rfl P 7 _ rfl rfl (bH HT) K8 (bH HO) ?_)
   refine(pY _ _ P _ rfl 2 (by decide) (bH HR).blk (bH HR).inn.cB (bH HR).inn.top).mono ?_;rintro e u6 ⟨rfl,r6,k6⟩
   go_wp2_with fail
   go_ret2
   exact⟨P,_,rfl,by rw[bH EM];exact r6.is,(bH HX).then k6 (fun i hi e=>af),bH HU⟩
  ·have em:Pl.kG size.toNat (ss.map bytesOf) W.toNat T.toNat R.toNat G.toNat=Pl.oQ {size:=size.toNat,want:=Pl.dU (ss.map bytesOf),win:=W.toNat,tries:=T.toNat,dh:=R.toNat,gap:=G.toNat} (size-6).toNat (6:Int).toNat .tail:=by
    unfold Pl.kG;rw[if_neg af,show(size-6).toNat=size.toNat-6 from af];rfl
   have EM:=hide em;clear em
   go_wp2_with (refine wpList_store_mid rfl 136 _ _ rfl P 7 _ rfl rfl (bH HT) K8 (bH HO) ?_)
   refine(x_ _ _ P _ _ _ .tail _ _ _ _ _ _ _ _ (bH HR) rfl ⟨_,_,rfl⟩ aj aj af af af).mono ?_;rintro e u6 ⟨rfl,c6,p6,yc,r6,g6⟩
   go_wp2_with fail
   go_ret2
   refine⟨P,c6,rfl,by rw[bH EM];exact r6.is,(bH HX).then g6.kept (fun i hi e=>e ((bH HU) i hi)),fun k hk=>?_⟩;rw[g6.same k (aY hk (bH HX).size)];exact(bH HU) k hk
theorem jB (s:Nat):∀(L:List (List Value)),(∀e∈L,e.length=s)→∀(i j:Nat),j<s→∀(e:List Value),L[i]?=some e→L.flatten[i*s+j]?=e[j]?
 |[],_,i,j,_,e,he=>by simp at he
 |x::r,h,0,j,hj,e,he=>by
  simp at he;subst he;rw[List.flatten_cons,aS (by rw[h x aj];omega)];simp
 |x::r,h,i+1,j,hj,e,he=>by
  simp at he;have hx:=h x aj;rw[List.flatten_cons,aP (by rw[hx,Nat.add_mul];omega),hx];rw[show(i+1)*s+j-s=i*s+j by rw[Nat.add_mul];omega];exact jB s r (fun e he=>h e (by simp[he])) i j hj e he
theorem yg (ps:List Nat)(l:List (Nat×Pl.Part))(hl:ps.length=l.length)(i j:Nat)(hi:i<l.length)(hj:j<5):(gu ps l)[i*5+j]?=(gN (ps[i]'af) l[i])[j]?:=by
 unfold gu;refine jB 5 _ (fun e he=>?_) i j hj _ ?_
 ·rw[List.mem_iff_getElem]at he;obtain⟨k,hk,rfl⟩:=he;rw[List.getElem_zipWith];rfl
 ·rw[ay (by simp;omega),List.getElem_zipWith]
def lK (q:Nat×Pl.Part):List Value:=[I q.1,I (q.2.place+q.2.data.length:Nat),I (q.2.length-q.2.data.length:Nat)]
theorem vQ :(Tryz.prog.info? 72).map (fun i=>(i.zero,i.size,i.bytes))=some (some (.agg #[.int .i64 0,.int .i64 0,.int .i64 0]),3,24):=by kernel_rfl
theorem Own.at {w:World}{size n:Nat}{v:Value}{cs:List Value}(h:Own w size v n cs)(hp:0<n):∃g cap,v=.slice (some ⟨g,0,none⟩) n cap∧n≤cap∧g<w.heap.size∧∀j,j<n*size→w.cell? ⟨g,j,none⟩=cs[j]?:=by
 rcases h.2 with⟨rfl,rfl⟩|⟨g,cap,rfl,h1,h2,h3,h4,h5⟩
 ·omega
 ·exact⟨g,cap,rfl,h1,h3,h4⟩
theorem I4 {P:Program}(w:World)(b:Nat)(hb:b=w.heap.size)(t e:TypeId)(ht:P.underlying t=some (.slice e))(arr:Array Value)(cs:List Value)(ha:arr=cs.toArray)(h1:∀u∈cs,u.oneCell'=true):Src P cs.length t (.slice (some ⟨b,0,none⟩) 1 1) 1 cs (w.alloc (.cells arr e)):=by
 subst hb;exact uJ w t e ht arr cs ha h1
theorem Ez (w:World){ops:Array Oper}{rest:List Oper}{o:Oper}{a:Act}{Q:Exit→Act→World→Prop}(hg:o.guard=none)(l c:Operand)(t:TypeId)(hop:o.op=Op.makeSlice t l c)
 (e:TypeId)(z:Value)(size bytes:Nat)(h1:Tryz.prog.underlying t=some (.slice e))(h2:(Tryz.prog.info? e).map (fun i=>(i.zero,i.size,i.bytes))=some (some z,size,bytes))
 (n:Nat)(L C:Int)(hl:a.eval l=.int .i64 L)(hc:a.eval c=.int .i64 C)(hL:L=0)(hC:C=n)(hb:bytes*n≤281474976710656)(hn:n≤1000000000000000)
 (hK:∀w',Own w' size (.slice (some ⟨w.heap.size,0,none⟩) 0 n) 0 []→Ext w w'→wpList Tryz.prog ops Q rest (a.put o.dst (.slice (some ⟨w.heap.size,0,none⟩) 0 n)) w'):wpList Tryz.prog ops Q (o::rest) a w:=by
 refine wpList_plain hg fun K hK'=>?_
 obtain⟨i,hi,hz0,hz1,hz2⟩:=info_parts h2;subst hL;subst hC;have hrun:=run_make (P:=Tryz.prog) w t e i z h1 hi hz0 .i64 .i64 0 (n:Int) af af (by rw[hz2];omega) af;rw[Int.toNat_natCast,hz1]at hrun;have hms:(madeCells z.cells (n*size)).size=n*size:=size_madeCells _ _;unfold Oper.wp;simp[execOp,hop,hl,hc,hrun,Result.andThen];refine hK' _ _ (hK _ ⟨aj,.inr ⟨w.heap.size,n,rfl,aM _,by unfold maxLen;omega,aj,fun j hj=>af,fun j hj=>⟨?_,?_⟩⟩⟩ (ax.alloc _))
 ·rw[World.cell?_alloc_new,Array.getElem?_eq_getElem (by rw[hms];exact hj)];rfl
 ·exact World.frozen?_alloc_new w _ _ j
theorem Kk (col:bU)(w:World)(P:Nat)(m:Pl.Sc)(ps qs:List Nat)(nv av wv hv gv:Value)(h:fA col w P m ps qs nv av wv hv gv)(hal:m.asked.length≤1000):
 Calls Tryz.prog 85 #[PtrTo P 7] w fun e w'=>∃v,e=.returned v∧Own w' 3 v m.asked.length (m.asked.flatMap lK)∧Ext w w'∧∀g,v.ownBlock=some g→w.heap.size≤g:=by
 have s10:=h.blk.cell 10;simp only[dw,au]at s10;have hown:=h.inn.asked;have hpl:=h.inn.eY.1;obtain⟨aa,ac,rfl,hac⟩:=hown.shape;clear h;go_enter Tryz.func85,Tryz.ntmps85
 go_wp2_with (refine Ez w rfl _ _ 67 rfl 72 (.agg #[.int .i64 0,.int .i64 0,.int .i64 0]) 3 24 Tryz.underlying67 vQ m.asked.length 0 m.asked.length rfl rfl rfl rfl af af ?_;intro w1 o1 x1;have s11:=x1.cell s10 id)
 go_loopw [3,17] (fun t i wr=>∃k:Nat,k≤m.asked.length∧i=.int .i64 k∧Own wr 3 t k ((m.asked.take k).flatMap lK)∧Ext w wr∧∀g,t.ownBlock=some g→w.heap.size≤g) (fun _ i _=>m.asked.length-(intOf i).toNat)
 case atStart=>exact⟨0,aM _,rfl,by simpa using o1,x1,fun g hg=>by simp[Value.ownBlock]at hg;omega⟩
 case round=>
  obtain⟨k,hk,rfl,ho,hx,hg⟩:=hrel;by_cases hkl:k<m.asked.length
  ·obtain⟨ga,ca,he,_,hga,hc⟩:=hown.at af;cases he;have hck:∀j,j<5→wr.cell? ⟨ga,k*5+j,none⟩=(gN (ps[k]'af) m.asked[k])[j]?:=fun j hj=>by
    have e:=yg ps m.asked hpl k j hkl hj;have e2:=hc (k*5+j) af;rw[e]at e2;have:j<(gN (ps[k]'af) m.asked[k]).length:=hj;rw[ay this]at e2⊢;exact hx.cell e2 id
   have d0:=hck 0 af;have d1:=hck 1 af;have d2:=hck 2 af;have d3:=hck 3 af;have d4:=hck 4 af;simp only[gN,I,au,Nat.add_zero]at d0 d1 d2 d3 d4;have HT:Hid ((m.asked.take (k+1)).flatMap lK=(m.asked.take k).flatMap lK++lK m.asked[k]):=by
    show _=_;rw[aF hkl,List.flatMap_append];simp only[List.flatMap_cons,List.flatMap_nil,List.append_nil]
   have zS:Hid (#[Value.int .i64 (m.asked[k].1:Int),Value.int .i64 ((m.asked[k].2.place+m.asked[k].2.data.length:Nat):Int),Value.int .i64 ((m.asked[k].2.length-m.asked[k].2.data.length:Nat):Int)]=(lK m.asked[k]).toArray):=rfl;generalize m.asked[k]=q at*;generalize ps[k]'af=pk at*;generalize q.2.place+q.2.data.length=pp at*;generalize q.2.length-q.2.data.length=ll at*;clear hck hc;have hone:Hid (∀u∈lK q,u.oneCell'=true):=by
    intro u hu;simp[lK]at hu;rcases hu with rfl|rfl|rfl<;>rfl
   have hz:=hx.size;obtain⟨ta,tc,rfl,_⟩:=ho.shape
   go_wp2_with (at_builtin;go_must (refine dI _ rfl _ _ 67 67 rfl 72 (.agg #[.int .i64 0,.int .i64 0,.int .i64 0]) 3 24 Tryz.underlying67 vQ rfl _ _ _ rfl ((ho.dV _).dV _) _ rfl 1 _ (I4 _ _ aj _ _ Tryz.underlying67 _ _ (bH zS) (bH hone)) af af ?_);intro v3 w3 o3 k3 s3)
   have x3:Ext w w3:=((hx.alloc _).alloc _).then k3 (fun i hi e=>by have:=hg i e;omega)
   go_roundw
   case rel=>exact⟨k+1,af,by go_num,by rw[HT.out];exact o3,x3,fun g e=>by
    rcases eT s3 e with e'|e'
    ·exact hg g e'
    ·simp at e';omega⟩
   case measure=>simp[intOf];omega
  ·obtain rfl:k=m.asked.length:=af;rw[aX]at ho
   go_wp2_with fail
   go_ret;exact⟨_,rfl,ho,hx,hg⟩
theorem OA (col:bU)(w:World)(P:Nat)(m:Pl.Sc)(h:iW col w P m)(hal:m.asked.length≤1000):
 Calls Tryz.prog 54 #[PtrTo P 0] w fun e w'=>∃v,e=.returned v∧Own w' 3 v m.asked.length (m.asked.flatMap lK)∧Ext w w'∧∀g,v.ownBlock=some g→w.heap.size≤g:=by
 obtain⟨ps,qs,nv,av,wv,hv,gv,r⟩:=h;have HC:=hide (Kk col w P m ps qs nv av wv hv gv r hal);clear r;go_enter Tryz.func54,Tryz.ntmps54
 go_wp2_with fail
 refine(bH HC).mono ?_;rintro e w1 ⟨v,rfl,a,b,c⟩
 go_wp2_with fail
 go_ret;exact⟨_,rfl,a,b,c⟩
structure mq (col:bU)(w:World)(X:Nat)(m:Pl.Sc)(P:Nat):Prop where
 blk:bK w X [PtrTo P 0] 111
 Hu:col X=.box
 sc:iW col w P m
theorem mq.kept {col:bU}{S:Nat→Prop}{w w':World}{X:Nat}{m:Pl.Sc}{P:Nat}(h:mq col w X m P)(k:Kp S w w')(hS:∀i,S i→col i=.out):mq col w' X m P:=
 ⟨h.blk.kept k (fun e=>by have:=hS X e;rw[h.Hu]at this;simp at this),h.Hu,h.sc.kept k hS⟩
theorem Fw (col:bU)(w:World)(X P:Nat)(m:Pl.Sc)(h:mq col w X m P)(hal:m.asked.length≤1000):
 Calls Tryz.prog 23 #[PtrTo X 0] w fun e w'=>∃v,e=.returned v∧Own w' 3 v m.asked.length (m.asked.flatMap lK)∧Ext w w'∧∀g,v.ownBlock=some g→w.heap.size≤g:=by
 have c0:=h.blk.cell 0;simp only[aA]at c0;have HC:=hide (OA col w P m h.sc hal);clear h;go_enter Tryz.func23,Tryz.ntmps23
 go_wp2_with fail
 refine(bH HC).mono ?_;rintro e w1 ⟨v,rfl,a,b,c⟩
 go_wp2_with fail
 go_ret;exact⟨_,rfl,a,b,c⟩
theorem Qx (col:bU)(w:World)(X P:Nat)(m:Pl.Sc)(h:mq col w X m P):
 Calls Tryz.prog 18 #[PtrTo X 0] w fun e w'=>e=.returned (.int .i64 m.state)∧w'=w:=by
 have c0:=h.blk.cell 0;simp only[aA]at c0;obtain⟨ps,qs,nv,av,wv,hv,gv,r⟩:=h.sc;have s0:=r.blk.cell 0;simp only[dw,I,aA]at s0;have hst:Calls Tryz.prog 52 #[PtrTo P 0] w fun e w'=>e=.returned (.int .i64 m.state)∧w'=w:=by
  clear h r c0;go_enter Tryz.func52,Tryz.ntmps52;go_wp2;go_ret;exact⟨rfl,rfl⟩
 have HC:=hide hst;clear hst h r s0;go_enter Tryz.func18,Tryz.ntmps18
 go_wp2_with fail
 refine(bH HC).mono ?_;rintro e w1 ⟨rfl,rfl⟩
 go_wp2_with fail
 go_ret;exact⟨rfl,rfl⟩
theorem Bq (B0:Nat)(w:World)(v:Value)(ss:List ByteArray)(size W T R G:Int)(hr:h_ B0 w v ss):
 Calls Tryz.prog 22 #[.int .i64 size,v,tK W T R G] w fun e w'=>Ext w w'∧((Pl.ni size W T R G=false∧e=.returned (.tuple #[.pointer none,.int .i64 2]))∨
  (Pl.ni size W T R G=true∧∃X P col,e=.returned (.tuple #[PtrTo X 0,.int .i64 0])∧mq col w' X (Pl.kG size.toNat (ss.map bytesOf) W.toNat T.toNat R.toNat G.toNat) P∧∀k,k<w.heap.size→col k=.out)):=by
 have hext:∀o,Ext w (w.alloc o):=fun o=>ax.alloc o
 cases hok:Pl.ni size W T R G with
 |false=>
  have HC:=hide (fun u=>Qw u v size W T R G hok);clear hok hr;go_enter Tryz.func22,Tryz.ntmps22
  go_wp2_with fail
  refine((bH HC) _).mono ?_;rintro e w1 ⟨rfl,x1⟩
  go_wp2_with fail
  go_ret2
  exact⟨(ax.alloc _).trans x1,.inl ⟨trivial,rfl⟩⟩
 |true=>
  have HC:=hide (fun u(hu:Ext w u)=>Tg B0 u v ss size W T R G (hr.kept hu (fun _ f=>f.elim)) hok);clear hok hr;go_enter Tryz.func22,Tryz.ntmps22
  go_wp2_with fail
  refine((bH HC) _ (hext _)).mono ?_;rintro e w1 ⟨P,col,rfl,r1,x1,hc1⟩
  go_wp2_with fail
  go_ret2
  have x2:Ext w1 (w1.alloc (.cells #[PtrTo P 0] 111)):=ax.alloc _;have xw:Ext w w1:=(hext _).trans x1;obtain⟨ps,qs,nv,av,wv,hv,gv,r⟩:=r1;refine⟨xw.trans x2,.inr ⟨trivial,w1.heap.size,P,fo col w1.heap.size (w1.heap.size+1) .box,rfl,⟨bK.bO w1 [PtrTo P 0] _,nT _ _ _ _ _ (aK _) af,?_⟩,fun k hk=>?_⟩⟩
  ·refine(⟨r.blk.kept x2 id,r.inn.go x2 r.blk.lt (fun _ f=>f.elim) (fun i hi=>kH _ _ _ _ _ hi) (fun i hi=>?_)⟩:fA _ _ P _ ps qs nv av wv hv gv).is;rw[nS _ _ _ _ _ (by simpa using hi)];exact r.inn.top i (by simp at hi;omega)
  ·rw[kH _ _ _ _ _ (by have:=xw.size;omega)];exact hc1 k (by simp;omega)
end Go.Proofs.YthicgffppmbamaaGreat
