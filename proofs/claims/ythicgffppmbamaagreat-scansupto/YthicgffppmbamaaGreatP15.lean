import Derived.Test.YthicgffppmbamaaGreatP12
import Derived.Test.YthicgffppmbamaaGreatP14
set_option maxRecDepth 100000
set_option maxHeartbeats 16000000
namespace Go.Proofs.YthicgffppmbamaaGreat
open Go.RowKit
theorem Fa (L:List Value)(z:Value)(k:Nat)(h:k<L.length):(List.replicate k z++L.drop k).set k z=List.replicate (k+1) z++L.drop (k+1):=by
 have hl:(List.replicate k z).length=k:=List.length_replicate;rw[List.set_append_right _ _ af,hl,Nat.sub_self,aV h,List.set_cons_zero,List.replicate_succ'];simp
theorem Fb (L:List Value)(z:Value)(k:Nat):(List.replicate k z++L.drop k)[k]?=L[k]?:=by
 rw[aP aj];simp
theorem V6 (B0:Nat)(w:World)(b:Nat)(ov:Value)(xs:List Int)(hl:LI w b xs)(hr:jD B0 w ov xs)(hb:B0≤b)(hn:xs.length≤17592186043904):
 Calls Tryz.prog 91 #[sl b xs.length,ov] w fun e w'=>e=.returned (.bool true)∧Kp (fun k=>k=b) w w':=by
 have hr0:=hr;obtain⟨ao,cap,rfl,h1,h2,-⟩:=jD.open hr;clear hr;have hL:∀k,k<xs.length+2→(xs.map I++[I 0,I 0])[k]?=some (I (if k<xs.length then xs.getD k 0 else 0)):=fun k hk=>by
  by_cases h:k<xs.length
  ·rw[if_pos h,aS (by simpa using h)];simp[h]
  ·rw[if_neg h,aP (by simp;omega)];have:k-xs.length=0∨k-xs.length=1:=af;rcases this with e|e<;>simp[e]
 have HL:=hide hL;clear hL;generalize hN:xs.length=n at*;have HN:=hide hN;clear hN;have e1:((n:Int) !=(n:Int))=false:=aj;have e2:((n:Int)+2 !=(n:Int)+2)=false:=aj;go_enter Tryz.func91,Tryz.ntmps91
 go_wp2_with fail
 go_loopw [6] (fun i wr=>∃k:Nat,k≤n+2∧i=.int .i64 k∧bK wr b (List.replicate k (I (-9))++(xs.map I++[I 0,I 0]).drop k) 3∧Kp (fun k=>k=b) w wr) (fun i _=>n+2-(intOf i).toNat)
 case atStart=>exact⟨0,aM _,rfl,by simp only[List.replicate_zero,List.nil_append,List.drop_zero];exact hl,Kp.refl _ _⟩
 case round=>
  obtain⟨k,hk,rfl,hblk,hkp⟩:=hrel;by_cases hkl:k<n+2
  ·have hck:=hblk.cell k;rw[Fb,HL.out k hkl]at hck;have Dt:wr.frozen? ⟨b,k,none⟩=false:=hblk.free k;have hset:=hblk.set k (I (-9));rw[Fa _ _ _ (by simp[HN.out];omega)]at hset;by_cases hkn:k<n
   ·rw[if_pos hkn]at hck;obtain⟨_,_,he,_,_,h3⟩:=jD.open (hr0.kept hkp (fun i e=>by have e':i=b:=e;omega));rw[HN.out]at he h3;cases he;obtain⟨b',off,rfl,hb',hc⟩:=h3 af;have hcx:=hc k hkn;clear hc h3;generalize xs.getD k 0=x at*;have aeD:wr.cell? ⟨b,k,none⟩=some (.int .i64 x):=hck;have ex:(x !=x)=false:=aj;clear hck
    go_wp2_with fail
    refine⟨⟨k+1,af,by go_num,hset,hkp.setCell (.inl rfl) _⟩,by simp[intOf];omega⟩
   ·rw[if_neg hkn]at hck;have aeD:wr.cell? ⟨b,k,none⟩=some (.int .i64 0):=hck;clear hck
    go_wp2_with fail
    refine⟨⟨k+1,af,by go_num,hset,hkp.setCell (.inl rfl) _⟩,by simp[intOf];omega⟩
  ·go_wp2_with fail
   go_ret;exact⟨rfl,hkp⟩
abbrev behind :ByteArray:=⟨#[98,101,104,105,110,100]⟩
abbrev over :ByteArray:=⟨#[111,118,101,114]⟩
def qz (ss:List ByteArray):List Value:=ss.map Value.string++List.replicate 3 (.string behind)
theorem uh (ss:List ByteArray):(qz ss).length=ss.length+3:=by simp[qz]
theorem Dc (ss:List ByteArray)(k:Nat)(h:k<ss.length):(qz ss)[k]?=some (.string ss[k]):=by
 unfold qz;rw[aS (by simpa using h),aN,ay h];rfl
theorem IG (ss:List ByteArray)(k:Nat)(h:ss.length≤k)(h3:k<ss.length+3):(qz ss)[k]?=some (.string behind):=by
 unfold qz;rw[aP (by simpa using h),List.getElem?_replicate,if_pos (by simp;omega)]
theorem AZ (A:List Value)(z v:Value)(k n:Nat)(hk:k<n)(hA:A.length=n)(hv:A[k]?=some v):(A.take k++List.replicate (n-k) z).set k v=A.take (k+1)++List.replicate (n-(k+1)) z:=by
 have hl:(A.take k).length=k:=by rw[aU];omega
 rw[List.set_append_right _ _ af,hl,Nat.sub_self,show n-k=(n-(k+1))+1 from af,List.replicate_succ,List.set_cons_zero];have:A.take (k+1)=A.take k++[v]:=by
  rw[aF af];rw[ay af]at hv;cases hv;rfl
 rw[this,aW];rfl
inductive Au (w w':World)(Wb:Nat)(tv iv av rv:Value)(nt:Nat)(V7:List Value)(file:ByteArray)(m:Pl.Sc)(r:Pl.cO):Prop where
 |mk (tv':Value) (X Y P:Nat) (col dH:bU) (blk:bK w' Wb [tv',iv,av,rv] 32) (own:Own w' 3 tv' (nt+1) (V7++[PtrTo X 0,PtrTo Y 0,.string file])) (isX:mq col w' X m P) (K_:l6 dH w' Y r)
  (low:∀k,k<w.heap.size→col k=.out∧dH k=.out) (dis:∀k,col k≠.out→dH k=.out) (Yu:∀g,tv'.ownBlock=some g→col g=.out∧dH g=.out) (aeF:∀g,tv'.ownBlock=some g→tv.ownBlock=some g∨w.heap.size≤g) (kp:Kp (fun k=>k=Wb∨Of tv k) w w')
def aeG :Value:=.agg #[.pointer none,.pointer none,.string ByteArray.empty]
theorem aaP :(Tryz.prog.info? 85).map (fun i=>(i.zero,i.size,i.bytes))=some (some aeG,3,32):=by kernel_rfl
theorem V8 (B0:Nat)(w:World)(Wb:Nat)(tv iv av rv v:Value)(nt:Nat)(V7:List Value)(file:ByteArray)(ss:List ByteArray)(size W T R G:Int)(hb:bK w Wb [tv,iv,av,rv] 32)(ht:Own w 3 tv nt V7)(hnt:nt≤1000)(d1:tv.ownBlock≠some Wb)(hr:h_ B0 w v ss)(hB0:B0≤w.heap.size)(hss:ss.length≤8796093021952):
 Calls Tryz.prog 12 #[PtrTo Wb 0,.string file,.int .i64 size,v,tK W T R G] w fun e w'=>e=.returned (.bool true)∧((Pl.ni size W T R G=false∧Ext w w')∨(Pl.ni size W T R G=true∧Au w w' Wb tv iv av rv nt V7 file (Pl.kG size.toNat (ss.map bytesOf) W.toNat T.toNat R.toNat G.toNat) (Pl.qJ size.toNat (ss.map bytesOf) W.toNat T.toNat R.toNat G.toNat))):=by
 have hr0:=hr;obtain⟨ao,cap,rfl,n1,n2,n3⟩:=h_.open hr;have hblt:=hb.lt;go_enter Tryz.func12,Tryz.ntmps12
 go_wp2_with (at_make;go_must (refine gT _ rfl _ _ 22 rfl 9 _ 16 Tryz.underlying22 Sw rfl (ss.length+3) _ _ rfl rfl af af af af ?_);intro w1 hb1 x1 z1)
 have hz0:(w.alloc (.cells #[.int .i64 W,.int .i64 T,.int .i64 R,.int .i64 G] 24)).heap.size=w.heap.size+1:=aj;rw[hz0]at hb1 z1;have N_:Ext w w1:=(ax.alloc _).trans x1;have hS1:bK w1 w.heap.size [.int .i64 W,.int .i64 T,.int .i64 R,.int .i64 G] 24:=(bK.bO w [.int .i64 W,.int .i64 T,.int .i64 R,.int .i64 G] 24).kept x1 id;have HZ1:=hide z1;clear hz0 z1 x1;go_loopw [12] (fun i wr=>∃k:Nat,k≤ss.length+3∧i=.int .i64 k∧bK wr (w.heap.size+1) ((qz ss).take k++List.replicate (ss.length+3-k) (.string ByteArray.empty)) 9∧Kp (fun q=>q=w.heap.size+1) w1 wr∧Hid (wr.heap.size=w1.heap.size)) (fun i _=>ss.length+3-(intOf i).toNat)
 case atStart=>exact⟨0,aM _,rfl,by simpa using hb1,Kp.refl _ _,rfl⟩
 case round=>
  obtain⟨k,hk,rfl,hA,hK,HZ⟩:=hrel;by_cases hkl:k<ss.length+3
  ·have c0:wr.cell? ⟨w.heap.size+1,k,none⟩=some (.string ByteArray.empty):=by
    rw[hA.cell k,aP (by rw[aU];omega),aU,uh,Nat.min_eq_left af,Nat.sub_self,List.getElem?_replicate,if_pos af]
   have f0:=hA.free k;by_cases hkn:k<ss.length
   ·obtain⟨b,off,rfl,ZQ,hc⟩:=n3 af;have hck:=hK.cell (N_.cell (hc k hkn) id) (by show¬b=_;omega);rw[show ss.getD k ByteArray.empty=ss[k] by rw[aC,ay hkn];rfl]at hck;have hst:=AZ (qz ss) (.string ByteArray.empty) (.string ss[k]) k (ss.length+3) hkl (uh ss) (Dc ss k hkn);have hA2:=(hA.set k (.string behind)).set k (.string ss[k]);rw[List.set_set,hst]at hA2;have HA:=hide hA2;have hbn:¬(b=w.heap.size+1):=af;clear hst hA2 hc n3;generalize ss[k]=y at*
    go_wp2_with fail
    refine⟨⟨k+1,af,by go_num,bH HA,?_,?_⟩,by simp[intOf];omega⟩
    ·exact(hK.setCell (p:=⟨w.heap.size+1,k,none⟩) (.inl rfl) _).setCell (p:=⟨w.heap.size+1,k,none⟩) (.inl rfl) _
    ·show _=_;rw[size_set,size_set];exact HZ.out
   ·have hst:=AZ (qz ss) (.string ByteArray.empty) (.string behind) k (ss.length+3) hkl (uh ss) (IG ss k af hkl);have hA2:=hA.set k (.string behind);rw[hst]at hA2;have HA:=hide hA2;clear hst hA2 n3
    go_wp2_with fail
    refine⟨⟨k+1,af,by go_num,bH HA,?_,?_⟩,by simp[intOf];omega⟩
    ·exact hK.setCell (p:=⟨w.heap.size+1,k,none⟩) (.inl rfl) _
    ·show _=_;rw[size_set];exact HZ.out
  ·obtain rfl:k=ss.length+3:=af;have hA2:bK wr (w.heap.size+1) (qz ss) 9:=by
    have e:(qz ss).take (ss.length+3)++List.replicate (ss.length+3-(ss.length+3)) (.string ByteArray.empty)=qz ss:=by
     rw[Nat.sub_self,List.replicate_zero,List.append_nil,List.take_of_length_le (by rw[uh];omega)]
    rw[e]at hA;exact hA
   have hS2:=hS1.kept hK af;have qB:Ext w wr:=N_.then hK (fun i hi e=>af);have hsz:wr.heap.size=w.heap.size+2:=by rw[HZ.out,HZ1.out]
   have s0:=hS2.cell 0;have s1:=hS2.cell 1;have s2:=hS2.cell 2;have s3:=hS2.cell 3;simp only[au]at s0 s1 s2 s3;generalize wr=W2 at*;have Sy:∀u,Ext W2 u→h_ u.heap.size u (.slice (some ⟨w.heap.size+1,0,none⟩) ss.length (ss.length+3)) ss:=fun u hu=>by
    have hu2:=hA2.kept hu id;refine⟨_,ss.length+3,by rw[aQ],by rw[aQ];omega,by rw[aQ];omega,fun _=>⟨w.heap.size+1,0,rfl,hu2.lt,fun j hj=>?_⟩⟩;rw[aQ]at hj;rw[Nat.zero_add,hu2.cell j,Dc ss j hj,aN,ay hj];rfl
   have Fe:∀u,Ext W2 u→h_ B0 u (.slice ao ss.length cap) ss:=fun u hu=>hr0.kept (qB.trans hu) (fun _ f=>f.elim)
   have ht2:=ht.ext qB;have hb2:=hb.kept qB id;have htlt:∀g,tv.ownBlock=some g→g<w.heap.size:=fun g hg=>ht.lt hg
   have l0:(0:Int)≤(ss.length:Int):=af;have l1:(ss.length:Int)≤(ss.length:Int)+3:=af;have J6:=hide hsz;clear hA hS1 hK hb1 N_ HZ HZ1 hsz hr hr0 hb ht;cases hok:Pl.ni size W T R G with
   |false=>
    have HX:Hid (∀u,Ext W2 u→Calls Tryz.prog 22 #[.int .i64 size,.slice (some ⟨w.heap.size+1,0,none⟩) ss.length (ss.length+3),tK W T R G] u fun e w'=>e=.returned (.tuple #[.pointer none,.int .i64 2])∧Ext u w'):=fun u hu=>
     (Bq u.heap.size u _ ss size W T R G (Sy u hu)).mono (fun e w' h=>by
      obtain⟨x,⟨_,he⟩|⟨h2,_⟩⟩:=h
      ·exact⟨he,x⟩
      ·rw[hok]at h2;cases h2)
    have HY:Hid (∀u,Calls Tryz.prog 32 #[.int .i64 size,.slice ao ss.length cap,tK W T R G] u fun e w'=>e=.returned (.tuple #[.pointer none,.int .i64 2])∧Ext u w'):=fun u=>Tj u _ size W T R G hok
    have ajy:=hA2;have AL:=hide hok;clear Sy Fe hok
    go_wp2_with fail
    go_region_held3 (fun u=>u.cell? ⟨w.heap.size,0,none⟩=some (.int .i64 W)∧u.cell? ⟨w.heap.size,1,none⟩=some (.int .i64 T)∧u.cell? ⟨w.heap.size,2,none⟩=some (.int .i64 R)∧u.cell? ⟨w.heap.size,3,none⟩=some (.int .i64 G)) (first|go_keep|exact⟨x3.cell s0 id,x3.cell s1 id,x3.cell s2 id,x3.cell s3 id⟩) (first|(go_at_call 22;refine((bH HX) _ (lJ _)).mono ?_;rintro e w3 ⟨rfl,x3⟩)|fail)
    have x23:Ext W2 w3:=(lJ _).trans x3;have z0:=x23.cell s0 id;have z1:=x23.cell s1 id;have z2:=x23.cell s2 id;have z3:=x23.cell s3 id;clear s0 s1 s2 s3
    go_wp2_with fail
    refine((bH HY) w3).mono ?_;rintro e w4 ⟨rfl,x4⟩;have x24:Ext W2 w4:=x23.trans x4;have Oa:Ext w w4:=qB.trans x24;have hA4:=hA2.kept x24 id;clear z0 z1 z2 z3 hA2
    go_wp2_with fail
    go_loopw [17,18] (fun t i wr=>∃k:Nat,k≤ss.length+3∧i=.int .i64 k∧t=.bool true∧bK wr (w.heap.size+1) (List.replicate k (.string over)++(qz ss).drop k) 9∧Kp (fun q=>q=w.heap.size+1) w4 wr∧Hid (wr.heap.size=w4.heap.size)) (fun _ i _=>ss.length+3-(intOf i).toNat)
    case atStart=>exact⟨0,aM _,rfl,rfl,by simpa using hA4,Kp.refl _ _,rfl⟩
    case round=>
     obtain⟨k,hk,rfl,rfl,hA,hK,HZ⟩:=hrel;by_cases hkl:k<ss.length+3
     ·have c0:=hA.cell k;rw[Fb]at c0;have f0:=hA.free k;have hov:=Fa (qz ss) (.string over) k (by rw[uh];exact hkl);have hA2:=hA.set k (.string over);rw[hov]at hA2;have HA:=hide hA2;clear hA hov hA2;by_cases hkn:k<ss.length
      ·obtain⟨b,off,rfl,ZQ,hc⟩:=n3 af;have hck:=hK.cell (Oa.cell (hc k hkn) id) (by show¬b=_;omega);rw[show ss.getD k ByteArray.empty=ss[k] by rw[aC,ay hkn];rfl]at hck;rw[Dc ss k hkn]at c0;have hbn:¬(b=w.heap.size+1):=af;clear hc n3;generalize ss[k]=y at*
       go_wp2_with fail
       refine⟨⟨k+1,af,by go_num,(by first|rfl|simp),bH HA,hK.setCell (p:=⟨w.heap.size+1,k,none⟩) (.inl rfl) _,by show _=_;rw[size_set];exact HZ.out⟩,by simp[intOf];omega⟩
      ·rw[IG ss k af hkl]at c0;clear n3
       go_wp2_with fail
       refine⟨⟨k+1,af,by go_num,(by first|rfl|simp),bH HA,hK.setCell (p:=⟨w.heap.size+1,k,none⟩) (.inl rfl) _,by show _=_;rw[size_set];exact HZ.out⟩,by simp[intOf];omega⟩
     ·clear hA n3
      go_wp2_with fail
      go_ret;exact⟨rfl,.inl ⟨bH AL,Oa.then hK (fun i hi e=>af)⟩⟩
   |true=>
    have HX:Hid (∀u,Ext W2 u→Calls Tryz.prog 22 #[.int .i64 size,.slice (some ⟨w.heap.size+1,0,none⟩) ss.length (ss.length+3),tK W T R G] u fun e w'=>∃X P col,e=.returned (.tuple #[PtrTo X 0,.int .i64 0])∧mq col w' X (Pl.kG size.toNat (ss.map bytesOf) W.toNat T.toNat R.toNat G.toNat) P∧(∀k,k<u.heap.size→col k=.out)∧Ext u w'):=fun u hu=>
     (Bq u.heap.size u _ ss size W T R G (Sy u hu)).mono (fun e w' h=>by
      obtain⟨x,⟨h2,_⟩|⟨_,X,P,col,he,h3,h4⟩⟩:=h
      ·rw[hok]at h2;cases h2
      ·exact⟨X,P,col,he,h3,h4,x⟩)
    have HY:Hid (∀u,Ext W2 u→Calls Tryz.prog 32 #[.int .i64 size,.slice ao ss.length cap,tK W T R G] u fun e w'=>∃Y col,e=.returned (.tuple #[PtrTo Y 0,.int .i64 0])∧l6 col w' Y (Pl.qJ size.toNat (ss.map bytesOf) W.toNat T.toNat R.toNat G.toNat)∧Ext u w'∧∀k,k<u.heap.size→col k=.out):=fun u hu=>WR B0 u _ ss size W T R G (Fe u hu) hss hok
    have ajy:=hA2;have AL:=hide hok;clear Sy Fe hok
    go_wp2_with fail
    go_region_held3 (fun u=>u.cell? ⟨w.heap.size,0,none⟩=some (.int .i64 W)∧u.cell? ⟨w.heap.size,1,none⟩=some (.int .i64 T)∧u.cell? ⟨w.heap.size,2,none⟩=some (.int .i64 R)∧u.cell? ⟨w.heap.size,3,none⟩=some (.int .i64 G)) (first|go_keep|exact⟨x3.cell s0 id,x3.cell s1 id,x3.cell s2 id,x3.cell s3 id⟩) (first|(go_at_call 22;refine((bH HX) _ (lJ _)).mono ?_;rintro e w3 ⟨X,P,col,rfl,VO,ZR,x3⟩)|fail)
    have x23:Ext W2 w3:=(lJ _).trans x3;have z0:=x23.cell s0 id;have z1:=x23.cell s1 id;have z2:=x23.cell s2 id;have z3:=x23.cell s3 id;clear s0 s1 s2 s3
    go_wp2_with fail
    refine((bH HY) w3 x23).mono ?_;rintro e w4 ⟨Y,dH,rfl,hY4,x4,V9⟩;have x24:Ext W2 w4:=x23.trans x4;have Oa:Ext w w4:=qB.trans x24;have hA4:=hA2.kept x24 id;clear z0 z1 z2 z3 hA2
    go_wp2_with fail
    go_loopw [17,18] (fun t i wr=>∃k:Nat,k≤ss.length+3∧i=.int .i64 k∧t=.bool true∧bK wr (w.heap.size+1) (List.replicate k (.string over)++(qz ss).drop k) 9∧Kp (fun q=>q=w.heap.size+1) w4 wr∧Hid (wr.heap.size=w4.heap.size)) (fun _ i _=>ss.length+3-(intOf i).toNat)
    case atStart=>exact⟨0,aM _,rfl,rfl,by simpa using hA4,Kp.refl _ _,rfl⟩
    case round=>
     obtain⟨k,hk,rfl,rfl,hA,hK,HZ⟩:=hrel;by_cases hkl:k<ss.length+3
     ·have c0:=hA.cell k;rw[Fb]at c0;have f0:=hA.free k;have hov:=Fa (qz ss) (.string over) k (by rw[uh];exact hkl);have hA2:=hA.set k (.string over);rw[hov]at hA2;have HA:=hide hA2;clear hA hov hA2;by_cases hkn:k<ss.length
      ·obtain⟨b,off,rfl,ZQ,hc⟩:=n3 af;have hck:=hK.cell (Oa.cell (hc k hkn) id) (by show¬b=_;omega);rw[show ss.getD k ByteArray.empty=ss[k] by rw[aC,ay hkn];rfl]at hck;rw[Dc ss k hkn]at c0;have hbn:¬(b=w.heap.size+1):=af;clear hc n3;generalize ss[k]=y at*
       go_wp2_with fail
       refine⟨⟨k+1,af,by go_num,(by first|rfl|simp),bH HA,hK.setCell (p:=⟨w.heap.size+1,k,none⟩) (.inl rfl) _,by show _=_;rw[size_set];exact HZ.out⟩,by simp[intOf];omega⟩
      ·rw[IG ss k af hkl]at c0;clear n3
       go_wp2_with fail
       refine⟨⟨k+1,af,by go_num,(by first|rfl|simp),bH HA,hK.setCell (p:=⟨w.heap.size+1,k,none⟩) (.inl rfl) _,by show _=_;rw[size_set];exact HZ.out⟩,by simp[intOf];omega⟩
     ·clear hA n3;have hwb:=hb2.kept x24 id|>.kept hK af;have ZB:=(ht2.ext x24).kept hK (fun g hg e=>by have:=htlt g hg;omega);have q0:=hwb.cell 0;have f0:=hwb.free 0;simp only[aA]at q0;have hX5:=(VO.kept x4 (fun _ f=>f.elim)).kept hK (fun i e=>by rw[e];exact ZR _ (by have:=J6.out;have:W2.drew.heap.size=W2.heap.size:=rfl;omega));have hY5:=hY4.kept hK (fun i e=>by rw[e];exact V9 _ (by have:=J6.out;have:=x23.size;omega));have NH:Hid (#[PtrTo X 0,PtrTo Y 0,.string file]=[PtrTo X 0,PtrTo Y 0,Value.string file].toArray):=rfl;have NI:Hid (∀u∈[PtrTo X 0,PtrTo Y 0,Value.string file],u.oneCell'=true):=by
       intro u hu;simp at hu;rcases hu with rfl|rfl|rfl<;>rfl
      have ajz:∀k,col k≠.out→dH k=.out:=fun k hk=>by
       obtain⟨ps,qs,nv,av0,wv,hv,gv,rr⟩:=VO.sc;by_cases hlt:k<w3.heap.size
       ·exact V9 k hlt
       ·exact absurd (rr.inn.top k af) hk
      have hzz:=hK.size;have htX:∀k,wr.heap.size≤k→col k=.out:=fun k hk=>by
       obtain⟨ps,qs,nv,av0,wv,hv,gv,rr⟩:=hX5.sc;exact rr.inn.top k hk
      have htY:∀k,wr.heap.size≤k→dH k=.out:=fun k hk=>by
       obtain⟨bJ,nv,pv,rv0,tv0,rr⟩:=hY5;exact rr.1.inn.top k hk
      have hnew:=World.new_ne wr _ q0;obtain⟨ta,tc,rfl,_⟩:=ZB.shape
      go_wp2_with (at_builtin;go_must (refine dI _ rfl _ _ 27 27 rfl 85 aeG 3 32 Tryz.underlying27 aaP rfl (.slice ta nt tc) nt V7 rfl (ZB.dV _) _ rfl 1 _ (uJ _ _ _ Tryz.underlying27 _ _ (bH NH) (bH NI)) af af ?_);intro tv' w6 o6 k6 s6;have Dz:Kp (Of (.slice ta nt tc)) wr w6:=(Kp.cZ (ax.alloc _)).trans k6;have Yv:=hwb.kept Dz (fun e=>d1 e);have q6:=Yv.cell 0;have f6:=Yv.free 0;simp only[aA]at q6;obtain⟨ZT,Md,rfl,_⟩:=o6.shape)
      go_ret;have k7:=bI w6 Wb 0 (.slice ZT (nt+1) Md);have Nn:∀g,(Value.slice ZT (nt+1) Md).ownBlock=some g→(Value.slice ta nt tc).ownBlock=some g∨wr.heap.size≤g:=fun g hg=>by
       rcases eT s6 hg with e|e
       ·exact .inl e
       ·exact .inr (by simp at e;omega)
      have lW:∀i,Of (.slice ta nt tc) i→col i=.out∧dH i=.out:=fun i hi=>⟨ZR i (by have:=htlt i hi;have:=J6.out;have:W2.drew.heap.size=W2.heap.size:=rfl;omega),V9 i (by have:=htlt i hi;have:=x23.size;have:=J6.out;omega)⟩
      have hW6:col Wb=.out∧dH Wb=.out:=⟨ZR Wb (by have:=J6.out;have:W2.drew.heap.size=W2.heap.size:=rfl;omega),V9 Wb (by have:=x23.size;have:=J6.out;omega)⟩
      have ajA:Kp (fun k=>k=Wb∨Of (.slice ta nt tc) k) w wr:=Kp.cZ (Oa.then hK (fun i hi e=>af));refine⟨rfl,.inr ⟨bH AL,Au.mk (.slice ZT (nt+1) Md) X Y P col dH ?_ ?_ ((hX5.kept Dz (fun i hi=>(lW i hi).1)).kept k7 (fun i hi=>by rw[hi];exact hW6.1)) ((hY5.kept Dz (fun i hi=>(lW i hi).2)).kept k7 (fun i hi=>by rw[hi];exact hW6.2)) (fun k hk=>⟨ZR k (by have:=J6.out;have:W2.drew.heap.size=W2.heap.size:=rfl;omega),V9 k (by have:=x23.size;have:=J6.out;omega)⟩) ajz (fun g hg=>?_) (fun g hg=>(Nn g hg).imp id (fun h=>by have:=Oa.size;omega)) ?_⟩⟩
      ·have:=Yv.set 0 (.slice ZT (nt+1) Md);simpa using this
      ·exact o6.kept k7 (fun g hg e=>by
        rcases Nn g hg with e'|e'
        ·exact d1 (by rw[←e];exact e')
        ·have:=Oa.size;omega)
      ·rcases Nn g hg with e|e
       ·exact lW g e
       ·exact⟨htX g e,htY g e⟩
      ·exact(ajA.then Dz (fun i _ h=>.inr h)).then k7 (fun i _ h=>.inl h)
end Go.Proofs.YthicgffppmbamaaGreat
