import Derived.WalkKit
import Derived.Laws.BytesString
import Derived.Laws.IdiomStrings
import Derived.BigQuiet
import Derived.Deep.RegionHeld3
import Derived.Test.YthicgffppmbamaaGreatP1
set_option maxRecDepth 100000
set_option maxHeartbeats 16000000
namespace Go.Proofs.YthicgffppmbamaaGreat
open Go.RowKit
theorem EB (a b k:Nat)(h:a<2^k):a|||b*2^k=a+b*2^k:=by
 have:=Nat.shiftLeft_add_eq_or_of_lt h b;rw[Nat.shiftLeft_eq]at this;rw[Nat.or_comm,←this,Nat.add_comm]
theorem FI (a b:Nat)(ha:a<9223372036854775808)(hb:b<9223372036854775808):bits .or .i64 (a:Int) (b:Int)=((a|||b:Nat):Int):=by
 have ho:a|||b<2^63:=Nat.or_lt_two_pow (n:=63) af af;have e:((BitVec.ofInt 64 (a:Int))|||(BitVec.ofInt 64 (b:Int))).toNat=a|||b:=by
  rw[BitVec.toNat_or,BitVec.ofInt_natCast,BitVec.ofInt_natCast,BitVec.toNat_ofNat,BitVec.toNat_ofNat,Nat.mod_eq_of_lt af,Nat.mod_eq_of_lt af]
 show IntKind.i64.wrap (((BitVec.ofInt 64 (a:Int))|||(BitVec.ofInt 64 (b:Int))).toNat:Int)=_;rw[e];generalize a|||b=c at ho;simp only[IntKind.wrap,IntKind.bits,IntKind.signed,Bool.true_and];rw[if_neg (by simp;omega)];omega
theorem QK (a b:Nat)(ha:a<4294967296)(hb:b<4294967296):bits .or .u32 (a:Int) (b:Int)=((a|||b:Nat):Int):=by
 have ho:a|||b<2^32:=Nat.or_lt_two_pow (n:=32) af af;have e:((BitVec.ofInt 32 (a:Int))|||(BitVec.ofInt 32 (b:Int))).toNat=a|||b:=by
  rw[BitVec.toNat_or,BitVec.ofInt_natCast,BitVec.ofInt_natCast,BitVec.toNat_ofNat,BitVec.toNat_ofNat,Nat.mod_eq_of_lt af,Nat.mod_eq_of_lt af]
 show IntKind.u32.wrap (((BitVec.ofInt 32 (a:Int))|||(BitVec.ofInt 32 (b:Int))).toNat:Int)=_;rw[e];generalize a|||b=c at ho;simp only[IntKind.wrap,IntKind.bits,IntKind.signed,Bool.false_and];rw[if_neg aj];omega
theorem Pw (n b i:Nat)(hn:n<128^i)(hb:b<128)(hi:i<9):bits .or .i64 (n:Int) ((b*128^i:Nat):Int)=((n+b*128^i:Nat):Int)∧n+b*128^i<128^(i+1)∧b*128^i<9223372036854775808:=by
 have e:(128:Nat)^i=2^(7*i):=by rw[show(128:Nat)=2^7 from rfl,←Nat.pow_mul]
 have h2:n+b*128^i<128^(i+1):=by
  have:b*128^i≤127*128^i:=Nat.mul_le_mul_right _ af;rw[Nat.pow_succ];omega
 have h3:(128:Nat)^(i+1)≤128^9:=Nat.pow_le_pow_right af af;have h4:(128:Nat)^9=9223372036854775808:=by decide
 refine⟨?_,h2,af⟩;rw[FI _ _ af af,e,EB _ _ _ (e▸hn)]
theorem aad (s b:Nat)(hb:b<256):bits .or .u32 ((s*256%4294967296:Nat):Int) (b:Int)=((s*256%4294967296+b:Nat):Int)∧s*256%4294967296+b<4294967296:=by
 have hs:s*256%4294967296=s%16777216*2^8:=af;refine⟨?_,af⟩;rw[QK _ _ af af,hs,Nat.or_comm,EB _ _ _ hb,Nat.add_comm]
theorem bM.drop1 {C:Nat→Prop}{fr:Bool}{w:World}{b off L cap q:Nat}{cs:List Value}(h:bM C fr w 1 (.slice (some ⟨b,off,none⟩) L cap) L cs)(hq:q≤L):
 bM C fr w 1 (.slice (if cap=q then some ⟨b,off,none⟩else some ⟨b,off+q,none⟩) (L-q) (cap-q)) (L-q) (cs.drop q):=by
 obtain⟨hl,ao,cap',e,h1,h3⟩:=h;simp only[Value.slice.injEq]at e;obtain⟨rfl,_,rfl⟩:=e;refine⟨by rw[bq];omega,_,cap-q,rfl,af,fun hp=>?_⟩;obtain⟨b',off',e,hb,hlt,hc,hf⟩:=h3 af;simp only[Option.some.injEq,Addr.mk.injEq]at e;obtain⟨rfl,rfl,_⟩:=e;refine⟨b,off+q,by rw[if_neg af],hb,hlt,fun j hj=>?_,fun ht j hj=>?_⟩
 ·rw[Nat.add_assoc,hc (q+j) af,List.getElem?_drop]
 ·rw[Nat.add_assoc];exact hf ht (q+j) af
theorem bM.take1 {C:Nat→Prop}{fr:Bool}{w:World}{ao:Option Addr}{L cap q:Nat}{cs:List Value}(h:bM C fr w 1 (.slice ao L cap) L cs)(hq:q≤L):bM C fr w 1 (.slice ao q cap) q (cs.take q):=by
 obtain⟨hl,KQ,cap',e,h1,h3⟩:=h;simp only[Value.slice.injEq]at e;obtain⟨rfl,_,rfl⟩:=e;refine⟨by rw[aU];omega,ao,cap,rfl,af,fun hp=>?_⟩;obtain⟨b,off,e,hb,hlt,hc,hf⟩:=h3 af;refine⟨b,off,e,hb,hlt,fun j hj=>?_,fun ht j hj=>hf ht j af⟩;rw[hc j af,List.getElem?_take_of_lt af]
structure ae6 (C:Nat→Prop)(w:World)(q:Nat)(r:Pl.dS)(v:Value):Prop where
 blk:bK w q [v,.bool r.2] 246
 row:bM C false w 1 v r.1.length (r.1.map B)
def fM (C:Nat→Prop)(w:World)(q:Nat)(r:Pl.dS):Prop:=∃v,ae6 C w q r v
theorem fM.kept {C:Nat→Prop}{S:Nat→Prop}{w w':World}{q:Nat}{r:Pl.dS}(h:fM C w q r)(k:Kp S w w')(hq:¬S q)(hS:∀i,C i→¬S i):fM C w' q r:=by
 obtain⟨v,a,b⟩:=h;exact⟨v,a.kept k hq,b.go k hS (fun _ _ e=>e)⟩
theorem pz (C:Nat→Prop)(w:World)(q:Nat)(r:Pl.dS)(hq:¬C q)(h:fM C w q r)(hl:r.1.length≤1000000):
 Calls Tryz.prog 172 #[PtrTo q 0] w fun e w'=>e=.returned (.int .u8 (Pl.dX r).1)∧fM C w' q (Pl.dX r).2∧Kp (fun k=>k=q) w w'∧w'.heap.size=w.heap.size:=by
 obtain⟨v,hb,hr⟩:=h;obtain⟨l,bad⟩:=r;have c0:=hb.cell 0;have c1:=hb.cell 1;have f0:=hb.free 0;have f1:=hb.free 1;simp only[au]at c0 c1;cases l with
 |nil=>
  obtain⟨_,ao,cap,rfl,h1,-⟩:=hr;simp only[List.length_nil]at c0 h1 hb;have hr2:bM C false (w.setCell ⟨q,1,none⟩ (.bool true)) 1 (.slice ao 0 cap) 0 []:=⟨rfl,ao,cap,rfl,h1,fun h=>absurd h af⟩
  have hb2:bK (w.setCell ⟨q,1,none⟩ (.bool true)) q [.slice ao 0 cap,.bool true] 246:=hb.set 1 (.bool true);go_enter Tryz.func172,Tryz.ntmps172
  go_wp2_with fail
  go_ret;exact⟨rfl,⟨.slice ao 0 cap,hb2,hr2⟩,bI _ _ _ _,size_set _ _ _⟩
 |cons b t=>
  have hr0:=hr;obtain⟨-,ao,cap,rfl,h1,h3⟩:=hr;obtain⟨g,off,rfl,hC,hlt,hc,-⟩:=h3 aj;have d0:=hc 0 aj;simp only[List.map_cons,aA,Nat.add_zero,B]at d0;have wB:¬g=q:=fun e=>hq (e▸hC)
  simp only[aR]at*;have hr2:=hr0.drop1 (q:=1) af;have HR:=hide hr2;clear hc h3 hr0 hr2;have n0:(1:Int)≤(t.length:Int)+1:=af;go_enter Tryz.func172,Tryz.ntmps172
  go_wp2_with fail
  ·have hr2:=HR.out;simp only[h,if_true,Nat.add_sub_cancel,List.map_cons,List.drop_succ_cons,List.drop_zero,Nat.sub_self]at hr2;go_ret;exact⟨rfl,⟨_,hb.set 0 _,hr2.go (S:=fun k=>k=q) (bI _ _ _ _) (fun i hi(e:i=q)=>hq (e▸hi)) (fun _ _ e=>e)⟩,bI _ _ _ _,size_set _ _ _⟩
  ·have hr2:=HR.out;simp only[h,if_false,Nat.add_sub_cancel,List.map_cons,List.drop_succ_cons,List.drop_zero]at hr2;go_ret;exact⟨rfl,⟨_,hb.set 0 _,hr2.go (S:=fun k=>k=q) (bI _ _ _ _) (fun i hi(e:i=q)=>hq (e▸hi)) (fun _ _ e=>e)⟩,bI _ _ _ _,size_set _ _ _⟩
theorem zZ (r:Pl.dS):(Pl.dX r).1<256:=by
 obtain⟨l,b⟩:=r;cases l with
 |nil=>exact Nat.zero_lt_succ _
 |cons b t=>exact b.toNat_lt
theorem nP (r:Pl.dS):(Pl.dX r).2.1.length≤r.1.length:=by
 obtain⟨l,b⟩:=r;cases l with
 |nil=>exact aK _
 |cons b t=>exact Nat.le_succ _
theorem WX (C:Nat→Prop)(w:World)(q:Nat)(r:Pl.dS)(hq:¬C q)(h:fM C w q r)(hl:r.1.length≤1000000):
 Calls Tryz.prog 161 #[PtrTo q 0] w fun e w'=>e=.returned (.int .u32 (Pl.qm r).1)∧fM C w' q (Pl.qm r).2∧Kp (fun k=>k=q) w w'∧w'.heap.size=w.heap.size:=by
 go_enter Tryz.func161,Tryz.ntmps161;go_wp2;go_loopw [3,4] (fun t i wr=>∃(k s:Nat)(r':Pl.dS),i=.int .i64 k∧k≤4∧t=.int .u32 s∧s<4294967296∧(s,r')=Pl.iter Pl.oP k (0,r)∧fM C wr q r'∧r'.1.length≤1000000∧Kp (fun k=>k=q) w wr∧wr.heap.size=w.heap.size) (fun _ i _=>4-(intOf i).toNat)
 case atStart=>exact⟨0,0,r,rfl,af,rfl,af,rfl,h,hl,Kp.refl _ _,rfl⟩
 case round=>
  obtain⟨k,s,r',rfl,hk,rfl,hs,he,hr,hl',kk,hz⟩:=hrel;have HE:=hide he;have HZ:=hide hz;clear he hz;have hb:=zZ r';have hbl:=nP r';by_cases hk4:k<4
  ·go_wp2_with (go_at_call 172;refine(pz C _ q r' hq hr hl').mono ?_;rintro e w1 ⟨rfl,hr1,k1,z1⟩)
   have ho:=aad s (Pl.dX r').1 hb;have hE:Pl.oP (s,r')=Pl.iter Pl.oP (k+1) (0,r):=by rw[HE.out];rfl
   refine⟨⟨k+1,(Pl.oP (s,r')).1,(Pl.oP (s,r')).2,by go_num,af,?_,ho.2,hE,hr1,by simp only[Pl.oP];omega,kk.trans k1,z1.trans HZ.out⟩,by simp[intOf];omega⟩;have e:=ho.1;simp only[Pl.oP];rw[←e,Int.natCast_emod,Int.natCast_mul];rfl
  ·go_wp2_with fail
   go_ret;have e4:k=4:=af;subst e4;have he:=HE.out;have e1:s=(Pl.qm r).1:=congrArg Prod.fst he;have e2:r'=(Pl.qm r).2:=congrArg Prod.snd he;rw[←e1,←e2];exact⟨rfl,hr,kk,HZ.out⟩
theorem aae (n b k:Nat)(hn:n<128^k)(hk:k<9):bits .or .i64 (n:Int) (wrap64 ((b:Int)%128*2^(7*k)))=((n+b%128*128^k:Nat):Int)∧n+b%128*128^k<128^(k+1):=by
 have h:=Pw n (b%128) k hn af hk;refine⟨?_,h.2.1⟩;rw[←h.1];have e:((b:Int)%128*2^(7*k))=((b%128*128^k:Nat):Int):=by
  rw[show(128:Nat)^k=2^(7*k) by rw[show(128:Nat)=2^7 from rfl,←Nat.pow_mul]]
  push_cast
  rfl
 rw[e];have h3:=h.2.2;generalize b%128*128^k=c at h3
 congr 1
 unfold wrap64;omega
theorem z_ (C:Nat→Prop)(w:World)(q:Nat)(r:Pl.dS)(hq:¬C q)(h:fM C w q r)(hl:r.1.length≤1000000):
 Calls Tryz.prog 160 #[PtrTo q 0] w fun e w'=>e=.returned (.tuple #[.int .i64 (Pl.jP r).1,.bool (Pl.jP r).2.1])∧fM C w' q (Pl.jP r).2.2∧Kp (fun k=>k=q) w w'∧w'.heap.size=w.heap.size:=by
 go_enter Tryz.func160,Tryz.ntmps160;go_wp2;go_loopw [4,5] (fun t i wr=>∃(k n:Nat)(r':Pl.dS),i=.int .i64 (7*k)∧k≤9∧t=.int .i64 n∧n<128^k∧Pl.ko (9-k) k n r'=Pl.jP r∧fM C wr q r'∧r'.1.length≤1000000∧Kp (fun k=>k=q) w wr∧wr.heap.size=w.heap.size) (fun _ i _=>63-(intOf i).toNat)
 case atStart=>exact⟨0,0,r,rfl,af,rfl,by decide,rfl,h,hl,Kp.refl _ _,rfl⟩
 case round=>
  obtain⟨k,n,r',rfl,hk,rfl,hn,he,hr,hl',kk,hz⟩:=hrel;have HE:=hide he;have HZ:=hide hz;have HN:=hide hn;clear he hz hn;have hb:=zZ r';have hbl:=nP r';by_cases hk9:k<9
  ·have n1:(7:Int)*(k:Int)<63:=af;have ho:=hide (aae n (Pl.dX r').1 k HN.out hk9);have e9:Pl.jP r=Pl.ko (9-(k+1)+1) k n r':=by rw[←HE.out,show 9-k=9-(k+1)+1 from af]
   have HE9:=hide e9;clear e9;by_cases h128:(Pl.dX r').1<128
   ·go_wp2_with (go_at_call 172;refine(pz C _ q r' hq hr hl').mono ?_;rintro e w1 ⟨rfl,hr1,k1,z1⟩)
    ·rename_i h0;have e:=HE9.out;simp only[Pl.ko,h0,Nat.zero_mod,Nat.zero_mul,Nat.add_zero,show(0:Nat)<128 from af,if_true,Nat.lt_irrefl,false_or]at e;have ho1:=ho.out.1;simp only[h0,Nat.zero_mod,Nat.zero_mul,Nat.add_zero,Int.natCast_zero,Int.zero_emod,Int.zero_mul]at ho1
     go_ret2
     rw[e];refine⟨?_,hr1,kk.trans k1,z1.trans HZ.out⟩;show Ending.returned (.tuple #[.int .i64 (bits .or .i64 (n:Int) (wrap64 0)),.bool (7*(k:Int)==0)])=.returned (.tuple #[.int .i64 n,.bool (decide (k=0))]);rw[ho1,show(7*(k:Int)==0)=decide (k=0) by rw[Bool.eq_iff_iff,beq_iff_eq,decide_eq_true_iff];omega]
    ·rename_i h0;have e:=HE9.out;simp only[Pl.ko,h128,if_true]at e
     go_ret2
     rw[e];refine⟨?_,hr1,kk.trans k1,z1.trans HZ.out⟩;rw[ho.out.1,show decide (0<(Pl.dX r').1∨k=0)=true by simp;omega];rfl
   ·go_wp2_with (go_at_call 172;refine(pz C _ q r' hq hr hl').mono ?_;rintro e w1 ⟨rfl,hr1,k1,z1⟩)
    have e:=HE9.out;simp only[Pl.ko,h128,if_false]at e;refine⟨⟨k+1,_,(Pl.dX r').2,by go_num,af,by rw[ho.out.1],ho.out.2,e.symm,hr1,af,kk.trans k1,z1.trans HZ.out⟩,by simp[intOf];omega⟩
  ·go_wp2_with fail
   go_ret2
   have e4:9-k=0:=af;have he:=HE.out;rw[e4]at he;rw[←he];exact⟨rfl,hr,kk,HZ.out⟩
theorem WY (f:Nat):∀(i n:Nat)(r:Pl.dS),n<128^i→i+f=9→(Pl.ko f i n r).1<9223372036854775808:=by
 induction f with
 |zero=>intro i n r _ _;exact Nat.zero_lt_succ _
 |succ f ih=>
  intro i n r hn hi;have h:=Pw n ((Pl.dX r).1%128) i hn af af;have h3:(128:Nat)^(i+1)≤128^9:=Nat.pow_le_pow_right af af;have h4:(128:Nat)^9=9223372036854775808:=by decide
  rw[Pl.ko];split
  ·exact aY h.2.1 (h4▸h3)
  ·exact ih _ _ _ h.2.1 af
theorem aaf (r:Pl.dS):(Pl.jP r).1<9223372036854775808:=WY 9 0 0 r (by decide) rfl
theorem Tw (f:Nat):∀(i n:Nat)(r:Pl.dS),(Pl.ko f i n r).2.2.1.length≤r.1.length:=by
 induction f with
 |zero=>intro i n r;exact aK _
 |succ f ih=>
  intro i n r;rw[Pl.ko];split
  ·exact nP r
  ·exact aO (ih _ _ _) (nP r)
theorem jl (a b:Nat)(r:Pl.dS):(Pl.di a b r).2.1.length≤r.1.length:=by
 unfold Pl.di;split<;>exact Tw 9 0 0 r
theorem oJ (a b:Nat)(r:Pl.dS)(h:a≤b):a≤(Pl.di a b r).1∧(Pl.di a b r).1≤b:=by
 unfold Pl.di;split<;>simp only<;>omega
theorem CY (a b:Nat)(r:Pl.dS):a≤(Pl.di a b r).1∧((Pl.di a b r).1≤b∨(Pl.di a b r).1=a):=by
 unfold Pl.di;split
 ·exact⟨aK _,.inr rfl⟩
 ·simp only;omega
theorem fM.wrong {C:Nat→Prop}{w:World}{q:Nat}{r:Pl.dS}(hq:¬C q)(h:fM C w q r):fM C (w.setCell ⟨q,1,none⟩ (.bool true)) q (r.1,true):=by
 obtain⟨v,hb,hr⟩:=h;exact⟨v,hb.set 1 (.bool true),hr.go (S:=fun k=>k=q) (bI _ _ _ _) (fun i hi(e:i=q)=>hq (e▸hi)) (fun _ _ e=>e)⟩
theorem mW (C:Nat→Prop)(w:World)(q:Nat)(r:Pl.dS)(hq:¬C q)(h:fM C w q r)(hl:r.1.length≤1000000)(a:Nat)(b:Int)(b':Nat)(ha:a≤1000000)(hb:b≤1099511627775)(hbb:b=b'∨(b<0∧b'=0∧0<a))(hb0:-1099511627775≤b):
 Calls Tryz.prog 142 #[PtrTo q 0,.int .i64 a,.int .i64 b] w fun e w'=>e=.returned (.int .i64 (Pl.di a b' r).1)∧fM C w' q (Pl.di a b' r).2∧Kp (fun k=>k=q) w w'∧w'.heap.size=w.heap.size:=by
 have hv:=aaf r;go_enter Tryz.func142,Tryz.ntmps142;by_cases hc:(Pl.jP r).2.1=false∨(Pl.jP r).1<a∨b'<(Pl.jP r).1
 ·have hN:Pl.di a b' r=(a,((Pl.jP r).2.2.1,true)):=by unfold Pl.di;rw[if_pos hc]
  have HN:=hide hN;clear hN;have HH:∀w1,fM C w1 q (Pl.jP r).2.2→w1.cell? ⟨q,1,none⟩=some (.bool (Pl.jP r).2.2.2)∧w1.frozen? ⟨q,1,none⟩=false:=by
   rintro w1 ⟨v,hb,-⟩;exact⟨hb.cell 1,hb.free 1⟩
  cases hc1:(Pl.jP r).2.1 with
  |false=>
   go_wp2_with (go_at_call 160;refine(z_ C _ q r hq h hl).mono ?_;rintro e w1 ⟨rfl,hr1,k1,z1⟩;obtain⟨c1,f1⟩:=HH _ hr1)
   go_ret;rw[HN.out];exact⟨rfl,hr1.wrong hq,k1.trans (bI _ _ _ _),(size_set _ _ _).trans z1⟩
  |true=>
   by_cases hc2:(Pl.jP r).1<a
   ·go_wp2_with (go_at_call 160;refine(z_ C _ q r hq h hl).mono ?_;rintro e w1 ⟨rfl,hr1,k1,z1⟩;obtain⟨c1,f1⟩:=HH _ hr1)
    go_ret;rw[HN.out];exact⟨rfl,hr1.wrong hq,k1.trans (bI _ _ _ _),(size_set _ _ _).trans z1⟩
   ·have hc3:b<(Pl.jP r).1:=by
     rcases hc with hc|hc|hc
     ·rw[hc1]at hc;cases hc
     ·omega
     ·omega
    go_wp2_with (go_at_call 160;refine(z_ C _ q r hq h hl).mono ?_;rintro e w1 ⟨rfl,hr1,k1,z1⟩;obtain⟨c1,f1⟩:=HH _ hr1)
    go_ret;rw[HN.out];exact⟨rfl,hr1.wrong hq,k1.trans (bI _ _ _ _),(size_set _ _ _).trans z1⟩
 ·have hN:Pl.di a b' r=((Pl.jP r).1,(Pl.jP r).2.2):=by unfold Pl.di;rw[if_neg hc]
  have HN:=hide hN;clear hN;have hc1:(Pl.jP r).2.1=true:=by simpa using fun e=>hc (.inl e)
  have hc2:¬(Pl.jP r).1<a:=fun e=>hc (.inr (.inl e))
  have hc3:¬b'<(Pl.jP r).1:=fun e=>hc (.inr (.inr e))
  have hbe:b=b':=af;subst hbe;clear hc hbb
  go_wp2_with (go_at_call 160;refine(z_ C _ q r hq h hl).mono ?_;rintro e w1 ⟨rfl,hr1,k1,z1⟩)
  go_ret;rw[HN.out];exact⟨rfl,hr1,k1,z1⟩
theorem nW (C:Nat→Prop)(w:World)(q:Nat)(r:Pl.dS)(h:fM C w q r)(hl:r.1.length≤1000000):
 Calls Tryz.prog 145 #[PtrTo q 0] w fun e w'=>e=.returned (.bool (Pl.iN r))∧w'=w:=by
 obtain⟨v,hb,hr⟩:=h;obtain⟨l,bad⟩:=r;have c0:=hb.cell 0;have c1:=hb.cell 1;obtain⟨-,ao,cap,rfl,h1,-⟩:=hr;simp only[au]at c0 c1 hl;cases bad with
 |true=>
  go_enter Tryz.func145,Tryz.ntmps145
  go_wp2_with fail
  go_ret;exact⟨rfl,rfl⟩
 |false=>
  go_enter Tryz.func145,Tryz.ntmps145
  go_wp2_with fail
  go_ret;refine⟨?_,rfl⟩;show Ending.returned (.bool ((l.length:Int)==0))=.returned (.bool (!false&&decide (l.length=0)));rw[show((l.length:Int)==0)=(!false&&decide (l.length=0)) by rw[Bool.eq_iff_iff,beq_iff_eq,Bool.and_eq_true,decide_eq_true_iff];simp]
theorem oz (C:Nat→Prop)(w:World)(v:Value)(l:List UInt8)(h:bM C false w 1 v l.length (l.map B)):
 Calls Tryz.prog 141 #[v] w fun e w'=>e=.returned (PtrTo w.heap.size 0)∧fM C w' w.heap.size (l,false)∧Ext w w'∧w'.heap.size=w.heap.size+1:=by
 have hr0:=h;obtain⟨-,ao,cap,rfl,h1,-⟩:=hr0;have HH:=hide h;clear h;go_enter Tryz.func141,Tryz.ntmps141
 go_wp2_with fail
 go_ret;refine⟨rfl,⟨_,bK.bO _ _ _,HH.out.go (S:=fun _=>False) (ax.alloc _) (fun _ _ f=>f) (fun _ _ e=>e)⟩,ax.alloc _,aj⟩
theorem Tx (C:Nat→Prop)(w:World)(q:Nat)(r:Pl.dS)(hq:¬C q)(h:fM C w q r)(hl:r.1.length≤1000000)(n:Nat)(hn:n≤1000000)(hn1:0<n):
 Calls Tryz.prog 143 #[PtrTo q 0,.int .i64 n] w fun e w'=>e=.returned (.string ⟨(Pl.mh n r).1.toArray⟩)∧fM C w' q (Pl.mh n r).2∧Kp (fun k=>k=q) w w'∧w'.heap.size=w.heap.size:=by
 go_enter Tryz.func143,Tryz.ntmps143;by_cases hc:r.1.length<n
 ·have hN:Pl.mh n r=([],(r.1,true)):=by unfold Pl.mh;rw[if_pos hc]
  have h2:=hide (h.wrong hq);have HN:=hide hN;clear hN;obtain⟨v,hb,hr⟩:=h;have c0:=hb.cell 0;have c1:=hb.cell 1;have f1:=hb.free 1;obtain⟨_,ao,cap,rfl,h1,-⟩:=hr;simp only[au]at c0 c1
  go_wp2_with fail
  go_ret;rw[HN.out];exact⟨rfl,h2.out,bI _ _ _ _,size_set _ _ _⟩
 ·have hN:Pl.mh n r=(r.1.take n,(r.1.drop n,r.2)):=by unfold Pl.mh;rw[if_neg hc]
  have HN:=hide hN;clear hN;obtain⟨v,hb,hr⟩:=h;have c0:=hb.cell 0;have f0:=hb.free 0;have hr0:=hide hr;obtain⟨-,ao,cap,rfl,h1,h3⟩:=hr;obtain⟨g,off,rfl,hC,hlt,hc',-⟩:=h3 af;have hr2:=hide (hr0.out.drop1 (q:=n) af);have wB:¬g=q:=fun e=>hq (e▸hC)
  simp only[aA]at c0;clear h3;have hcv:Sem.run Tryz.prog (convert 76 9 (.slice (some ⟨g,off,none⟩) n cap)) w=.ok (.string ⟨(r.1.take n).toArray⟩) w:=by
   have e:=run_convert_bytes_back (P:=Tryz.prog) w 76 9 5 ⟨g,off,none⟩ cap (r.1.take n) Tryz.underlying76 Tryz.underlying5 Tryz.underlying9 (fun j hj=>by
    rw[aU]at hj;have:=hc' j af;have ea:(⟨g,off,none⟩:Addr).add j=⟨g,off+j,none⟩:=by
     unfold Addr.add;by_cases h0:j=0
     ·subst h0;rfl
     ·simp[h0]
    rw[ea,this,aN,ay af,List.getElem_take];rfl)
   rwa[aU,Nat.min_eq_left af]at e
  clear hc'
  go_wp2_with fail
  all_goals(
   have hr3:=hr2.out;simp only[h,if_true,if_false,Nat.sub_self,←List.map_drop,←bq]at hr3;rw[←bq];have hb2:=hb.set 0 (.slice (some ⟨g,off,none⟩) (r.1.drop n).length 0);have hb3:=hb.set 0 (.slice (some ⟨g,off+n,none⟩) (r.1.drop n).length (cap-n));go_ret;rw[HN.out];refine⟨rfl,⟨_,?_,hr3.go (S:=fun k=>k=q) (bI _ _ _ _) (fun i hi(e:i=q)=>hq (e▸hi)) (fun _ _ e=>e)⟩,bI _ _ _ _,size_set _ _ _⟩;first|exact hb2|exact hb3)
theorem EC {α:Type}(d:List α)(cs:List α)(v:α)(h:d.length<cs.length):(d++cs.drop d.length).set d.length v=(d++[v])++cs.drop (d.length+1):=by
 rw[List.set_append_right _ _ (aK _),Nat.sub_self,aV h,List.set_cons_zero,aW];rfl
theorem Dw (n:Nat)(r:Pl.dS):(Pl.iter Pl.fG n ([],r)).1.length=n∧(Pl.iter Pl.fG n ([],r)).2.1.length≤r.1.length:=by
 induction n with
 |zero=>exact⟨rfl,aK _⟩
 |succ n ih=>exact⟨by simp[Pl.iter,Pl.fG,ih.1],aO (jl _ _ _) ih.2⟩
theorem Kl (C:Nat→Prop)(w:World)(q g:Nat)(r:Pl.dS)(cs:List Value)(hq:¬C q)(hg:¬C g)(wB:g≠q)(h:fM C w q r)(hl:r.1.length≤1000000)(hb:bK w g cs 3)(h0:0<cs.length)(h20:cs.length≤20):
 Calls Tryz.prog 155 #[.slice (some ⟨g,0,none⟩) cs.length cs.length,PtrTo q 0] w fun e w'=>e=.returned (.tuple #[])∧fM C w' q (Pl.iter Pl.fG cs.length ([],r)).2∧bK w' g ((Pl.iter Pl.fG cs.length ([],r)).1.map I) 3∧Kp (fun k=>k=q∨k=g) w w'∧w'.heap.size=w.heap.size:=by
 go_enter Tryz.func155,Tryz.ntmps155;go_wp2;go_loopw [7] (fun i wr=>∃(k:Nat),i=.int .i64 k∧k≤cs.length∧fM C wr q (Pl.iter Pl.fG k ([],r)).2∧bK wr g ((Pl.iter Pl.fG k ([],r)).1.map I++cs.drop k) 3∧Kp (fun k=>k=q∨k=g) w wr∧wr.heap.size=w.heap.size) (fun i _=>cs.length-(intOf i).toNat)
 case atStart=>exact⟨0,rfl,af,h,hb,Kp.refl _ _,rfl⟩
 case round=>
  obtain⟨k,rfl,hk,hr,hb',kk,hz⟩:=hrel;have hlen:=Dw k r;have HZ:=hide hz;clear hz h hb;have HB:∀w1,Kp (fun k=>k=q) wr w1→k<cs.length→bK w1 g ((Pl.iter Pl.fG k ([],r)).1.map I++cs.drop k) 3∧w1.frozen? ⟨g,k,none⟩=false∧∃v,w1.cell? ⟨g,k,none⟩=some v:=by
   intro w1 k1 hkl;have b1:=hb'.kept k1 wB;refine⟨b1,b1.free k,_,(b1.cell k).trans (ay (by simp[hlen.1];omega))⟩
  by_cases hkl:k<cs.length
  ·go_wp2_with (go_at_call 142;go_must (refine(mW C _ q _ hq hr af 0 1099511627775 1099511627775 af af (.inl rfl) af).mono ?_);rintro e w1 ⟨rfl,hr1,k1,z1⟩;obtain⟨b1,f1,v1,c1⟩:=HB _ k1 hkl)
   refine⟨⟨k+1,by go_num,af,?_,?_,(kk.trans (k1.mono fun _ _ e=>.inl e)).trans ((bI _ _ _ _).mono fun _ _ e=>.inr e),(size_set _ _ _).trans (z1.trans HZ.out)⟩,by simp[intOf];omega⟩
   ·exact hr1.kept (bI _ _ _ _) (fun e=>wB e.symm) (fun i hi e=>hg (e▸hi))
   ·have b2:=b1.set k (.int .i64 (Pl.di 0 1099511627775 (Pl.iter Pl.fG k ([],r)).2).1);have e:=EC ((Pl.iter Pl.fG k ([],r)).1.map I) cs (.int .i64 (Pl.di 0 1099511627775 (Pl.iter Pl.fG k ([],r)).2).1) (by simp[hlen.1];omega);simp only[aQ,hlen.1]at e;rw[e]at b2;simpa[Pl.iter,Pl.fG,I]using b2
  ·go_wp2_with fail
   have e:k=cs.length:=af;subst e
   go_end0
   rw[List.drop_length,List.append_nil]at hb';exact⟨rfl,hr,hb',kk,HZ.out⟩
theorem Bz (n:Nat)(r:Pl.dS):(Pl.iter Pl.dL n ([],0,r)).1.length=n∧(Pl.iter Pl.dL n ([],0,r)).2.1≤1099511627775∧(Pl.iter Pl.dL n ([],0,r)).2.2.1.length≤r.1.length:=by
 induction n with
 |zero=>exact⟨rfl,by simp[Pl.iter],aK _⟩
 |succ n ih=>
  have h:=oJ 0 (1099511627775-(Pl.iter Pl.dL n ([],0,r)).2.1) (Pl.iter Pl.dL n ([],0,r)).2.2 (aM _);refine⟨by simp[Pl.iter,Pl.dL,ih.1],?_,aO (jl _ _ _) ih.2.2⟩;simp only[Pl.iter,Pl.dL];omega
theorem Hy (C:Nat→Prop)(w:World)(q g:Nat)(r:Pl.dS)(cs:List Value)(hq:¬C q)(hg:¬C g)(wB:g≠q)(h:fM C w q r)(hl:r.1.length≤1000000)(hb:bK w g cs 3)(h0:0<cs.length)(h20:cs.length≤20):
 Calls Tryz.prog 159 #[.slice (some ⟨g,0,none⟩) cs.length cs.length,PtrTo q 0] w fun e w'=>e=.returned (.tuple #[])∧fM C w' q (Pl.iter Pl.dL cs.length ([],0,r)).2.2∧bK w' g ((Pl.iter Pl.dL cs.length ([],0,r)).1.map I) 3∧Kp (fun k=>k=q∨k=g) w w'∧w'.heap.size=w.heap.size:=by
 go_enter Tryz.func159,Tryz.ntmps159;go_wp2;go_loopw [4,8] (fun a i wr=>∃(k:Nat),i=.int .i64 k∧k≤cs.length∧a=.int .i64 (Pl.iter Pl.dL k ([],0,r)).2.1∧fM C wr q (Pl.iter Pl.dL k ([],0,r)).2.2∧bK wr g ((Pl.iter Pl.dL k ([],0,r)).1.map I++cs.drop k) 3∧Kp (fun k=>k=q∨k=g) w wr∧wr.heap.size=w.heap.size) (fun _ i _=>cs.length-(intOf i).toNat)
 case atStart=>exact⟨0,rfl,af,rfl,h,hb,Kp.refl _ _,rfl⟩
 case round=>
  obtain⟨k,rfl,hk,rfl,hr,hb',kk,hz⟩:=hrel;have hlen:=Bz k r;have hle:=oJ 0 (1099511627775-(Pl.iter Pl.dL k ([],0,r)).2.1) (Pl.iter Pl.dL k ([],0,r)).2.2 (aM _);have HZ:=hide hz;clear hz h hb;have HS:Hid (Pl.iter Pl.dL (k+1) ([],0,r)=Pl.dL (Pl.iter Pl.dL k ([],0,r))):=hide rfl;generalize hst:Pl.iter Pl.dL k ([],0,r)=st at*;obtain⟨xs,ah,r'⟩:=st;have HT:=hide hst;clear hst;simp only at*;have HB:∀w1,Kp (fun k=>k=q) wr w1→k<cs.length→bK w1 g (xs.map I++cs.drop k) 3∧w1.frozen? ⟨g,k,none⟩=false∧∃v,w1.cell? ⟨g,k,none⟩=some v:=by
   intro w1 k1 hkl;have b1:=hb'.kept k1 wB;refine⟨b1,b1.free k,_,(b1.cell k).trans (ay (by simp[hlen.1];omega))⟩
  by_cases hkl:k<cs.length
  ·go_wp2_with (go_at_call 142;go_must (refine(mW C _ q _ hq hr af 0 (1099511627775-ah) (1099511627775-ah) af af (.inl af) af).mono ?_);rintro e w1 ⟨rfl,hr1,k1,z1⟩;obtain⟨b1,f1,v1,c1⟩:=HB _ k1 hkl)
   generalize hnn:(Pl.di 0 (1099511627775-ah) r').1=nn at*;refine⟨⟨k+1,by go_num,af,?_,?_,?_,(kk.trans (k1.mono fun _ _ e=>.inl e)).trans ((bI _ _ _ _).mono fun _ _ e=>.inr e),(size_set _ _ _).trans (z1.trans HZ.out)⟩,by simp[intOf];omega⟩
   ·rw[HS.out];simp[Pl.dL,hnn]
   ·rw[HS.out];exact hr1.kept (bI _ _ _ _) (fun e=>wB e.symm) (fun i hi e=>hg (e▸hi))
   ·rw[HS.out];have b2:=b1.set k (.int .i64 ((ah:Int)+nn));have e:=EC (xs.map I) cs (.int .i64 ((ah:Int)+nn)) (by simp[hlen.1];omega);simp only[aQ,hlen.1]at e;rw[e]at b2;simpa[Pl.dL,I,hnn]using b2
  ·go_wp2_with fail
   have e:k=cs.length:=af;subst e
   go_end0
   rw[List.drop_length,List.append_nil]at hb';rw[HT.out];exact⟨rfl,hr,hb',kk,HZ.out⟩
theorem FJ (f left:Nat)(xs:List Int)(r:Pl.dS)(h:0<left):Pl.jA (f+1) left (xs,r)=Pl.jA f (left-(Pl.di 1 left r).1) (xs++List.replicate (Pl.di 1 left r).1 ((Pl.di 0 1099511627775 (Pl.di 1 left r).2).1:Int),(Pl.di 0 1099511627775 (Pl.di 1 left r).2).2):=by
 rw[Pl.jA,if_neg af]
theorem FK (f:Nat)(s:List Int×Pl.dS):Pl.jA f 0 s=s:=by
 cases f with
 |zero=>rfl
 |succ f=>rw[Pl.jA,if_pos rfl]
theorem Lj (C:Nat→Prop)(w:World)(q g:Nat)(r:Pl.dS)(cs:List Value)(hq:¬C q)(hg:¬C g)(wB:g≠q)(h:fM C w q r)(hl:r.1.length≤1000000)(hb:bK w g cs 3)(h0:0<cs.length)(h20:cs.length≤20):
 Calls Tryz.prog 157 #[.slice (some ⟨g,0,none⟩) cs.length cs.length,PtrTo q 0] w fun e w'=>e=.returned (.tuple #[])∧fM C w' q (Pl.jA cs.length cs.length ([],r)).2∧bK w' g ((Pl.jA cs.length cs.length ([],r)).1.map I) 3∧Kp (fun k=>k=q∨k=g) w w'∧w'.heap.size=w.heap.size:=by
 go_enter Tryz.func157,Tryz.ntmps157;go_wp2;go_loopw [0] (fun v wr=>∃(f left off:Nat)(xs:List Int)(r':Pl.dS),v=.slice (some ⟨g,off,none⟩) left left∧xs.length+left=cs.length∧(0<left→off=xs.length)∧left≤f∧Pl.jA f left (xs,r')=Pl.jA cs.length cs.length ([],r)∧r'.1.length≤r.1.length∧fM C wr q r'∧bK wr g (xs.map I++cs.drop xs.length) 3∧Kp (fun k=>k=q∨k=g) w wr∧wr.heap.size=w.heap.size) (fun v _=>(match v with|.slice _ n _=>n|_=>0))
 case atStart=>exact⟨cs.length,cs.length,0,[],r,rfl,aj,fun _=>rfl,aK _,rfl,aK _,h,hb,Kp.refl _ _,rfl⟩
 case round=>
  obtain⟨f,left,off,xs,r',rfl,hxl,hoff,hf,he,hlr,hr,hb',kk,hz⟩:=hrel;have HZ:=hide hz;have HE:=hide he;clear hz h hb he;by_cases h0l:0<left
  ·obtain rfl:=hoff h0l;obtain⟨f,rfl⟩:∃f',f=f'+1:=⟨f-1,af⟩
   have hst:=FJ f left xs r' h0l;have HS:=hide (hst.symm.trans HE.out);clear hst;have hk:=oJ 1 left r' h0l;have hkl:=jl 1 left r';have hnl:=jl 0 1099511627775 (Pl.di 1 left r').2;generalize hA:Pl.di 1 left r'=A at*;obtain⟨len,r1⟩:=A;simp only at*;have hn:=oJ 0 1099511627775 r1 (aM _);generalize hB:Pl.di 0 1099511627775 r1=N at*;obtain⟨n,r2⟩:=N;simp only at*
   go_wp2_with (go_at_call 142;first|(have hr1':=hr1;go_must (refine((mW C _ q r1 hq hr1 af 0 1099511627775 1099511627775 af af (.inl rfl) af).mono ?_));rw[hB];rintro e w2 ⟨rfl,hr2,k2,z2⟩;skip)|(go_must (refine(mW C _ q r' hq hr af 1 left left af af (.inl rfl) af).mono ?_);rw[hA];rintro e w1 ⟨rfl,hr1,k1,z1⟩;skip))
   have bb:=(hb'.kept k1 wB).kept k2 wB;have IX:=(kk.trans (k1.mono (S':=fun k=>k=q∨k=g) fun _ _ e=>.inl e)).trans (k2.mono (S':=fun k=>k=q∨k=g) fun _ _ e=>.inl e);have HZ2:Hid (w2.heap.size=w.heap.size):=hide (z2.trans (z1.trans HZ.out));clear z1 z2 hb' kk HZ hr hr1 hr1' k1 k2 hoff;go_loopw [17] (fun i wr2=>∃k:Nat,i=.int .i64 k∧k≤len∧fM C wr2 q r2∧bK wr2 g ((xs++List.replicate k (n:Int)).map I++cs.drop (xs.length+k)) 3∧Kp (fun k=>k=q∨k=g) w wr2∧wr2.heap.size=w.heap.size) (fun i _=>len-(intOf i).toNat)
   case atStart=>exact⟨0,rfl,af,hr2,by simpa using bb,IX,HZ2.out⟩
   case round=>
    obtain⟨k,rfl,amE,hr3,hb3,K3,hz3⟩:=hrel;have HZ3:=hide hz3;clear hz3;have hlen3:((xs++List.replicate k (n:Int)).map I).length=xs.length+k:=aj;by_cases hkk:k<len
    ·have f1:=hb3.free (xs.length+k);have c1:=(hb3.cell (xs.length+k)).trans (ay (by rw[aD,hlen3,bq];omega))
     go_wp2_with fail
     refine⟨⟨k+1,by go_num,af,hr3.kept (bI _ _ _ _) (fun e=>wB e.symm) (fun i hi e=>hg (e▸hi)),?_,K3.trans ((bI _ _ _ _).mono fun _ _ e=>.inr e),(size_set _ _ _).trans HZ3.out⟩,by simp[intOf];omega⟩;have b2:=hb3.set (xs.length+k) (.int .i64 n);have e:=EC ((xs++List.replicate k (n:Int)).map I) cs (.int .i64 n) (by rw[hlen3];omega);rw[hlen3]at e;rw[e]at b2;rw[List.replicate_succ',←aW,a_];exact b2
    ·obtain rfl:k=len:=af
     go_wp2_with fail
     refine⟨⟨f,left-k,if left=k then xs.length else xs.length+k,xs++List.replicate k (n:Int),r2,?_,by simp;omega,?_,af,HS.out,af,hr3,?_,K3,HZ3.out⟩,?_⟩
     ·by_cases hlk:left=k<;>simp[hlk]
     ·intro hp;rw[if_neg af];simp
     ·simpa using hb3
     ·show left-k<left;omega
  ·obtain rfl:left=0:=af
   go_wp2_with fail
   go_end0
   rw[←HE.out,FK];rw[show xs.length=cs.length from af,List.drop_length,List.append_nil]at hb';exact⟨rfl,hr,hb',kk,HZ.out⟩
theorem yS (u:World)(k:Nat)(f g:Value)(hk:k<3)(hf:#[F 154,F 156,F 158][k]?=some f)(hg:#[F 155,F 157,F 159][k]?=some g):
 (Instr.index 220 xV (.int .u8 k)).run Tryz.prog u=.ok (.agg #[f,g]) u:=by
 have h3:k=0∨k=1∨k=2:=af;rcases h3 with rfl|rfl|rfl;all_goals
  simp at hf hg;subst hf;subst hg;simp[Instr.index,run_underlying Tryz.underlying220,go_sem]
theorem Aa (u:World)(f g:Nat):(Instr.field 219 (.agg #[F f,F g]) 1).run Tryz.prog u=.ok (F g) u:=by
 simp[Instr.field,asAgg,run_underlying Tryz.underlying219,go_sem]
inductive lN (w w':World)(rows:Nat):Option (List Int)→Ending→Prop
 |no:lN w w' rows none (.returned (.tuple #[.slice none 0 0,.bool false]))
 |yes (g:Nat) (xs:List Int) (hg:w.heap.size≤g) (hb:bK w' g (xs.map I) 3) (hl:xs.length=rows):lN w w' rows (some xs) (.returned (.tuple #[.slice (some ⟨g,0,none⟩) rows rows,.bool true]))
theorem Ll (C:Nat→Prop)(w:World)(v:Value)(l:List UInt8)(rows:Nat)(hC:∀i,C i→i<w.heap.size)(h:bM C false w 1 v l.length (l.map B))(hl:l.length≤1000000)(hk:3≤(Pl.dX (l,false)).1):
 Calls Tryz.prog 179 #[v,.int .i64 rows] w fun e w'=>Ext w w'∧lN w w' rows (Pl.gD l rows) e:=by
 have hq:¬C w.heap.size:=fun e=>Nat.lt_irrefl _ (hC _ e)
 have hb:=zZ (l,false);have HP:Hid (Pl.gD l rows=none):=hide (by unfold Pl.gD;simp only;rw[if_pos hk]);go_enter Tryz.func179,Tryz.ntmps179
 go_wp2_with (first|(go_at_call 141;refine(oz C _ v l h).mono ?_;rintro e w1 ⟨rfl,hr1,x1,z1⟩)|(go_at_call 172;refine(pz C _ w.heap.size (l,false) hq hr1 hl).mono ?_;rintro e w2 ⟨rfl,hr2,k2,z2⟩))
 go_ret2
 rw[HP.out];exact⟨Kp.then x1 k2 (fun i hi e=>af),.no⟩
theorem QL (C:Nat→Prop)(w:World)(v:Value)(l:List UInt8)(rows:Nat)(hC:∀i,C i→i<w.heap.size)(h:bM C false w 1 v l.length (l.map B))(hl:l.length≤1000000)(h1:1≤rows)(h20:rows≤20)(hk:(Pl.dX (l,false)).1=0):
 Calls Tryz.prog 179 #[v,.int .i64 rows] w fun e w'=>Ext w w'∧lN w w' rows (Pl.gD l rows) e:=by
 have hq:¬C w.heap.size:=fun e=>Nat.lt_irrefl _ (hC _ e)
 have hbl:=nP (l,false);have hi:∀u,(Instr.index 220 xV (.int .u8 0)).run Tryz.prog u=.ok (.agg #[F 154,F 155]) u:=fun u=>yS u 0 _ _ af rfl rfl
 have l8:∀u,(Instr.field 219 (.agg #[F 154,F 155]) 1).run Tryz.prog u=.ok (F 155) u:=fun u=>Aa u _ _
 have hlen:=Dw rows (Pl.dX (l,false)).2;have HP:Hid (Pl.gD l rows=if Pl.iN (Pl.iter Pl.fG rows ([],(Pl.dX (l,false)).2)).2=true then some (Pl.iter Pl.fG rows ([],(Pl.dX (l,false)).2)).1 else none):=hide (by unfold Pl.gD;simp only[hk];rfl);go_enter Tryz.func179,Tryz.ntmps179
 go_wp2_with (first|(go_at_call 141;refine(oz C _ v l h).mono ?_;rintro e w1 ⟨rfl,hr1,x1,z1⟩)|(go_at_call 172;refine(pz C _ w.heap.size (l,false) hq hr1 hl).mono ?_;rw[hk];rintro e w2 ⟨rfl,hr2,k2,z2⟩)|(refine gT _ rfl _ _ _ rfl 3 (.int .i64 0) 8 Tryz.underlying243 rfl rfl rows _ _ rfl rfl rfl rfl af af ?_;intro w3 b3 x3 z3)|(go_at_call 139;refine(zN _).mono ?_;rintro e w4 ⟨rfl,x4⟩))
 have hC4:∀i,C i→i≠w.heap.size:=fun i hi e=>hq (e▸hi)
 have hg:¬C (w.heap.size+1):=fun e=>by have:=hC _ e;omega
 have x2:Ext w w2:=Kp.then x1 k2 (fun i hi e=>af);have z2':w2.heap.size=w.heap.size+1:=af;rw[z2']at b3;have hrd:=Kl C w4 w.heap.size (w.heap.size+1) (Pl.dX (l,false)).2 (List.replicate rows (.int .i64 0)) hq hg af ((hr2.kept x3 id (fun _ _=>id)).kept x4 id (fun _ _=>id)) af (b3.kept x4 id) (by simp;omega) (by simp;omega);rw[List.length_replicate]at hrd;refine hrd.mono ?_;rintro e w5 ⟨rfl,FL,b5,k5,z5⟩;have x5:Ext w w5:=Kp.then ((x2.trans x3).trans x4) k5 (fun i hi e=>af);clear hrd z2 z2' z3 z1 z5 hr1 hr2 b3 hi l8;cases hR:Pl.iN (Pl.iter Pl.fG rows ([],(Pl.dX (l,false)).2)).2 with
 |true=>
  go_wp2_with (go_at_call 145;refine(nW C _ w.heap.size _ FL af).mono ?_;rw[hR];rintro e w6 ⟨rfl,rfl⟩)
  go_ret2
  rw[HP.out,if_pos hR];exact⟨x5,.yes _ _ af b5 hlen.1⟩
 |false=>
  go_wp2_with (go_at_call 145;refine(nW C _ w.heap.size _ FL af).mono ?_;rw[hR];rintro e w6 ⟨rfl,rfl⟩)
  go_ret2
  rw[HP.out,if_neg (by rw[hR];exact Bool.false_ne_true)];exact⟨x5,.no⟩
theorem Ty (f:Nat):∀(left:Nat)(xs:List Int)(r:Pl.dS),left≤f→(Pl.jA f left (xs,r)).1.length=xs.length+left∧(Pl.jA f left (xs,r)).2.1.length≤r.1.length:=by
 induction f with
 |zero=>
  intro left xs r h;obtain rfl:left=0:=af;exact⟨rfl,aK _⟩
 |succ f ih=>
  intro left xs r h;by_cases h0:left=0
  ·subst h0;rw[FK];exact⟨rfl,aK _⟩
  ·rw[FJ f left xs r af];have hk:=oJ 1 left r af;have hkl:=jl 1 left r;have hnl:=jl 0 1099511627775 (Pl.di 1 left r).2;have h2:=ih (left-(Pl.di 1 left r).1) (xs++List.replicate (Pl.di 1 left r).1 ((Pl.di 0 1099511627775 (Pl.di 1 left r).2).1:Int)) (Pl.di 0 1099511627775 (Pl.di 1 left r).2).2 af;rw[aD,List.length_replicate]at h2;exact⟨by rw[h2.1];omega,aO h2.2 (aO hnl hkl)⟩
theorem QM (C:Nat→Prop)(w:World)(v:Value)(l:List UInt8)(rows:Nat)(hC:∀i,C i→i<w.heap.size)(h:bM C false w 1 v l.length (l.map B))(hl:l.length≤1000000)(h1:1≤rows)(h20:rows≤20)(hk:(Pl.dX (l,false)).1=1):
 Calls Tryz.prog 179 #[v,.int .i64 rows] w fun e w'=>Ext w w'∧lN w w' rows (Pl.gD l rows) e:=by
 have hq:¬C w.heap.size:=fun e=>Nat.lt_irrefl _ (hC _ e)
 have hbl:=nP (l,false);have hi:∀u,(Instr.index 220 xV (.int .u8 1)).run Tryz.prog u=.ok (.agg #[F 156,F 157]) u:=fun u=>yS u 1 _ _ af rfl rfl
 have l8:∀u,(Instr.field 219 (.agg #[F 156,F 157]) 1).run Tryz.prog u=.ok (F 157) u:=fun u=>Aa u _ _
 have hlen:=Ty rows rows [] (Pl.dX (l,false)).2 (aK _);have HP:Hid (Pl.gD l rows=if Pl.iN (Pl.jA rows rows ([],(Pl.dX (l,false)).2)).2=true then some (Pl.jA rows rows ([],(Pl.dX (l,false)).2)).1 else none):=hide (by unfold Pl.gD;simp only[hk];rfl);go_enter Tryz.func179,Tryz.ntmps179
 go_wp2_with (first|(go_at_call 141;refine(oz C _ v l h).mono ?_;rintro e w1 ⟨rfl,hr1,x1,z1⟩)|(go_at_call 172;refine(pz C _ w.heap.size (l,false) hq hr1 hl).mono ?_;rw[hk];rintro e w2 ⟨rfl,hr2,k2,z2⟩)|(refine gT _ rfl _ _ _ rfl 3 (.int .i64 0) 8 Tryz.underlying243 rfl rfl rows _ _ rfl rfl rfl rfl af af ?_;intro w3 b3 x3 z3)|(go_at_call 139;refine(zN _).mono ?_;rintro e w4 ⟨rfl,x4⟩))
 have hC4:∀i,C i→i≠w.heap.size:=fun i hi e=>hq (e▸hi)
 have hg:¬C (w.heap.size+1):=fun e=>by have:=hC _ e;omega
 have x2:Ext w w2:=Kp.then x1 k2 (fun i hi e=>af);have z2':w2.heap.size=w.heap.size+1:=af;rw[z2']at b3;have hrd:=Lj C w4 w.heap.size (w.heap.size+1) (Pl.dX (l,false)).2 (List.replicate rows (.int .i64 0)) hq hg af ((hr2.kept x3 id (fun _ _=>id)).kept x4 id (fun _ _=>id)) af (b3.kept x4 id) (by simp;omega) (by simp;omega);rw[List.length_replicate]at hrd;refine hrd.mono ?_;rintro e w5 ⟨rfl,FL,b5,k5,z5⟩;have x5:Ext w w5:=Kp.then ((x2.trans x3).trans x4) k5 (fun i hi e=>af);clear hrd z2 z2' z3 z1 z5 hr1 hr2 b3 hi l8;cases hR:Pl.iN (Pl.jA rows rows ([],(Pl.dX (l,false)).2)).2 with
 |true=>
  go_wp2_with (go_at_call 145;refine(nW C _ w.heap.size _ FL af).mono ?_;rw[hR];rintro e w6 ⟨rfl,rfl⟩)
  go_ret2
  rw[HP.out,if_pos hR];exact⟨x5,.yes _ _ af b5 (by simpa using hlen.1)⟩
 |false=>
  go_wp2_with (go_at_call 145;refine(nW C _ w.heap.size _ FL af).mono ?_;rw[hR];rintro e w6 ⟨rfl,rfl⟩)
  go_ret2
  rw[HP.out,if_neg (by rw[hR];exact Bool.false_ne_true)];exact⟨x5,.no⟩
theorem QN (C:Nat→Prop)(w:World)(v:Value)(l:List UInt8)(rows:Nat)(hC:∀i,C i→i<w.heap.size)(h:bM C false w 1 v l.length (l.map B))(hl:l.length≤1000000)(h1:1≤rows)(h20:rows≤20)(hk:(Pl.dX (l,false)).1=2):
 Calls Tryz.prog 179 #[v,.int .i64 rows] w fun e w'=>Ext w w'∧lN w w' rows (Pl.gD l rows) e:=by
 have hq:¬C w.heap.size:=fun e=>Nat.lt_irrefl _ (hC _ e)
 have hbl:=nP (l,false);have hi:∀u,(Instr.index 220 xV (.int .u8 2)).run Tryz.prog u=.ok (.agg #[F 158,F 159]) u:=fun u=>yS u 2 _ _ af rfl rfl
 have l8:∀u,(Instr.field 219 (.agg #[F 158,F 159]) 1).run Tryz.prog u=.ok (F 159) u:=fun u=>Aa u _ _
 have hlen:=Bz rows (Pl.dX (l,false)).2;have HP:Hid (Pl.gD l rows=if Pl.iN (Pl.iter Pl.dL rows ([],0,(Pl.dX (l,false)).2)).2.2=true then some (Pl.iter Pl.dL rows ([],0,(Pl.dX (l,false)).2)).1 else none):=hide (by unfold Pl.gD;simp only[hk];rfl);go_enter Tryz.func179,Tryz.ntmps179
 go_wp2_with (first|(go_at_call 141;refine(oz C _ v l h).mono ?_;rintro e w1 ⟨rfl,hr1,x1,z1⟩)|(go_at_call 172;refine(pz C _ w.heap.size (l,false) hq hr1 hl).mono ?_;rw[hk];rintro e w2 ⟨rfl,hr2,k2,z2⟩)|(refine gT _ rfl _ _ _ rfl 3 (.int .i64 0) 8 Tryz.underlying243 rfl rfl rows _ _ rfl rfl rfl rfl af af ?_;intro w3 b3 x3 z3)|(go_at_call 139;refine(zN _).mono ?_;rintro e w4 ⟨rfl,x4⟩))
 have hC4:∀i,C i→i≠w.heap.size:=fun i hi e=>hq (e▸hi)
 have hg:¬C (w.heap.size+1):=fun e=>by have:=hC _ e;omega
 have x2:Ext w w2:=Kp.then x1 k2 (fun i hi e=>af);have z2':w2.heap.size=w.heap.size+1:=af;rw[z2']at b3;have hrd:=Hy C w4 w.heap.size (w.heap.size+1) (Pl.dX (l,false)).2 (List.replicate rows (.int .i64 0)) hq hg af ((hr2.kept x3 id (fun _ _=>id)).kept x4 id (fun _ _=>id)) af (b3.kept x4 id) (by simp;omega) (by simp;omega);rw[List.length_replicate]at hrd;refine hrd.mono ?_;rintro e w5 ⟨rfl,FL,b5,k5,z5⟩;have x5:Ext w w5:=Kp.then ((x2.trans x3).trans x4) k5 (fun i hi e=>af);clear hrd z2 z2' z3 z1 z5 hr1 hr2 b3 hi l8;cases hR:Pl.iN (Pl.iter Pl.dL rows ([],0,(Pl.dX (l,false)).2)).2.2 with
 |true=>
  go_wp2_with (go_at_call 145;refine(nW C _ w.heap.size _ FL af).mono ?_;rw[hR];rintro e w6 ⟨rfl,rfl⟩)
  go_ret2
  rw[HP.out,if_pos hR];exact⟨x5,.yes _ _ af b5 hlen.1⟩
 |false=>
  go_wp2_with (go_at_call 145;refine(nW C _ w.heap.size _ FL af).mono ?_;rw[hR];rintro e w6 ⟨rfl,rfl⟩)
  go_ret2
  rw[HP.out,if_neg (by rw[hR];exact Bool.false_ne_true)];exact⟨x5,.no⟩
theorem Lm (C:Nat→Prop)(w:World)(v:Value)(l:List UInt8)(rows:Nat)(hC:∀i,C i→i<w.heap.size)(h:bM C false w 1 v l.length (l.map B))(hl:l.length≤1000000)(h1:1≤rows)(h20:rows≤20):
 Calls Tryz.prog 179 #[v,.int .i64 rows] w fun e w'=>Ext w w'∧lN w w' rows (Pl.gD l rows) e:=by
 by_cases h3:3≤(Pl.dX (l,false)).1
 ·exact Ll C w v l rows hC h hl h3
 ·have hk:(Pl.dX (l,false)).1=0∨(Pl.dX (l,false)).1=1∨(Pl.dX (l,false)).1=2:=af;rcases hk with hk|hk|hk
  ·exact QL C w v l rows hC h hl h1 h20 hk
  ·exact QM C w v l rows hC h hl h1 h20 hk
  ·exact QN C w v l rows hC h hl h1 h20 hk
theorem FM (C:Nat→Prop)(w:World)(v:Value)(bs:List UInt8)(h:bM C false w 1 v bs.length (bs.map B))(hb:bs.length≤1000000):
 Calls Tryz.prog 153 #[v] w fun e w'=>e=.returned (.int .u32 (Pl.sumOf bs))∧w'=w:=by
 obtain⟨-,ao,cap,rfl,h1,h3⟩:=h;have hc:∀k,k<bs.length→∃g off,ao=some ⟨g,off,none⟩∧w.cell? ⟨g,off+k,none⟩=some (.int .u8 ((bs.getD k 0).toNat)):=by
  intro k hk;obtain⟨g,off,rfl,-,-,hc,-⟩:=h3 af;refine⟨g,off,rfl,?_⟩;rw[hc k af];simp[B,ay hk]
 clear h3;have HC:=hide hc;clear hc;go_enter Tryz.func153,Tryz.ntmps153;go_wp2
 go_loop [3,8] (fun t i=>∃k:Nat,k≤bs.length∧i=.int .i64 k∧t=.int .u32 (Pl.sumOf (bs.take k))) (fun _ i=>bs.length-(intOf i).toNat)
 case atStart=>exact⟨0,aM _,rfl,rfl⟩
 case round=>
  obtain⟨k,hk,rfl,rfl⟩:=hrel;have hlt:=Pl.sW (bs.take k);by_cases hkl:k<bs.length
  ·obtain⟨g,off,rfl,hck⟩:=HC.out k hkl
   go_wp2_with fail
   go_round
   case rel=>
    refine⟨k+1,af,by go_num,?_⟩;rw[Et bs k hkl,←Es _ _ hlt]
   case measure=>simp[intOf];omega
  ·go_wp2_with fail
   go_ret;rw[List.take_of_length_le af];exact⟨rfl,rfl⟩
def mQ (sum:Nat)(l:List UInt8)(rows:Nat):Option (List Int):=if Pl.sumOf l=sum then Pl.gD l rows else none
theorem Km (C:Nat→Prop)(w:World)(v:Value)(l:List UInt8)(rows place length sum:Nat)(hC:∀i,C i→i<w.heap.size)(h:bM C false w 1 v l.length (l.map B))(hl:l.length≤1000000)(h1:1≤rows)(h20:rows≤20)(_hsum:sum<4294967296):
 Calls Tryz.prog 176 #[.agg #[.int .i64 place,.int .i64 length,.int .u32 sum],v,.int .i64 rows] w fun e w'=>Ext w w'∧lN w w' rows (mQ sum l rows) e:=by
 have hlt:=Pl.sW l;by_cases hs:Pl.sumOf l=sum
 ·have HP:Hid (mQ sum l rows=Pl.gD l rows):=hide (by unfold mQ;rw[if_pos hs]);go_enter Tryz.func176,Tryz.ntmps176
  go_wp2_with fail
  have x0:Ext w (w.alloc (.cells #[.int .i64 place,.int .i64 length,.int .u32 sum] 250)):=ax.alloc _;have c2:(w.alloc (.cells #[.int .i64 place,.int .i64 length,.int .u32 sum] 250)).cell? ⟨w.heap.size,2,none⟩=some (.int .u32 sum):=World.cell?_alloc_new w _ _ 2;generalize w.alloc (.cells #[.int .i64 place,.int .i64 length,.int .u32 sum] 250)=W1 at*;have hrow:∀n,bM C false (W1.drewN n) 1 v l.length (l.map B):=fun n=>h.go (S:=fun _=>False) (x0.drewN n) (fun _ _ f=>f) (fun _ _ e=>e)
  go_quiet ((go_at_call 153;exact Calls.quiet_of_same (FM C _ v l (hrow _) hl)))
  go_wp2_with fail
  refine(Lm C (W1.drewN nq) v l rows (fun i hi=>aY (hC i hi) x0.size) (hrow nq) hl h1 h20).mono ?_;rintro e w2 ⟨x2,ps⟩;have I9:=(x0.drewN nq).trans x2;have hps:lN w w2 rows (Pl.gD l rows) e:=by
   generalize Pl.gD l rows=pp at ps;cases ps with
   |no=>exact .no
   |yes g xs hg hb hl=>exact .yes g xs (aO x0.size hg) hb hl
  have HQ:=hide hps;clear hps ps;have ht:∃a b,e=.returned (.tuple #[a,b]):=by
   have:=HQ.out;generalize Pl.gD l rows=pp at this;cases this<;>exact⟨_,_,rfl⟩
  obtain⟨a,b,rfl⟩:=ht
  go_wp2_with fail
  go_ret2
  rw[HP.out];exact⟨I9,HQ.out⟩
 ·have HP:Hid (mQ sum l rows=none):=hide (by unfold mQ;rw[if_neg hs]);go_enter Tryz.func176,Tryz.ntmps176
  go_wp2_with fail
  have x0:Ext w (w.alloc (.cells #[.int .i64 place,.int .i64 length,.int .u32 sum] 250)):=ax.alloc _;have c2:(w.alloc (.cells #[.int .i64 place,.int .i64 length,.int .u32 sum] 250)).cell? ⟨w.heap.size,2,none⟩=some (.int .u32 sum):=World.cell?_alloc_new w _ _ 2;generalize w.alloc (.cells #[.int .i64 place,.int .i64 length,.int .u32 sum] 250)=W1 at*;have hrow:∀n,bM C false (W1.drewN n) 1 v l.length (l.map B):=fun n=>h.go (S:=fun _=>False) (x0.drewN n) (fun _ _ f=>f) (fun _ _ e=>e)
  go_quiet ((go_at_call 153;exact Calls.quiet_of_same (FM C _ v l (hrow _) hl)))
  go_wp2_with fail
  go_ret2
  rw[HP.out];exact⟨x0.drewN _,.no⟩
theorem Lp (w:World)(place length sum:Nat)(h1:place≤1099511627775)(h2:length≤1099511627775):
 Calls Tryz.prog 173 #[.agg #[.int .i64 place,.int .i64 length,.int .u32 sum]] w fun e w'=>e=.returned (.int .i64 ((place+length:Nat):Int))∧Ext w w':=by
 go_enter Tryz.func173,Tryz.ntmps173
 go_wp2_with fail
 go_ret;refine⟨?_,ax.alloc _⟩;show Ending.returned (.int .i64 ((place:Int)+length))=.returned (.int .i64 ((place+length:Nat):Int));simp
theorem fe {P:Program}{ops:Array Oper}{o:Oper}{a:Act}{w:World}{K:Act→World→Prop}{Q:Exit→Act→World→Prop}{E:Prop}
 (hg:o.guard=none)(f:FuncId)(args:Array Value)(hx:(execOp a.eval o).run P w=.ok (.enter f args) w)(h:Calls P f args w fun e w'=>∃v,e=.returned v∧K (a.put o.dst v) w'):
 if Region.wanted o (yielded ops a.tmps)=true then Oper.wp P o a w K Q else E:=by
 have hw:Region.wanted o (yielded ops a.tmps)=true:=by simp[Region.wanted,hg]
 rw[if_pos hw];unfold Oper.wp;rw[hx,Oper.upon_enter];refine h.mono ?_;rintro e w' ⟨v,rfl,hk⟩;exact hk
theorem oK {P:Program}{ops:Array Oper}{o:Oper}{a:Act}{w:World}{K:Act→World→Prop}{Q:Exit→Act→World→Prop}{E:Prop}
 (hg:Region.wanted o (yielded ops a.tmps)=true)(f:FuncId)(args:Array Value)(hx:(execOp a.eval o).run P w=.ok (.enter f args) w)(h:Calls P f args w fun e w'=>∃v,e=.returned v∧K (a.put o.dst v) w'):
 if Region.wanted o (yielded ops a.tmps)=true then Oper.wp P o a w K Q else E:=by
 rw[if_pos hg];unfold Oper.wp;rw[hx,Oper.upon_enter];refine h.mono ?_;rintro e w' ⟨v,rfl,hk⟩;exact hk
theorem fA.ends {col:bU}{w w':World}{P why:Nat}{m:Pl.Sc}{ps qs:List Nat}{nv av wv hv gv:Value}(h:fA col w P m ps qs nv av wv hv gv)(r:fA col w' P (Pl.ended why) [] [] (.slice none 0 0) (.slice none 0 0) (.slice none 0 0) (.slice none 0 0) (.slice none 0 0))(k:Kp (fun k=>k=P) w w'):iW col w' P (Pl.ended why)∧cu col w w' col:=
 ⟨r.is,k.mono (fun i _ hi=>by show col i≠.out;rw[hi,h.inn.cB];simp),fun _ _=>rfl⟩
theorem lV (P:Nat)(m:Pl.Sc)(nv av wv hv gv:Value):(dw P m nv av wv hv gv).length=19:=rfl
def jf (x:Pl.ku):List Value:=[I x.place,I x.length,.int .u32 x.sum]
def zFp :Value:=.agg #[.int .i64 0,.int .i64 0,.int .u32 0]
theorem abb :(Tryz.prog.info? 250).map (fun i=>(i.zero,i.size,i.bytes))=some (some zFp,3,24):=by kernel_rfl
theorem vH (foot:Nat)(n:Nat)(r:Pl.dS):(Pl.iter (Pl.gq foot) n ([],r)).1.length=n∧(Pl.iter (Pl.gq foot) n ([],r)).2.1.length≤r.1.length:=by
 induction n with
 |zero=>exact⟨rfl,aK _⟩
 |succ n ih=>
  refine⟨by simp[Pl.iter,Pl.gq,ih.1],?_⟩;refine aO ?_ ih.2;have hs:∀k r,(Pl.iter Pl.oP k (0,r)).2.1.length≤r.1.length:=by
   intro k;induction k with
   |zero=>intro r;exact aK _
   |succ k ih=>intro r;exact aO (nP _) (ih r)
  exact aO (hs 4 _) (aO (jl _ _ _) (jl _ _ _))
theorem dO {P:Program}(w:World)(b:Nat)(hb:b=w.heap.size)(t e:TypeId)(ht:P.underlying t=some (.slice e))(arr:Array Value)(cs:List Value)(ha:arr=cs.toArray)(h1:∀u∈cs,u.oneCell'=true):Src P cs.length t (.slice (some ⟨b,0,none⟩) 1 1) 1 cs (w.alloc (.cells arr e)):=by
 subst hb;exact uJ w t e ht arr cs ha h1
theorem Kn (C:Nat→Prop)(w:World)(q:Nat)(r:Pl.dS)(hC:∀i,C i→i<w.heap.size)(hq:¬C q)(h:fM C w q r)(hl:r.1.length≤1000000)(n foot:Nat)(hn:n≤4)(Lr:4≤foot)(hf:foot≤1000000):
 Calls Tryz.prog 144 #[PtrTo q 0,.int .i64 n,.int .i64 foot] w fun e w'=>∃pv,e=.returned (.agg #[I (Pl.ou n foot r).1.rows,pv])∧Own w' 3 pv n ((Pl.ou n foot r).1.pages.flatMap jf)∧(∀g,pv.ownBlock=some g→w.heap.size≤g)∧fM C w' q (Pl.ou n foot r).2∧Kp (fun k=>k=q) w w':=by
 have hqs:q<w.heap.size:=by obtain⟨v,a,b⟩:=h;exact a.lt
 have hlr:=jl 1 20 r;have HP:Hid (Pl.ou n foot r=(⟨(Pl.di 1 20 r).1,(Pl.iter (Pl.gq foot) n ([],(Pl.di 1 20 r).2)).1⟩,(Pl.iter (Pl.gq foot) n ([],(Pl.di 1 20 r).2)).2)):=hide rfl;go_enter Tryz.func144,Tryz.ntmps144
 go_wp2_with (go_at_call 142;refine(mW C _ q r hq (h.kept ((Kp.refl (fun _=>False) _).alloc _) id (fun _ _=>id)) hl 1 20 20 af af (.inl rfl) af).mono ?_;rintro e w1 ⟨rfl,hr1,k1,z1⟩)
 have hz1:w1.heap.size=w.heap.size+1:=by simpa using z1
 have kW:Kp (fun k=>k=q) w (w1.alloc (.cells #[.int .i64 (Pl.di 1 20 r).1,.slice none 0 0] 229)):=((ax.alloc _).trans k1).alloc _;have bG:bK (w1.alloc (.cells #[.int .i64 (Pl.di 1 20 r).1,.slice none 0 0] 229)) (w.heap.size+1) [.int .i64 (Pl.di 1 20 r).1,.slice none 0 0] 229:=by
  have:=bK.bO w1 [.int .i64 (Pl.di 1 20 r).1,.slice none 0 0] 229;rwa[hz1]at this
 have b0:bK (w1.alloc (.cells #[.int .i64 (Pl.di 1 20 r).1,.slice none 0 0] 229)) w.heap.size [.int .i64 0,.slice none 0 0] 229:=
  ((bK.bO w [.int .i64 0,.slice none 0 0] 229).kept k1 af).kept (S:=fun _=>False) (ax.alloc _) id
 have hrW:fM C (w1.alloc (.cells #[.int .i64 (Pl.di 1 20 r).1,.slice none 0 0] 229)) q (Pl.di 1 20 r).2:=hr1.kept (S:=fun _=>False) (ax.alloc _) id (fun _ _=>id);generalize w1.alloc (.cells #[.int .i64 (Pl.di 1 20 r).1,.slice none 0 0] 229)=W at*;clear hr1 k1 z1 hz1 h;generalize hR:Pl.di 1 20 r=R0 at*;obtain⟨rows,r0⟩:=R0;simp only at*;go_loopw [14] (fun i wr=>∃(k:Nat)(pv:Value),i=.int .i64 k∧k≤n∧fM C wr q (Pl.iter (Pl.gq foot) k ([],r0)).2∧bK wr (w.heap.size+1) [.int .i64 rows,pv] 229∧bK wr w.heap.size [.int .i64 0,.slice none 0 0] 229∧Own wr 3 pv k ((Pl.iter (Pl.gq foot) k ([],r0)).1.flatMap jf)∧(∀g,pv.ownBlock=some g→w.heap.size+2≤g)∧Kp (fun k=>k=q) w wr) (fun i _=>n-(intOf i).toNat)
 case atStart=>exact⟨0,_,rfl,af,hrW,bG,b0,Own.nil _ _,fun g e=>by simp[Value.ownBlock]at e,kW⟩
 case round=>
  obtain⟨k,pv,rfl,hk,hr,YL,hb0,ho,hg,kk⟩:=hrel;have hlen:=vH foot k r0;clear hrW bG b0 kW;obtain⟨ao,cap,rfl,hcap⟩:=ho.shape;have HS:Hid (Pl.iter (Pl.gq foot) (k+1) ([],r0)=Pl.gq foot (Pl.iter (Pl.gq foot) k ([],r0))):=hide rfl;generalize hst:Pl.iter (Pl.gq foot) k ([],r0)=st at*;obtain⟨xs,r'⟩:=st;have HT:=hide hst;clear hst;simp only at*;by_cases hkl:k<n
  ·have hp:=CY 4 (foot-1) r';have hpl:=jl 4 (foot-1) r';have HA:Hid (Pl.gq foot (xs,r')=(xs++[⟨(Pl.di 4 (foot-1) r').1,(Pl.di 1 (foot-(Pl.di 4 (foot-1) r').1) (Pl.di 4 (foot-1) r').2).1,(Pl.qm (Pl.di 1 (foot-(Pl.di 4 (foot-1) r').1) (Pl.di 4 (foot-1) r').2).2).1⟩],(Pl.qm (Pl.di 1 (foot-(Pl.di 4 (foot-1) r').1) (Pl.di 4 (foot-1) r').2).2).2)):=hide rfl;generalize hA:Pl.di 4 (foot-1) r'=A at*;obtain⟨pl,r1⟩:=A;simp only at*;have hll:=jl 1 (foot-pl) r1;have Ls:=CY 1 (foot-pl) r1;generalize hB:Pl.di 1 (foot-pl) r1=N at*;obtain⟨ln,r2⟩:=N;simp only at*
   go_wp2_with (go_at_call 142;first|(have hr1':=hr1;go_must (refine((mW C _ q r1 hq hr1 af 1 (foot-pl) (foot-pl) af af (.inl af) af).mono ?_));rw[hB];rintro e w2 ⟨rfl,hr2,k2,z2⟩;skip)|(go_must (refine(mW C _ q r' hq hr af 4 (foot-1) (foot-1) af af (.inl af) af).mono ?_);rw[hA];rintro e w1 ⟨rfl,hr1,k1,z1⟩;skip))
   have k12:Kp (fun k=>k=q) wr w2:=k1.trans k2;have hG2:=(YL.kept k12 af)
   have h02:=(hb0.kept k12 af)
   have ho2:=ho.kept k12 (fun g e hq'=>by have:=hg g e;omega);have IX:=kk.trans k12;clear YL hb0 ho kk k12 k1 k2 z1 z2 hr1 hr1' hr;have c1:=hG2.cell 1;have f1:=hG2.free 1;simp only[au]at c1;have hS:∀u,Kp (fun k=>k≠w.heap.size+1) w2 u→u.cell? ⟨w.heap.size+1,1,none⟩=some (.slice ao k cap):=fun u hu=>hu.cell c1 aj
   have HC:=hide hS;clear hS;have hK1:Kp (fun k=>k≠w.heap.size+1) w2 w2.drew:=ax.drew;have hgl:=hG2.lt;refine bZ (n:=10) (Kp (fun k=>k≠w.heap.size+1) w2) (by kernel_rfl) ?_;refine Late.h HC 0 [10] rfl hK1 ?_;refine Late.h HC 1 [10] rfl hK1 ?_;refine Late.h HC 2 [10] rfl hK1 ?_;refine Late.h HC 3 [10] rfl hK1 ?_;refine Late.h HC 4 [10] rfl hK1 ?_;refine Late.o 5 rfl (fun K hK=>?_);refine fe rfl 161 #[PtrTo q 0] (by go_simp) ?_;refine(WX C w2.drew q r2 hq (hr2.kept (S:=fun _=>False) ax.drew id (fun _ _=>id)) af).mono ?_;rintro e w3 ⟨rfl,hr3,k3,z3⟩;have x3:Kp (fun k=>k=q) w2 w3:=(ax.drew).trans k3;have g3:Kp (fun k=>k≠w.heap.size+1) w2 w3:=x3.mono (fun i _ hi=>af);refine⟨_,rfl,hK _ _ (fun _=>g3) ?_⟩;clear hK K;try simp only[lX]
   refine Late.o 6 rfl (fun K hK=>?_);go_simp;refine hK _ _ (fun _=>g3) ?_;clear hK K;try simp only[lX]
   refine Late.o 7 rfl (fun K hK=>?_);go_simp;refine hK _ _ (fun _=>g3.alloc _) ?_;clear hK K;try simp only[lX]
   have HZ:Hid (w2.heap.size=w3.heap.size):=hide z3.symm;clear z3;have hone:∀u∈jf ⟨pl,ln,(Pl.qm r2).1⟩,u.oneCell'=true:=by
    intro u hu;simp[jf]at hu;rcases hu with rfl|rfl|rfl<;>rfl
   have ho3:Own (w3.alloc (.cells #[.int .i64 pl,.int .i64 ln,.int .u32 (Pl.qm r2).1] 250)) 3 (.slice ao k cap) k (xs.flatMap jf):=(ho2.kept x3 (fun g e hq'=>by have:=hg g e;omega)).ext (ax.alloc _);refine Late.o 8 rfl (fun K hK=>?_);refine d_ rfl _ _ 227 227 rfl 250 zFp 3 24 Tryz.underlying227 abb rfl _ _ _ (by rfl) ho3 _ (by rfl) 1 _ (dO w3 w2.heap.size HZ.out _ _ Tryz.underlying227 _ (jf ⟨pl,ln,(Pl.qm r2).1⟩) rfl hone) af af ?_;intro v' w4 o4 k4 s4;have ja:∀g,(Value.slice ao k cap).ownBlock=some g→w.heap.size+2≤g:=hg;have g4:Kp (fun k=>k≠w.heap.size+1) w2 w4:=(g3.alloc _).trans (k4.mono (fun i _ e=>by have:=ja i e;omega));refine hK _ _ (fun _=>g4) ?_;clear hK K;obtain⟨a',c',rfl,hc'⟩:=o4.shape;try simp only[lX]
   have c4:w4.cell? ⟨w.heap.size+1,1,none⟩=some (.slice ao k cap):=g4.cell c1 aj;have f4:w4.frozen? ⟨w.heap.size+1,1,none⟩=false:=by rw[World.frozen?_of_block (w:=w2) (a:=⟨w.heap.size+1,1,none⟩) (g4.block _ hgl aj)];exact f1
   refine Late.o 9 rfl (fun K hK=>?_);go_simp;refine hK _ _ (fun _=>g4) ?_;clear hK K;try simp only[lX]
   refine Late.o 10 rfl (fun K hK=>?_);go_simp;refine hK _ _ (fun h=>absurd rfl h) ?_;clear hK K;try simp only[lX]
   refine Late.done (by kernel_rfl) ?_ _
   go_wp2_with fail
   have x4:Kp (fun i=>i=q∨(Value.slice ao k cap).ownBlock=some i) w2 w4:=((x3.mono (fun _ _ e=>.inl e)).alloc _).trans (k4.mono (fun _ _ e=>.inr e));have hq4:fM C w4 q (Pl.qm r2).2:=(hr3.kept (S:=fun _=>False) (ax.alloc _) id (fun _ _=>id)).kept k4 (fun e=>by have:=ja q e;omega) (fun i hi e=>by have:=ja i e;have:=hC i hi;omega);have hG4:bK w4 (w.heap.size+1) [.int .i64 rows,.slice ao k cap] 229:=hG2.kept x4 (fun e=>e.elim (fun e=>af) (fun e=>by have:=ja _ e;omega));have h04:bK w4 w.heap.size [.int .i64 0,.slice none 0 0] 229:=h02.kept x4 (fun e=>e.elim (fun e=>af) (fun e=>by have:=ja _ e;omega));have Fu:Kp (fun k=>k=q) w w4:=IX.then x4 (fun i hi e=>e.elim id (fun e=>by have:=ja _ e;omega));have ks:=bI w4 (w.heap.size+1) 1 (.slice a' (k+1) c');have hsz:=IX.size;refine⟨⟨k+1,.slice a' (k+1) c',by go_num,af,?_,hG4.set 1 _,h04.kept ks af,?_,?_,Fu.then ks (fun i hi e=>af)⟩,by simp[intOf];omega⟩
   ·rw[HS.out,HA.out];exact hq4.kept ks af (fun i hi e=>by have:=hC i hi;omega)
   ·rw[HS.out,HA.out];simp only[List.flatMap_append,List.flatMap_cons,List.flatMap_nil,List.append_nil];refine o4.kept ks (fun g e=>?_);rcases s4 with e'|⟨g',e1,e2⟩
    ·rw[e']at e;have:=ja g e;omega
    ·rw[e1]at e;simp only[Option.some.injEq]at e;subst e;simp at e2;have:=HZ.out;omega
   ·intro g e;rcases s4 with e'|⟨g',e1,e2⟩
    ·rw[e']at e;exact ja g e
    ·rw[e1]at e;simp only[Option.some.injEq]at e;subst e;simp at e2;have:=HZ.out;omega
  ·obtain rfl:k=n:=af;have c0:=YL.cell 0;have c1:=YL.cell 1;have d0:=hb0.cell 0;have d1:=hb0.cell 1;have f0:=hb0.free 0;have f1:=hb0.free 1;simp only[au]at c0 c1 d0 d1
   go_wp2_with fail
   have b2:=(hb0.set 0 (.int .i64 rows)).set 1 (.slice ao k cap);have k2:=(bI wr w.heap.size 0 (.int .i64 rows)).trans (bI (wr.setCell ⟨w.heap.size,0,none⟩ (.int .i64 rows)) w.heap.size 1 (.slice ao k cap));generalize(wr.setCell ⟨w.heap.size,0,none⟩ (.int .i64 rows)).setCell ⟨w.heap.size,1,none⟩ (.slice ao k cap)=w5 at*;have e0:=b2.cell 0;have e1:=b2.cell 1;simp only[List.set_cons_zero,List.set_cons_succ,au]at e0 e1;refine bodyPost_ret (v:=.agg #[.int .i64 rows,.slice ao k cap]) (by simp[results,Tryz.results144,go_sem,e0,e1]) rfl ?_;rw[HP.out];refine⟨_,rfl,?_,?_,?_,?_⟩
   ·rw[HT.out];exact ho.kept k2 (fun g e=>by have:=hg g e;omega)
   ·intro g e;have:=hg g e;omega
   ·rw[HT.out];exact hr.kept k2 af (fun i hi e=>by have:=hC i hi;omega)
   ·exact kk.then k2 (fun i hi e=>af)
theorem tQ {α:Type}{p:α→Bool}{l:List α}{k:Nat}(h:(l.take k).findIdx? p=none)(hk:k<l.length)(hp:p l[k]=false):(l.take (k+1)).findIdx? p=none:=by
 rw[aF hk,List.findIdx?_append,h];simp[hp]
theorem ED {α:Type}{p:α→Bool}{l:List α}{k:Nat}(h:(l.take k).findIdx? p=none)(hk:k<l.length)(hp:p l[k]=true):l.findIdx? p=some k:=by
 have e:(l.take k++l.drop k).findIdx? p=some k:=by
  rw[List.findIdx?_append,h,aV hk,List.findIdx?_cons,hp];simp[Nat.min_eq_left (Nat.le_of_lt hk)]
 rwa[List.take_append_drop]at e
theorem EF {α:Type}{p:α→Bool}{l:List α}(h:(l.take l.length).findIdx? p=none):l.findIdx? p=none:=by rwa[aX]at h
def nX :Option Nat→Int
 |none=>-1
 |some i=>i
theorem bM.get {C:Nat→Prop}{fr:Bool}{w:World}{size n:Nat}{v:Value}{cs:List Value}(h:bM C fr w size v n cs):∃ao cap,v=.slice ao n cap∧n≤cap∧(0<n→∃b off,ao=some ⟨b,off,none⟩∧b<w.heap.size∧∀j,j<n*size→w.cell? ⟨b,off+j,none⟩=cs[j]?):=by
 obtain⟨_,ao,cap,rfl,h1,h3⟩:=h;exact⟨ao,cap,rfl,h1,fun hp=>let⟨b,off,e,_,hlt,hc,_⟩:=h3 hp;⟨b,off,e,hlt,hc⟩⟩
theorem FN (C:Nat→Prop)(w:World)(v:Value)(ss:List (List UInt8))(s:List UInt8)(hr:bM C false w 1 v ss.length (ss.map tx))(hl:ss.length≤1000):
 Calls Tryz.prog 140 #[v,tx s] w fun e w'=>e=.returned (.int .i64 (nX (Pl.indexOf ss s)))∧w'=w:=by
 obtain⟨ao,cap,rfl,h1,h3⟩:=hr.get;clear hr;generalize hP:Pl.indexOf ss s=P0;have HP:=hide hP;clear hP;go_enter Tryz.func140,Tryz.ntmps140
 go_wp2_with fail
 go_loop [8] (fun i=>∃k:Nat,k≤ss.length∧i=.int .i64 k∧Hid ((ss.take k).findIdx? (fun x=>decide (x=s))=none)) (fun i=>ss.length-(intOf i).toNat)
 case atStart=>exact⟨0,aM _,rfl,by show _=_;simp⟩
 case round=>
  obtain⟨k,hk,rfl,hall⟩:=hrel;by_cases hkl:k<ss.length
  ·obtain⟨b,off,rfl,hb,hc⟩:=h3 af;have hck:=hc k af;clear hc h3;rw[aN,ay hkl,Option.map_some]at hck;have he:(s==ss[k])=decide (ss[k]=s):=by rw[Bool.eq_iff_iff,beq_iff_eq,decide_eq_true_iff];exact⟨fun h=>h.symm,fun h=>h.symm⟩
   have HN:Hid (ss[k]≠s→(ss.take (k+1)).findIdx? (fun x=>decide (x=s))=none):=hide fun h=>tQ hall.out hkl (aG h)
   have HH:Hid (ss[k]=s→P0=some k):=hide fun h=>by rw[←HP.out];exact ED hall.out hkl (aH h)
   generalize ss[k]=y at*;by_cases hok:y=s
   ·rw[aH hok]at he;have HF:=hide (HH.out hok);clear hok
    go_wp2_with fail
    go_ret;rw[HF.out];exact⟨rfl,rfl⟩
   ·rw[aG hok]at he;have HF:=hide (HN.out hok);clear hok
    go_wp2_with fail
    go_round
    case rel=>exact⟨k+1,af,by go_num,HF⟩
    case measure=>simp[intOf];omega
  ·go_wp2_with fail
   go_ret;obtain rfl:k=ss.length:=af;rw[←HP.out];unfold Pl.indexOf;rw[EF hall.out];exact⟨rfl,rfl⟩
theorem Lu {α:Type}[DecidableEq α](ss:List α)(s:α):decide (0≤nX (ss.findIdx? (fun x=>decide (x=s))))=decide (s∈ss):=by
 rw[decide_eq_decide];cases h:ss.findIdx? (fun x=>decide (x=s))with
 |none=>
  rw[List.findIdx?_eq_none_iff]at h;simp only[nX];constructor
  ·omega
  ·intro hm;have:=h s hm;simp at this
 |some i=>
  simp only[nX];obtain⟨hi,hp,_⟩:=List.findIdx?_eq_some_iff_getElem.1 h;constructor
  ·intro _;rw[←of_decide_eq_true hp];exact aJ hi
  ·intro _;omega
theorem Ab {α:Type}{l:List α}{p:α→Bool}:-1≤nX (l.findIdx? p)∧nX (l.findIdx? p)≤l.length:=by
 cases h:l.findIdx? p with
 |none=>simp only[nX];omega
 |some i=>
  obtain⟨hi,_⟩:=List.findIdx?_eq_some_iff_getElem.1 h;simp only[nX];omega
theorem Ko (C:Nat→Prop)(w:World)(v:Value)(ss:List (List UInt8))(s:List UInt8)(hr:bM C false w 1 v ss.length (ss.map tx))(hl:ss.length≤1000):
 Calls Tryz.prog 116 #[v,tx s] w fun e w'=>e=.returned (.bool (decide (s∈ss)))∧w'=w:=by
 have hm:=Lu ss s;have hrg:=Ab (l:=ss) (p:=fun x=>decide (x=s));have hI:=FN C w v ss s hr hl;unfold Pl.indexOf at hI;generalize nX (ss.findIdx? (fun x=>decide (x=s)))=r at*;rw[show decide (s∈ss)=decide (0≤r) by rw[decide_eq_decide]at hm⊢;exact hm.symm];clear hm hr;have HI:=hide hI;clear hI;go_enter Tryz.func116,Tryz.ntmps116
 go_wp2_with fail
 refine(bH HI).mono ?_;rintro e w1 ⟨rfl,rfl⟩
 go_wp2_with fail
 go_ret;exact⟨rfl,rfl⟩
theorem QO (C:Nat→Prop)(w:World)(v:Value)(ss:List Nat)(s:Nat)(hr:bM C false w 1 v ss.length (ss.map fun n:Nat=>I n))(hl:ss.length≤1000):
 Calls Tryz.prog 162 #[v,.int .i64 s] w fun e w'=>e=.returned (.int .i64 (nX (ss.findIdx? (fun x=>decide (x=s)))))∧w'=w:=by
 obtain⟨ao,cap,rfl,h1,h3⟩:=hr.get;clear hr;generalize hP:ss.findIdx? (fun x=>decide (x=s))=P0;have HP:=hide hP;clear hP;go_enter Tryz.func162,Tryz.ntmps162
 go_wp2_with fail
 go_loop [8] (fun i=>∃k:Nat,k≤ss.length∧i=.int .i64 k∧Hid ((ss.take k).findIdx? (fun x=>decide (x=s))=none)) (fun i=>ss.length-(intOf i).toNat)
 case atStart=>exact⟨0,aM _,rfl,by show _=_;simp⟩
 case round=>
  obtain⟨k,hk,rfl,hall⟩:=hrel;by_cases hkl:k<ss.length
  ·obtain⟨b,off,rfl,hb,hc⟩:=h3 af;have hck:=hc k af;clear hc h3;rw[aN,ay hkl,Option.map_some]at hck;simp only[I]at hck;have HN:Hid (ss[k]≠s→(ss.take (k+1)).findIdx? (fun x=>decide (x=s))=none):=hide fun h=>tQ hall.out hkl (aG h)
   have HH:Hid (ss[k]=s→P0=some k):=hide fun h=>by rw[←HP.out];exact ED hall.out hkl (aH h)
   generalize ss[k]=y at*;by_cases hok:y=s
   ·have HF:=hide (HH.out hok);subst hok
    go_wp2_with fail
    go_ret;rw[HF.out];exact⟨rfl,rfl⟩
   ·have HF:=hide (HN.out hok);have he:((s:Int)==(y:Int))=false:=by simp;omega
    clear hok
    go_wp2_with fail
    go_round
    case rel=>exact⟨k+1,af,by go_num,HF⟩
    case measure=>simp[intOf];omega
  ·go_wp2_with fail
   go_ret;obtain rfl:k=ss.length:=af;rw[←HP.out,EF hall.out];exact⟨rfl,rfl⟩
theorem Kq (C:Nat→Prop)(w:World)(v:Value)(ss:List Nat)(s:Nat)(hr:bM C false w 1 v ss.length (ss.map fun n:Nat=>I n))(hl:ss.length≤1000):
 Calls Tryz.prog 146 #[v,.int .i64 s] w fun e w'=>e=.returned (.bool (decide (s∈ss)))∧w'=w:=by
 have hm:=Lu ss s;have hrg:=Ab (l:=ss) (p:=fun x=>decide (x=s));have hI:=QO C w v ss s hr hl;generalize nX (ss.findIdx? (fun x=>decide (x=s)))=r at*;rw[show decide (s∈ss)=decide (0≤r) by rw[decide_eq_decide]at hm⊢;exact hm.symm];clear hm hr;have HI:=hide hI;clear hI;go_enter Tryz.func146,Tryz.ntmps146
 go_wp2_with fail
 refine(bH HI).mono ?_;rintro e w1 ⟨rfl,rfl⟩
 go_wp2_with fail
 go_ret;exact⟨rfl,rfl⟩
theorem FO (C:Nat→Prop)(w:World)(v:Value)(ss:List (List UInt8))(hr:bM C false w 1 v ss.length (ss.map tx))(hl:ss.length≤1000):
 Calls Tryz.prog 100 #[v] w fun e w'=>e=.returned (.bool (Pl.fJ ss))∧w'=w:=by
 have hr0:=hr;obtain⟨ao,cap,rfl,h1,h3⟩:=hr.get;clear hr;by_cases hs:ss.length<1
 ·have e:Pl.fJ ss=false:=by rw[←Bool.not_eq_true,Pl.fD];omega
  rw[e];clear e;go_enter Tryz.func100,Tryz.ntmps100;go_wp2;go_ret;exact⟨rfl,rfl⟩
 by_cases hs4:4<ss.length
 ·have e:Pl.fJ ss=false:=by rw[←Bool.not_eq_true,Pl.fD];omega
  rw[e];clear e;go_enter Tryz.func100,Tryz.ntmps100;go_wp2;go_ret;exact⟨rfl,rfl⟩
 generalize hb:Pl.fJ ss=bb;have HB:=hide hb;clear hb;obtain⟨b,off,rfl,hb0,hc⟩:=h3 af;go_enter Tryz.func100,Tryz.ntmps100
 go_wp2_with fail
 go_loop [15] (fun i=>∃k:Nat,k≤ss.length∧i=.int .i64 k∧Hid (Pl.qN ss k)) (fun i=>ss.length-(intOf i).toNat)
 case atStart=>exact⟨0,aM _,rfl,Pl.Ba _⟩
 case round=>
  obtain⟨k,hk,rfl,hall⟩:=hrel;by_cases hkl:k<ss.length
  ·have hck:=hc k af;clear hc h3;rw[aN,ay hkl,Option.map_some]at hck;have hstep:=Pl.Bd ss k hkl;rw[Pl.nQ]at hstep;have hsz:(⟨ss[k].toArray⟩:ByteArray).size=ss[k].length:=by simp[ByteArray.size]
   have hcon:=Ko C w (.slice (some ⟨b,off,none⟩) k cap) (ss.take k) ss[k] (by have:=bM.take1 hr0 (q:=k) af;rw[aU,Nat.min_eq_left af,List.map_take];exact this) (by simp;omega);have HS:=hide hstep;have HC:=hide hcon;clear hstep hcon;generalize ss[k]=y at*;by_cases hy1:y.length<1
   ·go_wp2_with fail
    go_ret;rw[←HB.out,Pl.mF _ (k+1) af (fun h=>by have:=(HS.out.1 h).2.1;omega)];exact⟨rfl,rfl⟩
   by_cases hy8:8<y.length
   ·go_wp2_with fail
    go_ret;rw[←HB.out,Pl.mF _ (k+1) af (fun h=>by have:=(HS.out.1 h).2.1;omega)];exact⟨rfl,rfl⟩
   by_cases hin:y∈ss.take k
   ·rw[aH hin]at HC;have HI:=hide hin;clear hin
    go_wp2_with fail
    refine(bH HC).mono ?_;rintro e w1 ⟨rfl,rfl⟩
    go_wp2_with fail
    go_ret;rw[←HB.out,Pl.mF _ (k+1) af (fun h=>(HS.out.1 h).2.2 HI.out)];exact⟨rfl,rfl⟩
   ·rw[aG hin]at HC;have HI:=hide hin;clear hin
    go_wp2_with fail
    refine(bH HC).mono ?_;rintro e w1 ⟨rfl,rfl⟩
    go_wp2_with fail
    go_round
    case rel=>exact⟨k+1,af,by go_num,HS.out.2 ⟨hall.out,⟨af,af⟩,HI.out⟩⟩
    case measure=>simp[intOf];omega
  ·go_wp2_with fail
   go_ret;obtain rfl:k=ss.length:=af;have e:Pl.fJ ss=true:=by
    rw[Pl.fD];exact⟨af,af,hall.out⟩
   rw[←HB.out,e];exact⟨rfl,rfl⟩
theorem bM.YR {C:Nat→Prop}{fr:Bool}{w:World}{s b off L cap q:Nat}{cs:List Value}(h:bM C fr w s (.slice (some ⟨b,off,none⟩) L cap) L cs)(hq:q≤L):
 bM C fr w s (.slice (if cap=q then some ⟨b,off,none⟩else some ⟨b,off+q*s,none⟩) (L-q) (cap-q)) (L-q) (cs.drop (q*s)):=by
 obtain⟨hl,ao,cap',e,h1,h3⟩:=h;simp only[Value.slice.injEq]at e;obtain⟨rfl,_,rfl⟩:=e;refine⟨by rw[bq,hl,Nat.sub_mul],_,cap-q,rfl,af,fun hp=>?_⟩;obtain⟨b',off',e,hb,hlt,hc,hf⟩:=h3 af;simp only[Option.some.injEq,Addr.mk.injEq]at e;obtain⟨rfl,rfl,_⟩:=e;have hj':∀j,j<(L-q)*s→q*s+j<L*s:=fun j hj=>by rw[Nat.sub_mul]at hj;omega
 refine⟨b,off+q*s,by rw[if_neg af],hb,hlt,fun j hj=>?_,fun ht j hj=>?_⟩
 ·rw[Nat.add_assoc,hc (q*s+j) (hj' j hj),List.getElem?_drop]
 ·rw[Nat.add_assoc];exact hf ht (q*s+j) (hj' j hj)
def wE (P:Nat)(w:World):Nat:=match w.cell? ⟨P,12,none⟩with
 |some (.slice _ n _)=>n
 |_=>0
theorem fA.wE {col:bU}{w:World}{P:Nat}{m:Pl.Sc}{ps qs:List Nat}{nv av wv hv gv:Value}(h:fA col w P m ps qs nv av wv hv gv):wE P w=m.ahead.length:=by
 have c:=h.blk.cell 12;simp only[dw,au]at c;obtain⟨bJ,_,hr,_⟩:=h.inn.ahead;obtain⟨a,cap,rfl,_⟩:=hr.get;unfold Go.Proofs.YthicgffppmbamaaGreat.wE;rw[c]
structure EJ (m:Pl.Sc):Prop where
 size:m.size≤4000
 bW:m.bW+m.ahead.length≤1000000000000
 asked:m.asked.length+m.ahead.length≤1000
 win:m.win≤1000
 opened:m.opened+m.ahead.length≤1000
 ahead:∀p∈m.ahead,p.place+p.length≤1000000
theorem BD (col:bU)(w:World)(P:Nat)(m:Pl.Sc)(h:iW col w P m)(hf:EJ m):
 Calls Tryz.prog 125 #[PtrTo P 0] w fun e w'=>e=.returned (.tuple #[])∧∃bV,iW bV w' P (Pl.fV m)∧cu col w w' bV:=by
 go_enter Tryz.func125,Tryz.ntmps125
 go_wp2_with fail
 go_loopw [2] (fun _ wr=>∃(dH:bU)(mr:Pl.Sc),iW dH wr P mr∧cu col w wr dH∧EJ mr∧Pl.fO mr.ahead.length mr=Pl.fV m) (fun _ wr=>wE P wr)
 case atStart=>exact⟨col,m,h,cu.refl _ _,hf,rfl⟩
 case round=>
  obtain⟨dH,mr,hs,hw,hf,he⟩:=hrel;clear h;have HE:=hide he;clear he;obtain⟨ps,qs,nv,av,wv,hv,gv,r⟩:=hs;have hAN:=r.wE;have Jh:=hide hAN;clear hAN;have c3:=r.blk.cell 3;have c12:=r.blk.cell 12;have c13:=r.blk.cell 13;have f12:=r.blk.free 12;have f13:=r.blk.free 13;simp only[dw,I,au]at c3 c12 c13;obtain⟨bJ,hpl,hrow,hpg⟩:=r.inn.ahead;have rY:=hrow;obtain⟨ha,hc,rfl,hcap,hcell⟩:=rY.get;clear rY;have hfw:=hf.win;have hfo:=hf.opened;by_cases h1:mr.opened<mr.win
  ·have h1':(mr.opened:Int)<mr.win:=af;cases hl:mr.ahead with
   |nil=>
    have HF:Hid (Pl.fV m=mr):=hide (by rw[←HE.out,hl];rfl);rw[hl]at c12 r;simp only[List.length_nil]at c12
    go_wp2_with fail
    go_quiet (fail)
    go_wp2_with fail
    go_end0
    rw[HF.out];exact⟨rfl,dH,(r.ext (ax.drewN nq)).is,hw.trans (cu.ext (ax.drewN nq))⟩
   |cons p rest=>
    have HX:Hid (Pl.fO rest.length (Pl.oQ {mr with ahead:=rest,opened:=mr.opened+1} p.place p.length (.piece p))=Pl.fV m):=hide (by
     rw[←HE.out,hl];show _=Pl.fO (rest.length+1) mr;rw[Pl.fO,hl];simp only;rw[if_pos h1])
    have hpn:=hf.ahead p (by rw[hl];simp);have hf':EJ (Pl.oQ {mr with ahead:=rest,opened:=mr.opened+1} p.place p.length (.piece p)):=by
     have a:=hf.bW;have b:=hf.asked;have c:=hf.opened;have d:=hf.ahead;rw[hl]at a b c d;simp only[aR]at a b c;refine⟨hf.size,?_,?_,hf.win,?_,fun q hq=>d q (List.mem_cons_of_mem _ hq)⟩
     ·show mr.bW+1+rest.length≤_;omega
     ·show(mr.asked++[_]).length+rest.length≤_;simp;omega
     ·show mr.opened+1+rest.length≤_;omega
    have abv:=hf.bW;have abw:=hf.asked;have HF':=hide hf';clear hf' hf;rw[hl]at c12 hrow hcap hcell r hpl Jh abv abw hfo;simp only[aR]at c12 hrow hcap hcell r hpl Jh abv abw hfo;cases bJ with
    |nil=>simp at hpl
    |cons pv bJ=>
    have hpp:oG dH wr pv p.pages:=hpg 0 pv p rfl (by rw[hl];rfl);have abx:∀(i:Nat)(q:Value)(x:Pl.Piece),bJ[i]?=some q→rest[i]?=some x→oG dH wr q x.pages:=fun i q x a b=>hpg (i+1) q x a (by rw[hl];exact b)
    obtain⟨pa,pc,rfl,-,-⟩:=bM.get hpp;obtain⟨b,off,rfl,hblt,hcl⟩:=hcell af;have d0:wr.cell? ⟨b,off,none⟩=some (.int .i64 p.place):=hcl 0 af;have d1:wr.cell? ⟨b,off+1,none⟩=some (.int .i64 p.length):=hcl 1 af;have d2:wr.cell? ⟨b,off+2,none⟩=some (.slice pa p.pages.length pc):=hcl 2 af;have hdr:=hrow.YR (q:=1) af;rw[show(gH (Value.slice pa p.pages.length pc::bJ) (p::rest)).drop (1*3)=gH bJ rest from rfl,Nat.add_sub_cancel]at hdr;clear hcl hcell hpg hl HE;have HD:=hide hdr;clear hdr
    go_wp2_with fail
    go_quiet (fail);have x1:Ext wr (wr.drewN nq):=ax.drewN nq;have r1:=r.ext x1;have d0':=x1.cell d0 id;have d1':=x1.cell d1 id;have uP:=x1.cell d2 id;have QY:=x1.cell c12 id;have QZ:=x1.cell c13 id;have Q0:(wr.drewN nq).frozen? ⟨P,12,none⟩=false:=f12;have aby:(wr.drewN nq).frozen? ⟨P,13,none⟩=false:=f13;have HD1:=hide (HD.out.go (S:=fun _=>False) x1 (fun _ _ f=>f) (fun _ _ e=>e));clear HD d0 d1 d2 c12 c13 f12 f13 c3;generalize wr.drewN nq=W1 at*;have FT:=r1.blk.lt
    go_wp2_with fail
    ·rename_i h;have HD2:bM (fun b=>dH b=.ro) false W1 3 (Value.slice (some ⟨b,off,none⟩) rest.length 0) rest.length (gH bJ rest):=by
      have:=HD1.out;rw[if_pos h,h]at this;exact this
     have HD3:=hide HD2;obtain⟨hva,YS,LF,-,-⟩:=HD2.get;have hone:((Value.slice (some ⟨b,off,none⟩) rest.length 0)).oneCell'=true:=rfl;clear HD2;generalize hvq:(Value.slice (some ⟨b,off,none⟩) rest.length 0)=hv' at*;clear hvq;have hin:Inner dH W1 P {mr with ahead:=rest} ps qs nv av wv hv' gv:=⟨r1.inn.cB,r1.inn.top,r1.inn.names,r1.inn.asked,r1.inn.jd,r1.inn.eY,r1.inn.waiting,r1.inn.jW,r1.inn.gI,r1.inn.nodup,⟨bJ,by simpa using hpl,HD3.out,fun i q x a b=>(abx i q x a b).go x1 (fun _ f=>f.elim) (fun _ _=>rfl)⟩,r1.inn.groups⟩
     have r2:=r1.cellP 12 hv' (m':={mr with ahead:=rest}) (by simp[dw,lT]) hin;have hin2:Inner dH (W1.setCell ⟨P,12,none⟩ hv') P {mr with ahead:=rest,opened:=mr.opened+1} ps qs nv av wv hv' gv:=⟨r2.inn.cB,r2.inn.top,r2.inn.names,r2.inn.asked,r2.inn.jd,r2.inn.eY,r2.inn.waiting,r2.inn.jW,r2.inn.gI,r2.inn.nodup,r2.inn.ahead,r2.inn.groups⟩
     have r3:=r2.cellP 13 (.int .i64 ((mr.opened:Int)+1)) (m':={mr with ahead:=rest,opened:=mr.opened+1}) (by simp[dw,I,lT]) hin2;have k3:Kp (fun k=>k=P) W1 ((W1.setCell ⟨P,12,none⟩ hv').setCell ⟨P,13,none⟩ (.int .i64 ((mr.opened:Int)+1))):=(bI _ _ _ _).trans (bI _ _ _ _);have hz3:((W1.setCell ⟨P,12,none⟩ hv').setCell ⟨P,13,none⟩ (.int .i64 ((mr.opened:Int)+1))).heap.size=W1.heap.size:=(size_set _ _ _).trans (size_set _ _ _);clear hin hin2 r2;generalize(W1.setCell ⟨P,12,none⟩ hv').setCell ⟨P,13,none⟩ (.int .i64 ((mr.opened:Int)+1))=W3 at*;have x4:Ext W3 (W3.alloc (.cells #[PtrTo P 0,.int .i64 p.place,.int .i64 p.length,.slice pa p.pages.length pc] 237)):=ax.alloc _;have bA:bK (W3.alloc (.cells #[PtrTo P 0,.int .i64 p.place,.int .i64 p.length,.slice pa p.pages.length pc] 237)) W1.heap.size [PtrTo P 0,.int .i64 p.place,.int .i64 p.length,.slice pa p.pages.length pc] 237:=by
      have:=bK.bO W3 [PtrTo P 0,.int .i64 p.place,.int .i64 p.length,.slice pa p.pages.length pc] 237;rwa[hz3]at this
     have r4:=r3.ext x4;have k4:Kp (fun k=>k=P) W1 (W3.alloc (.cells #[PtrTo P 0,.int .i64 p.place,.int .i64 p.length,.slice pa p.pages.length pc] 237)):=k3.trans (Kp.cZ x4);clear r3 k3 x4 hz3;generalize W3.alloc (.cells #[PtrTo P 0,.int .i64 p.place,.int .i64 p.length,.slice pa p.pages.length pc] 237)=W4 at*;have hS:∀u,Ext W4 u→u.cell? ⟨W1.heap.size,0,none⟩=some (PtrTo P 0)∧u.cell? ⟨W1.heap.size,1,none⟩=some (.int .i64 p.place)∧u.cell? ⟨W1.heap.size,2,none⟩=some (.int .i64 p.length)∧u.cell? ⟨W1.heap.size,3,none⟩=some (.slice pa p.pages.length pc):=fun u hu=>⟨hu.cell (bA.cell 0) id,hu.cell (bA.cell 1) id,hu.cell (bA.cell 2) id,hu.cell (bA.cell 3) id⟩
     have HS:=hide hS;clear hS d0' d1' uP QY QZ Q0 aby;have hx1:Ext W4 W4.drew:=ax.drew;have r5:=r4.ext hx1;have Xf:oG dH W4.drew (.slice pa p.pages.length pc) p.pages:=((hpp.go x1 (fun _ f=>f.elim) (fun _ _=>rfl)).go k4 (fun i hi=>by rw[hi,r.inn.cB];simp) (fun _ _=>rfl)).go hx1 (fun _ f=>f.elim) (fun _ _=>rfl);refine bZ (n:=11) (Ext W4) (by kernel_rfl) ?_;refine Late.h HS 0 [1,2,11] rfl hx1 ?_;refine Late.h HS 1 [2,11] rfl hx1 ?_;refine Late.h HS 2 [11] rfl hx1 ?_;refine Late.h HS 3 [4,5,11] rfl hx1 ?_;refine Late.h HS 4 [5,11] rfl hx1 ?_;refine Late.h HS 5 [11] rfl hx1 ?_;refine Late.h HS 6 [7,8,11] rfl hx1 ?_;refine Late.h HS 7 [8,11] rfl hx1 ?_;refine Late.h HS 8 [11] rfl hx1 ?_;refine Late.h HS 9 [10,11] rfl hx1 ?_;refine Late.h HS 10 [11] rfl hx1 ?_;refine Late.o 11 rfl (fun K hK=>?_);refine fe rfl 83 #[PtrTo P 7,.int .i64 p.place,.int .i64 p.length,fq 149 (.agg #[PtrTo P 0,.int .i64 p.place,.int .i64 p.length,.slice pa p.pages.length pc])] (by go_simp) ?_;refine(x_ dH W4.drew P {mr with ahead:=rest,opened:=mr.opened+1} p.place p.length (.piece p) ps qs nv av wv hv' gv _ r5 ⟨_,rfl,Xf⟩ ⟨_,_,rfl⟩ (by show mr.bW≤_;omega) (by show mr.asked.length≤_;omega) af af af).mono ?_;rintro e w6 ⟨rfl,c6,p6,yc,r6,g6⟩;refine⟨_,rfl,hK _ _ (fun h=>absurd rfl h) ?_⟩;clear hK K;try simp only[lX]
     refine Late.done (by kernel_rfl) ?_ _
     go_wp2_with fail
     rw[Int.toNat_natCast,Int.toNat_natCast]at r6;have hW:cu col w w6 c6:=((hw.trans (cu.ext x1)).trans ⟨(k4.trans (Kp.cZ hx1)).mono (fun i _ hi=>by show dH i≠.out;rw[hi,r.inn.cB];simp),fun _ _=>rfl⟩).trans g6;refine⟨⟨c6,_,r6.is,hW,HF'.out,HX.out⟩,?_⟩;have e6:=r6.wE;have e7:(Pl.oQ {mr with ahead:=rest,opened:=mr.opened+1} p.place p.length (.piece p)).ahead.length=rest.length:=rfl;rw[Jh.out,e6,e7];omega
    ·rename_i h;have HD2:bM (fun b=>dH b=.ro) false W1 3 (Value.slice (some ⟨b,off+3,none⟩) rest.length (hc-1)) rest.length (gH bJ rest):=by
      have:=HD1.out;rw[if_neg h]at this;exact this
     have HD3:=hide HD2;obtain⟨hva,YS,LF,-,-⟩:=HD2.get;have hone:((Value.slice (some ⟨b,off+3,none⟩) rest.length (hc-1))).oneCell'=true:=rfl;clear HD2;generalize hvq:(Value.slice (some ⟨b,off+3,none⟩) rest.length (hc-1))=hv' at*;clear hvq;have hin:Inner dH W1 P {mr with ahead:=rest} ps qs nv av wv hv' gv:=⟨r1.inn.cB,r1.inn.top,r1.inn.names,r1.inn.asked,r1.inn.jd,r1.inn.eY,r1.inn.waiting,r1.inn.jW,r1.inn.gI,r1.inn.nodup,⟨bJ,by simpa using hpl,HD3.out,fun i q x a b=>(abx i q x a b).go x1 (fun _ f=>f.elim) (fun _ _=>rfl)⟩,r1.inn.groups⟩
     have r2:=r1.cellP 12 hv' (m':={mr with ahead:=rest}) (by simp[dw,lT]) hin;have hin2:Inner dH (W1.setCell ⟨P,12,none⟩ hv') P {mr with ahead:=rest,opened:=mr.opened+1} ps qs nv av wv hv' gv:=⟨r2.inn.cB,r2.inn.top,r2.inn.names,r2.inn.asked,r2.inn.jd,r2.inn.eY,r2.inn.waiting,r2.inn.jW,r2.inn.gI,r2.inn.nodup,r2.inn.ahead,r2.inn.groups⟩
     have r3:=r2.cellP 13 (.int .i64 ((mr.opened:Int)+1)) (m':={mr with ahead:=rest,opened:=mr.opened+1}) (by simp[dw,I,lT]) hin2;have k3:Kp (fun k=>k=P) W1 ((W1.setCell ⟨P,12,none⟩ hv').setCell ⟨P,13,none⟩ (.int .i64 ((mr.opened:Int)+1))):=(bI _ _ _ _).trans (bI _ _ _ _);have hz3:((W1.setCell ⟨P,12,none⟩ hv').setCell ⟨P,13,none⟩ (.int .i64 ((mr.opened:Int)+1))).heap.size=W1.heap.size:=(size_set _ _ _).trans (size_set _ _ _);clear hin hin2 r2;generalize(W1.setCell ⟨P,12,none⟩ hv').setCell ⟨P,13,none⟩ (.int .i64 ((mr.opened:Int)+1))=W3 at*;have x4:Ext W3 (W3.alloc (.cells #[PtrTo P 0,.int .i64 p.place,.int .i64 p.length,.slice pa p.pages.length pc] 237)):=ax.alloc _;have bA:bK (W3.alloc (.cells #[PtrTo P 0,.int .i64 p.place,.int .i64 p.length,.slice pa p.pages.length pc] 237)) W1.heap.size [PtrTo P 0,.int .i64 p.place,.int .i64 p.length,.slice pa p.pages.length pc] 237:=by
      have:=bK.bO W3 [PtrTo P 0,.int .i64 p.place,.int .i64 p.length,.slice pa p.pages.length pc] 237;rwa[hz3]at this
     have r4:=r3.ext x4;have k4:Kp (fun k=>k=P) W1 (W3.alloc (.cells #[PtrTo P 0,.int .i64 p.place,.int .i64 p.length,.slice pa p.pages.length pc] 237)):=k3.trans (Kp.cZ x4);clear r3 k3 x4 hz3;generalize W3.alloc (.cells #[PtrTo P 0,.int .i64 p.place,.int .i64 p.length,.slice pa p.pages.length pc] 237)=W4 at*;have hS:∀u,Ext W4 u→u.cell? ⟨W1.heap.size,0,none⟩=some (PtrTo P 0)∧u.cell? ⟨W1.heap.size,1,none⟩=some (.int .i64 p.place)∧u.cell? ⟨W1.heap.size,2,none⟩=some (.int .i64 p.length)∧u.cell? ⟨W1.heap.size,3,none⟩=some (.slice pa p.pages.length pc):=fun u hu=>⟨hu.cell (bA.cell 0) id,hu.cell (bA.cell 1) id,hu.cell (bA.cell 2) id,hu.cell (bA.cell 3) id⟩
     have HS:=hide hS;clear hS d0' d1' uP QY QZ Q0 aby;have hx1:Ext W4 W4.drew:=ax.drew;have r5:=r4.ext hx1;have Xf:oG dH W4.drew (.slice pa p.pages.length pc) p.pages:=((hpp.go x1 (fun _ f=>f.elim) (fun _ _=>rfl)).go k4 (fun i hi=>by rw[hi,r.inn.cB];simp) (fun _ _=>rfl)).go hx1 (fun _ f=>f.elim) (fun _ _=>rfl);refine bZ (n:=11) (Ext W4) (by kernel_rfl) ?_;refine Late.h HS 0 [1,2,11] rfl hx1 ?_;refine Late.h HS 1 [2,11] rfl hx1 ?_;refine Late.h HS 2 [11] rfl hx1 ?_;refine Late.h HS 3 [4,5,11] rfl hx1 ?_;refine Late.h HS 4 [5,11] rfl hx1 ?_;refine Late.h HS 5 [11] rfl hx1 ?_;refine Late.h HS 6 [7,8,11] rfl hx1 ?_;refine Late.h HS 7 [8,11] rfl hx1 ?_;refine Late.h HS 8 [11] rfl hx1 ?_;refine Late.h HS 9 [10,11] rfl hx1 ?_;refine Late.h HS 10 [11] rfl hx1 ?_;refine Late.o 11 rfl (fun K hK=>?_);refine fe rfl 83 #[PtrTo P 7,.int .i64 p.place,.int .i64 p.length,fq 149 (.agg #[PtrTo P 0,.int .i64 p.place,.int .i64 p.length,.slice pa p.pages.length pc])] (by go_simp) ?_;refine(x_ dH W4.drew P {mr with ahead:=rest,opened:=mr.opened+1} p.place p.length (.piece p) ps qs nv av wv hv' gv _ r5 ⟨_,rfl,Xf⟩ ⟨_,_,rfl⟩ (by show mr.bW≤_;omega) (by show mr.asked.length≤_;omega) af af af).mono ?_;rintro e w6 ⟨rfl,c6,p6,yc,r6,g6⟩;refine⟨_,rfl,hK _ _ (fun h=>absurd rfl h) ?_⟩;clear hK K;try simp only[lX]
     refine Late.done (by kernel_rfl) ?_ _
     go_wp2_with fail
     rw[Int.toNat_natCast,Int.toNat_natCast]at r6;have hW:cu col w w6 c6:=((hw.trans (cu.ext x1)).trans ⟨(k4.trans (Kp.cZ hx1)).mono (fun i _ hi=>by show dH i≠.out;rw[hi,r.inn.cB];simp),fun _ _=>rfl⟩).trans g6;refine⟨⟨c6,_,r6.is,hW,HF'.out,HX.out⟩,?_⟩;have e6:=r6.wE;have e7:(Pl.oQ {mr with ahead:=rest,opened:=mr.opened+1} p.place p.length (.piece p)).ahead.length=rest.length:=rfl;rw[Jh.out,e6,e7];omega
  ·have h1':¬(mr.opened:Int)<mr.win:=af;have HF:Hid (Pl.fV m=mr):=hide (by
    rw[←HE.out];cases hl:mr.ahead with
    |nil=>rfl
    |cons p rest=>
     show Pl.fO (rest.length+1) mr=mr;unfold Pl.fO;rw[hl];simp only;rw[if_neg h1])
   go_wp2_with fail
   go_quiet (fail)
   go_wp2_with fail
   go_end0
   rw[HF.out];exact⟨rfl,dH,(r.ext (ax.drewN nq)).is,hw.trans (cu.ext (ax.drewN nq))⟩
theorem OG {ops:Array Oper}{o:Oper}{a:Act}{w:World}{K:Act→World→Prop}{Q:Exit→Act→World→Prop}{E:Prop}(hg:o.guard=none)(l c:Operand)(t:TypeId)(hop:o.op=Op.makeSlice t l c)
 (e:TypeId)(z:Value)(bytes:Nat)(h1:Tryz.prog.underlying t=some (.slice e))(h2:(Tryz.prog.info? e).map (fun i=>(i.zero,i.size,i.bytes))=some (some z,1,bytes))(hz:z.cells=#[z])
 (n:Nat)(L C:Int)(hl:a.eval l=.int .i64 L)(hc:a.eval c=.int .i64 C)(hL:L=n)(hC:C=n)(hb:bytes*n≤281474976710656)(hn:n≤1000000000000000)
 (hK:K (a.put o.dst (.slice (some ⟨w.heap.size,0,none⟩) n n)) (w.alloc (.cells (List.replicate n z).toArray e))):
 if Region.wanted o (yielded ops a.tmps)=true then Oper.wp Tryz.prog o a w K Q else E:=by
 have hw:Region.wanted o (yielded ops a.tmps)=true:=by simp[Region.wanted,hg]
 rw[if_pos hw];obtain⟨i,hi,hz0,hz1,hz2⟩:=info_parts h2;subst hL;subst hC;have hrun:=run_make (P:=Tryz.prog) w t e i z h1 hi hz0 .i64 .i64 (n:Int) (n:Int) af (Int.le_refl _) (by rw[hz2];omega) af;rw[Int.toNat_natCast,hz1,Nat.mul_one,hz]at hrun;have hm:madeCells #[z] n=(List.replicate n z).toArray:=by
  apply Array.ext';rw[toList_madeCells_one]
 rw[hm]at hrun;unfold Oper.wp;simp[execOp,hop,hl,hc,hrun,Result.andThen];exact hK
def zGr :Value:=.agg #[.int .i64 0,.slice none 0 0,.int .i64 0]
theorem abC :(Tryz.prog.info? 200).map (fun i=>(i.zero,i.size,i.bytes))=some (some zGr,3,40):=by kernel_rfl
theorem zo :(Tryz.prog.info? 46).map (fun i=>(i.zero,i.size,i.bytes))=some (some (.slice none 0 0),1,24):=by kernel_rfl
def BF (bD n:Nat):Pl.gF:=⟨n,List.replicate bD [],bD⟩
abbrev Jj (bD b:Nat):Value:=.slice (some ⟨b,0,none⟩) bD bD
theorem Kt (bJ:List Value)(l:List Pl.gF)(pv:Value)(g:Pl.gF)(h:bJ.length=l.length):jF (bJ++[pv]) (l++[g])=jF bJ l++[I g.rows,pv,I g.missing]:=by
 unfold jF;rw[List.zipWith_append h];simp
theorem Xg (l:List Nat)(a:Nat):(l++[a]).sum=l.sum+a:=by
 induction l with
 |nil=>simp
 |cons x r ih=>rw[List.cons_append,List.sum_cons,ih,List.sum_cons];omega
theorem OH (D:Nat→Prop)(w:World)(bD:Nat)(lv:Value)(ls:List Nat)(hr:bM D false w 1 lv ls.length (ls.map fun n:Nat=>I n))(hl:ls.length≤100)(hc:bD≤100)(hm:∀n∈ls,n≤1000000):
 Calls Tryz.prog 122 #[.int .i64 bD,lv] w fun e w'=>∃(gv:Value)(bs:List Nat),e=.returned (.agg #[I bD,gv,I 0,I 0,I (ls.sum:Nat)])∧Ext w w'∧bs.length=ls.length∧Own w' 3 gv ls.length (jF (bs.map (Jj bD)) (ls.map (BF bD)))∧(∀g,gv.ownBlock=some g→w.heap.size≤g∧g∉bs)∧bs.Nodup∧∀b∈bs,w.heap.size≤b∧bK w' b (List.replicate bD (.slice none 0 0)) 46:=by
 obtain⟨la,lc,rfl,hlc,h3⟩:=hr.get;clear hr;go_enter Tryz.func122,Tryz.ntmps122
 go_wp2_with fail
 have x0:Ext w ((w.alloc (.cells #[.int .i64 0,.slice none 0 0,.int .i64 0,.int .i64 0,.int .i64 0] 140)).alloc (.cells #[.int .i64 bD,.slice none 0 0,.int .i64 0,.int .i64 0,.int .i64 0] 140)):=(ax.alloc _).alloc _;have bR:bK ((w.alloc (.cells #[.int .i64 0,.slice none 0 0,.int .i64 0,.int .i64 0,.int .i64 0] 140)).alloc (.cells #[.int .i64 bD,.slice none 0 0,.int .i64 0,.int .i64 0,.int .i64 0] 140)) (w.heap.size+1) [.int .i64 bD,.slice none 0 0,.int .i64 0,.int .i64 0,.int .i64 0] 140:=by
  have:=bK.bO (w.alloc (.cells #[.int .i64 0,.slice none 0 0,.int .i64 0,.int .i64 0,.int .i64 0] 140)) [.int .i64 bD,.slice none 0 0,.int .i64 0,.int .i64 0,.int .i64 0] 140;simpa using this
 have b0:bK ((w.alloc (.cells #[.int .i64 0,.slice none 0 0,.int .i64 0,.int .i64 0,.int .i64 0] 140)).alloc (.cells #[.int .i64 bD,.slice none 0 0,.int .i64 0,.int .i64 0,.int .i64 0] 140)) w.heap.size [.int .i64 0,.slice none 0 0,.int .i64 0,.int .i64 0,.int .i64 0] 140:=
  (bK.bO w [.int .i64 0,.slice none 0 0,.int .i64 0,.int .i64 0,.int .i64 0] 140).kept (S:=fun _=>False) (ax.alloc _) id
 generalize(w.alloc (.cells #[.int .i64 0,.slice none 0 0,.int .i64 0,.int .i64 0,.int .i64 0] 140)).alloc (.cells #[.int .i64 bD,.slice none 0 0,.int .i64 0,.int .i64 0,.int .i64 0] 140)=W at*;go_loopw [12] (fun i wr=>∃(k:Nat)(gv:Value)(bs:List Nat),i=.int .i64 k∧k≤ls.length∧bs.length=k∧bK wr (w.heap.size+1) [.int .i64 bD,gv,.int .i64 0,.int .i64 0,.int .i64 ((ls.take k).sum:Nat)] 140∧bK wr w.heap.size [.int .i64 0,.slice none 0 0,.int .i64 0,.int .i64 0,.int .i64 0] 140∧Own wr 3 gv k (jF (bs.map (Jj bD)) ((ls.take k).map (BF bD)))∧(∀g,gv.ownBlock=some g→w.heap.size+2≤g∧g∉bs)∧bs.Nodup∧(∀b∈bs,w.heap.size+2≤b∧bK wr b (List.replicate bD (.slice none 0 0)) 46)∧Ext w wr) (fun i _=>ls.length-(intOf i).toNat)
 case atStart=>exact⟨0,_,[],rfl,af,rfl,bR,b0,Own.nil _ _,fun g e=>by simp[Value.ownBlock]at e,aj,fun b hb=>by simp at hb,x0⟩
 case round=>
  obtain⟨k,gv,bs,rfl,hk,hbl,hbR,hb0,ho,hg,hnd,hbs,hx⟩:=hrel;clear bR b0 x0;obtain⟨ga,gc,rfl,hgc⟩:=ho.shape;by_cases hkl:k<ls.length
  ·obtain⟨lb,lo,rfl,hlb,hcc⟩:=h3 af;have d0:=hx.cell ((hcc k af).trans (by rw[aN,ay hkl];rfl)) id;have hmk:=hm ls[k] (aJ hkl);have hsum:(ls.take k).sum≤k*1000000:=by
    have:∀(l:List Nat),(∀n∈l,n≤1000000)→l.sum≤l.length*1000000:=by
     intro l;induction l with
     |nil=>intro _;simp
     |cons a r ih=>intro h;have:=ih (fun n hn=>h n (by simp[hn]));have:=h a aj;simp only[List.sum_cons,aR,Nat.add_mul];omega
    have h1:=this (ls.take k) (fun n hn=>hm n (List.mem_of_mem_take hn));rw[aU,Nat.min_eq_left hk]at h1;exact h1
   have HT:Hid ((ls.take (k+1)).map (BF bD)=(ls.take k).map (BF bD)++[BF bD ls[k]]):=hide (by rw[aF hkl,a_];rfl);have HU:Hid ((ls.take (k+1)).sum=(ls.take k).sum+ls[k]):=hide (by rw[aF hkl,Xg]);have hll:((ls.take k).map (BF bD)).length=k:=by simp;omega
   generalize ls[k]=nr at*;generalize(ls.take k).sum=sm at*;generalize(ls.take k).map (BF bD)=GS at*;simp only[I]at d0;clear hcc h3
   go_wp2_with fail
   have c1:=hbR.cell 1;have f1:=hbR.free 1;simp only[au]at c1;have hS:∀u,Kp (fun b=>b≠w.heap.size+1) wr u→u.cell? ⟨w.heap.size+1,1,none⟩=some (.slice ga k gc):=fun u hu=>hu.cell c1 aj
   have HS:=hide hS;clear hS;have hx1:Kp (fun b=>b≠w.heap.size+1) wr wr.drew:=ax.drew;have hRl:=hbR.lt;refine bZ (n:=10) (Kp (fun b=>b≠w.heap.size+1) wr) (by kernel_rfl) ?_;refine Late.h HS 0 [10] rfl hx1 ?_;refine Late.h HS 1 [10] rfl hx1 ?_;refine Late.h HS 2 [10] rfl hx1 ?_;refine Late.h HS 3 [10] rfl hx1 ?_;refine Late.h HS 5 [10] rfl hx1 ?_;refine Late.o 4 rfl (fun K hK=>?_);refine OG rfl _ _ 51 rfl 46 (.slice none 0 0) 24 Tryz.underlying51 zo rfl bD bD bD rfl rfl rfl rfl af af ?_;refine hK _ _ (fun _=>hx1.alloc _) ?_;clear hK K;try simp only[lX]
   have xm:Ext wr (wr.drew.alloc (.cells (List.replicate bD (.slice none 0 0)).toArray 46)):=(ax.drew).alloc _;have bm:bK (wr.drew.alloc (.cells (List.replicate bD (.slice none 0 0)).toArray 46)) wr.heap.size (List.replicate bD (.slice none 0 0)) 46:=bK.bO wr.drew _ _;generalize wr.drew.alloc (.cells (List.replicate bD (.slice none 0 0)).toArray 46)=W2 at*;have g2:Kp (fun b=>b≠w.heap.size+1) wr W2:=Kp.cZ xm;have hwz:wr.drew.heap.size=wr.heap.size:=rfl;try rw[hwz]
   refine Late.o 6 rfl (fun K hK=>?_);go_simp;refine hK _ _ (fun _=>g2) ?_;clear hK K;try simp only[lX]
   refine Late.o 7 rfl (fun K hK=>?_);go_simp;refine hK _ _ (fun _=>g2.alloc _) ?_;clear hK K;try simp only[lX]
   have hne:∀g,(Value.slice ga k gc).ownBlock=some g→g<wr.heap.size:=fun g e=>ho.lt e
   refine Late.o 8 rfl (fun K hK=>?_);refine d_ rfl _ _ 138 138 rfl 200 zGr 3 40 Tryz.underlying138 abC rfl _ _ _ (by rfl) (ho.ext (xm.alloc _)) _ (by rfl) 1 _ (dO W2 W2.heap.size rfl _ _ Tryz.underlying138 _ [I nr,Jj bD wr.heap.size,I bD] rfl (by intro u hu;simp at hu;rcases hu with rfl|rfl|rfl<;>rfl)) af af ?_;intro v' w5 o5 k5 s5;have g5:Kp (fun b=>b≠w.heap.size+1) wr w5:=(g2.alloc _).trans (k5.mono (fun i _ e=>by have:=(hg i e).1;omega));refine hK _ _ (fun _=>g5) ?_;clear hK K;obtain⟨a',c',rfl,hc'⟩:=o5.shape;try simp only[lX]
   have c5:w5.cell? ⟨w.heap.size+1,1,none⟩=some (.slice ga k gc):=g5.cell c1 aj;have f5:w5.frozen? ⟨w.heap.size+1,1,none⟩=false:=by rw[World.frozen?_of_block (w:=wr) (a:=⟨w.heap.size+1,1,none⟩) (g5.block _ hRl aj)];exact f1
   refine Late.o 9 rfl (fun K hK=>?_);go_simp;refine hK _ _ (fun _=>g5) ?_;clear hK K;try simp only[lX]
   refine Late.o 10 rfl (fun K hK=>?_);go_simp;refine hK _ _ (fun h=>absurd rfl h) ?_;clear hK K;try simp only[lX]
   refine Late.done (by kernel_rfl) ?_ _;have hz2:=xm.size;have x5:Kp (fun i=>(Value.slice ga k gc).ownBlock=some i) wr w5:=(Kp.cZ (xm.alloc _)).trans k5;have hnew:∀g,(Value.slice a' (k+1) c').ownBlock=some g→(Value.slice ga k gc).ownBlock=some g∨W2.heap.size<g:=fun g e=>by
    rcases s5 with e'|⟨g',e1,e2⟩
    ·rw[e']at e;exact .inl e
    ·rw[e1]at e;simp only[Option.some.injEq]at e;subst e;simp at e2;exact .inr af
   have nE:bK w5 (w.heap.size+1) [.int .i64 bD,.slice ga k gc,.int .i64 0,.int .i64 0,.int .i64 sm] 140:=hbR.kept x5 (fun e=>by have:=(hg _ e).1;omega);have h05:bK w5 w.heap.size [.int .i64 0,.slice none 0 0,.int .i64 0,.int .i64 0,.int .i64 0] 140:=hb0.kept x5 (fun e=>by have:=(hg _ e).1;omega);have hs5:=nE.set 1 (.slice a' (k+1) c');have Pz:=bI w5 (w.heap.size+1) 1 (.slice a' (k+1) c');have hbW2:wr.heap.size<W2.heap.size:=bm.lt;have TA:Ext w w5:=hx.then x5 (fun i hi e=>by have:=(hg i e).1;omega);have bm5:bK w5 wr.heap.size (List.replicate bD (.slice none 0 0)) 46:=(bm.kept (S:=fun _=>False) (ax.alloc _) id).kept k5 (fun e=>by have:=hne _ e;omega);have H9:∀b∈bs,bK w5 b (List.replicate bD (.slice none 0 0)) 46:=fun b hb=>(hbs b hb).2.kept x5 (fun e=>(hg _ e).2 hb)
   have hxz:=hx.size;have amy:(w5.setCell ⟨w.heap.size+1,1,none⟩ (.slice a' (k+1) c')).heap.size=w5.heap.size:=size_set _ _ _;generalize w5.setCell ⟨w.heap.size+1,1,none⟩ (.slice a' (k+1) c')=W6 at*;have e4:W6.cell? ⟨w.heap.size+1,4,none⟩=some (.int .i64 sm):=hs5.cell 4;have f4:=hs5.free 4
   go_wp2_with fail
   have PD:=bI W6 (w.heap.size+1) 4 (.int .i64 ((sm:Int)+nr));have Dz:Kp (fun k=>k=w.heap.size+1) w5 (W6.setCell ⟨w.heap.size+1,4,none⟩ (.int .i64 ((sm:Int)+nr))):=Pz.trans PD;refine⟨⟨k+1,.slice a' (k+1) c',bs++[wr.heap.size],by go_num,af,by simp[hbl],?_,h05.kept Dz af,?_,?_,?_,?_,TA.then Dz (fun i hi e=>af)⟩,by simp[intOf];omega⟩
   ·have:=hs5.set 4 (.int .i64 ((sm:Int)+nr));rw[HU.out];simpa using this
   ·rw[HT.out,a_];rw[show List.map (Jj bD) [wr.heap.size]=[Jj bD wr.heap.size]from rfl,Kt _ _ _ _ (by simp[hbl,hll])];exact o5.kept Dz (fun g e=>(hnew g e).elim (fun e=>by have:=(hg g e).1;omega) (fun e=>af))
   ·intro g e;rcases hnew g e with e|e
    ·refine⟨(hg g e).1,fun hm=>?_⟩;rcases aI.1 hm with h|h
     ·exact(hg g e).2 h
     ·simp at h;have:=hne g e;omega
    ·refine⟨af,fun hm=>?_⟩;rcases aI.1 hm with h|h
     ·have:=(hbs g h).2.lt;omega
     ·simp at h;omega
   ·rw[List.nodup_append];refine⟨hnd,aj,fun a ha b hb=>?_⟩;simp at hb;subst hb;have:=(hbs a ha).2.lt;omega
   ·intro b hb;rcases aI.1 hb with h|h
    ·exact⟨(hbs b h).1,(H9 b h).kept Dz (by have:=(hbs b h).1;omega)⟩
    ·simp at h;subst h;have:=hbR.lt;exact⟨af,bm5.kept Dz af⟩
  ·obtain rfl:k=ls.length:=af;rw[aX]at hbR ho;have c0:=hbR.cell 0;have c1:=hbR.cell 1;have c2:=hbR.cell 2;have c3:=hbR.cell 3;have c4:=hbR.cell 4;have d0:=hb0.cell 0;have d1:=hb0.cell 1;have d2:=hb0.cell 2;have d3:=hb0.cell 3;have d4:=hb0.cell 4;have f0:=hb0.free 0;have f1:=hb0.free 1;have f2:=hb0.free 2;have f3:=hb0.free 3;have f4:=hb0.free 4;simp only[au]at c0 c1 c2 c3 c4 d0 d1 d2 d3 d4
   go_wp2_with fail
   have b2:=((((hb0.set 0 (.int .i64 bD)).set 1 (.slice ga ls.length gc)).set 2 (.int .i64 0)).set 3 (.int .i64 0)).set 4 (.int .i64 (ls.sum:Nat));have k2:=((((bI wr w.heap.size 0 (.int .i64 bD)).trans (bI _ w.heap.size 1 (.slice ga ls.length gc))).trans (bI _ w.heap.size 2 (.int .i64 0))).trans (bI _ w.heap.size 3 (.int .i64 0))).trans (bI _ w.heap.size 4 (.int .i64 (ls.sum:Nat)));generalize((((wr.setCell ⟨w.heap.size,0,none⟩ (.int .i64 bD)).setCell ⟨w.heap.size,1,none⟩ (.slice ga ls.length gc)).setCell ⟨w.heap.size,2,none⟩ (.int .i64 0)).setCell ⟨w.heap.size,3,none⟩ (.int .i64 0)).setCell ⟨w.heap.size,4,none⟩ (.int .i64 (ls.sum:Nat))=w5 at*;have e0:=b2.cell 0;have e1:=b2.cell 1;have e2:=b2.cell 2;have e3:=b2.cell 3;have e4:=b2.cell 4;simp only[List.set_cons_zero,List.set_cons_succ,au]at e0 e1 e2 e3 e4;refine bodyPost_ret (v:=.agg #[.int .i64 bD,.slice ga ls.length gc,.int .i64 0,.int .i64 0,.int .i64 (ls.sum:Nat)]) (by simp[results,Tryz.results122,go_sem,e0,e1,e2,e3,e4]) rfl ?_;refine⟨_,bs,rfl,hx.then k2 (fun i hi e=>af),hbl,ho.kept k2 (fun g e=>by have:=(hg g e).1;omega),fun g e=>⟨by have:=(hg g e).1;omega,(hg g e).2⟩,hnd,fun b hb=>⟨by have:=(hbs b hb).1;omega,(hbs b hb).2.kept k2 (by have:=(hbs b hb).1;omega)⟩⟩
abbrev FX (place length sum g c r:Nat):Value:=.agg #[.int .i64 place,.int .i64 length,.int .u32 sum,.int .i64 g,.int .i64 c,.int .i64 r]
theorem LZ (w:World)(b o pp pl place length sum g c r gap:Nat)(c0:w.cell? ⟨b,o,none⟩=some (.int .i64 pp))(c1:w.cell? ⟨b,o+1,none⟩=some (.int .i64 pl))
 (h1:pp≤1099511627775)(h2:pl≤1099511627775)(h3:place≤1099511627775)(_h4:gap≤1099511627775):
 Calls Tryz.prog 163 #[PtrTo b o,FX place length sum g c r,.int .i64 gap] w fun e w'=>e=.returned (.bool (decide (place≤pp+pl+gap)))∧Ext w w':=by
 have hb:b<w.heap.size:=World.block_lt_of_cell? w _ c0;go_enter Tryz.func163,Tryz.ntmps163
 go_wp2_with fail
 have x0:Ext w (w.alloc (.cells #[.int .i64 place,.int .i64 length,.int .u32 sum,.int .i64 g,.int .i64 c,.int .i64 r] 253)):=ax.alloc _;have d0:(w.alloc (.cells #[.int .i64 place,.int .i64 length,.int .u32 sum,.int .i64 g,.int .i64 c,.int .i64 r] 253)).cell? ⟨w.heap.size,0,none⟩=some (.int .i64 place):=World.cell?_alloc_new w _ _ 0;generalize w.alloc (.cells #[.int .i64 place,.int .i64 length,.int .u32 sum,.int .i64 g,.int .i64 c,.int .i64 r] 253)=W1 at*;have e0:=x0.cell c0 id;have e1:=x0.cell c1 id;clear c0 c1;go_quiet (fail)
 go_wp2_with fail
 go_ret;refine⟨?_,x0.drewN nq⟩;show Ending.returned (.bool (decide ((place:Int)-(pp+pl)≤gap)))=.returned (.bool (decide (place≤pp+pl+gap)));rw[show decide ((place:Int)-(pp+pl)≤gap)=decide (place≤pp+pl+gap) by rw[decide_eq_decide];omega]
theorem zq (w:World)(b o pp pl place length sum g c r:Nat)(c0:w.cell? ⟨b,o,none⟩=some (.int .i64 pp))(c1:w.cell? ⟨b,o+1,none⟩=some (.int .i64 pl))
 (h1:pp≤1099511627775)(_h2:pl≤1099511627775)(h3:place≤1099511627775)(h4:length≤1099511627775)(h5:pp≤place):
 Calls Tryz.prog 164 #[PtrTo b o,FX place length sum g c r] w fun e w'=>e=.returned (.int .i64 ((max pl (place+length-pp):Nat):Int))∧Ext w w':=by
 have hb:b<w.heap.size:=World.block_lt_of_cell? w _ c0;go_enter Tryz.func164,Tryz.ntmps164
 go_wp2_with fail
 have x0:Ext w (w.alloc (.cells #[.int .i64 place,.int .i64 length,.int .u32 sum,.int .i64 g,.int .i64 c,.int .i64 r] 253)):=ax.alloc _;have d0:(w.alloc (.cells #[.int .i64 place,.int .i64 length,.int .u32 sum,.int .i64 g,.int .i64 c,.int .i64 r] 253)).cell? ⟨w.heap.size,0,none⟩=some (.int .i64 place):=World.cell?_alloc_new w _ _ 0;have d1:(w.alloc (.cells #[.int .i64 place,.int .i64 length,.int .u32 sum,.int .i64 g,.int .i64 c,.int .i64 r] 253)).cell? ⟨w.heap.size,1,none⟩=some (.int .i64 length):=World.cell?_alloc_new w _ _ 1;have d2:(w.alloc (.cells #[.int .i64 place,.int .i64 length,.int .u32 sum,.int .i64 g,.int .i64 c,.int .i64 r] 253)).cell? ⟨w.heap.size,2,none⟩=some (.int .u32 sum):=World.cell?_alloc_new w _ _ 2;generalize w.alloc (.cells #[.int .i64 place,.int .i64 length,.int .u32 sum,.int .i64 g,.int .i64 c,.int .i64 r] 253)=W1 at*;have e0:=x0.cell c0 id;have e1:=x0.cell c1 id;clear c0 c1
 go_region_held3 (fun u=>u.cell? ⟨b,o,none⟩=some (.int .i64 pp)∧u.cell? ⟨b,o+1,none⟩=some (.int .i64 pl)∧u.cell? ⟨w.heap.size,0,none⟩=some (.int .i64 place)∧u.cell? ⟨w.heap.size,1,none⟩=some (.int .i64 length)∧u.cell? ⟨w.heap.size,2,none⟩=some (.int .u32 sum)) (first|go_keep|exact⟨x1.cell e0 id,x1.cell e1 id,x1.cell d0 id,x1.cell d1 id,x1.cell d2 id⟩) (first|(go_at_call 173;refine(Lp _ place length sum h3 h4).mono ?_;rintro e w' ⟨rfl,x1⟩)|fail)
 have hw:IntKind.i64.wrap ((place:Int)+length-pp)=((place+length-pp:Nat):Int):=by
  simp only[IntKind.wrap,IntKind.bits,IntKind.signed,Bool.true_and];rw[if_neg (by simp;omega)];omega
 have hx:Ext w w':=(x0.drew).trans x1;have hm:(if(pl:Int)<((place+length-pp:Nat):Int)then((place+length-pp:Nat):Int)else(pl:Int))=((max pl (place+length-pp):Nat):Int):=by split<;>omega
 rw[hw,hm]
 go_wp2_with fail
 go_ret;exact⟨rfl,hx⟩
theorem Own.set {w:World}{size n g cap:Nat}{cs:List Value}(h:Own w size (.slice (some ⟨g,0,none⟩) n cap) n cs)(j:Nat)(hj:j<n*size)(u:Value):Own (w.setCell ⟨g,j,none⟩ u) size (.slice (some ⟨g,0,none⟩) n cap) n (cs.set j u):=by
 refine⟨by rw[List.length_set];exact h.1,?_⟩;rcases h.2 with⟨e,_⟩|⟨g',cap',e,h1,h2,h3,h4,h5⟩
 ·cases e
 ·cases e;have hc:∀i,(w.setCell ⟨g,j,none⟩ u).cell? ⟨g,i,none⟩=if i=j then some u else w.cell? ⟨g,i,none⟩:=fun i=>by
   by_cases hij:i=j
   ·subst hij;rw[if_pos rfl];have:=h4 i hj;rw[ay (by rw[h.1];exact hj)]at this;exact World.cell?_setCell_same _ _ _ this
   ·rw[if_neg hij];exact World.cell?_setCell_other _ _ _ _ (fun e=>hij (by cases e;rfl))
  refine .inr ⟨g,cap,rfl,h1,h2,by simpa using h3,fun i hi=>?_,fun i hi=>⟨?_,by simpa using(h5 i hi).2⟩⟩
  ·rw[hc,List.getElem?_set];by_cases hij:i=j
   ·subst hij;rw[if_pos rfl,if_pos rfl,if_pos (by rw[h.1];exact hj)]
   ·rw[if_neg hij,if_neg (fun e=>hij e.symm)];exact h4 i hi
  ·rw[hc];split
   ·rfl
   ·exact(h5 i hi).1
theorem Own.cellAt {w:World}{size n g cap:Nat}{cs:List Value}(h:Own w size (.slice (some ⟨g,0,none⟩) n cap) n cs)(j:Nat)(hj:j<n*size):w.cell? ⟨g,j,none⟩=cs[j]?∧w.frozen? ⟨g,j,none⟩=false:=by
 rcases h.2 with⟨e,_⟩|⟨g',cap',e,h1,h2,h3,h4,h5⟩
 ·cases e
 ·cases e;exact⟨h4 j hj,(h5 j (aY hj (Nat.mul_le_mul_right _ h1))).2⟩
def zWp :Value:=.agg #[.int .i64 0,.int .i64 0,.int .u32 0,.int .i64 0,.int .i64 0,.int .i64 0]
theorem Ua :(Tryz.prog.info? 253).map (fun i=>(i.zero,i.size,i.bytes))=some (some zWp,6,48):=by kernel_rfl
theorem Ia {α:Type}(A:List α)(x y z:α):(A++[x,y,z])[A.length]?=some x∧(A++[x,y,z])[A.length+1]?=some y∧(A++[x,y,z])[A.length+2]?=some z:=by
 refine⟨?_,?_,?_⟩
 ·rw[aP (aK _),Nat.sub_self];rfl
 ·rw[aP af,show A.length+1-A.length=1 from af];rfl
 ·rw[aP af,show A.length+2-A.length=2 from af];rfl
theorem set_mid {α:Type}(A:List α)(x y z u:α):(A++[x,y,z]).set (A.length+1) u=A++[x,u,z]∧(A++[x,y,z]).set (A.length+2) u=A++[x,y,u]:=by
 refine⟨?_,?_⟩
 ·rw[List.set_append_right _ _ af,show A.length+1-A.length=1 from af];rfl
 ·rw[List.set_append_right _ _ af,show A.length+2-A.length=2 from af];rfl
theorem Ub (x:Pl.cK):∀u∈b_ x,u.oneCell'=true:=by
 intro u hu;simp[b_]at hu;rcases hu with rfl|rfl|rfl|rfl|rfl|rfl<;>rfl
theorem aal (w:World)(b cap L pp pl n:Nat)(A:List Value)(pv:Value)(cs:List Value)(x:Pl.cK)(hA:A.length=L*3)(hO:Own w 3 (.slice (some ⟨b,0,none⟩) (L+1) cap) (L+1) (A++[I pp,I pl,pv]))(hP:Own w 6 pv n cs)(hne:∀g,pv.ownBlock=some g→g≠b)(hn:n≤1000)
 (h1:pp≤1099511627775)(h2:pl≤1099511627775)(h3:x.page.place≤1099511627775)(h4:x.page.length≤1099511627775)(h5:pp≤x.page.place):
 Calls Tryz.prog 165 #[PtrTo b (L*3),FX x.page.place x.page.length x.page.sum x.group x.column x.rows] w fun e w'=>e=.returned (.tuple #[])∧∃pv',Own w' 3 (.slice (some ⟨b,0,none⟩) (L+1) cap) (L+1) (A++[I pp,I (max pl (x.page.place+x.page.length-pp):Nat),pv'])∧Own w' 6 pv' (n+1) (cs++b_ x)∧Sep w pv pv'∧Kp (fun k=>k=b∨Of pv k) w w':=by
 rw[←hA];obtain⟨g0,g1,g2⟩:=Ia A (I pp) (I pl) pv;have c0:=(hO.cellAt A.length af).1.trans g0;have c1:=(hO.cellAt (A.length+1) af).1.trans g1;have c2:=(hO.cellAt (A.length+2) af).1.trans g2;have f1:=(hO.cellAt (A.length+1) af).2;have f2:=(hO.cellAt (A.length+2) af).2;simp only[I]at c0 c1;clear g0 g1 g2;have hbl:b<w.heap.size:=World.block_lt_of_cell? w _ c0;have HA:=hide hA;clear hA;obtain⟨pa,pc,rfl,-⟩:=hP.shape;have hPb:∀g,(Value.slice pa n pc).ownBlock=some g→g<w.heap.size:=fun g e=>hP.lt e
 go_enter Tryz.func165,Tryz.ntmps165
 go_upto_region 1 with fail
 have x0:Ext w (w.alloc (.cells #[.int .i64 x.page.place,.int .i64 x.page.length,.int .u32 x.page.sum,.int .i64 x.group,.int .i64 x.column,.int .i64 x.rows] 253)):=ax.alloc _;have b0:=bK.bO w [.int .i64 x.page.place,.int .i64 x.page.length,.int .u32 x.page.sum,.int .i64 x.group,.int .i64 x.column,.int .i64 x.rows] 253;generalize w.alloc (.cells #[.int .i64 x.page.place,.int .i64 x.page.length,.int .u32 x.page.sum,.int .i64 x.group,.int .i64 x.column,.int .i64 x.rows] 253)=W1 at*;have c0':=x0.cell c0 id;have c1':=x0.cell c1 id;have c2':=x0.cell c2 id;have d0:=b0.cell 0;have d1:=b0.cell 1;have d2:=b0.cell 2;have d3:=b0.cell 3;have d4:=b0.cell 4;have d5:=b0.cell 5;simp only[au]at d0 d1 d2 d3 d4 d5;have hmx:Hid (∀u,Ext W1 u→u.cell? ⟨b,A.length+1,none⟩=some (.int .i64 pl)∧u.frozen? ⟨b,A.length+1,none⟩=false):=hide fun u hu=>⟨hu.cell c1' id,by rw[World.frozen?_of_block (w:=w) (a:=⟨b,A.length+1,none⟩) ((x0.trans hu).block b hbl id)];exact f1⟩
 have HLW:=hide (zq W1 b A.length pp pl x.page.place x.page.length x.page.sum x.group x.column x.rows c0' c1' h1 h2 h3 h4 h5);obtain⟨mx,Xk⟩:∃mx,mx=max pl (x.page.place+x.page.length-pp):=⟨_,rfl⟩
 rw[←Xk]at HLW;have HM:=hide Xk;clear Xk
 go_wp2_with (go_at_call 164;refine(bH HLW).mono ?_;rintro e w2 ⟨rfl,x2⟩;obtain⟨q1,q2⟩:=(bH hmx) w2 x2)
 have hO2:=hO.ext (x0.trans x2);have hO3:=hO2.set (A.length+1) (by have:=HA.out;omega) (.int .i64 mx);rw[(set_mid A (I pp) (I pl) (.slice pa n pc) (.int .i64 mx)).1]at hO3;have k3:=bI w2 b (A.length+1) (.int .i64 mx);have hP3:=(hP.ext (x0.trans x2)).kept k3 (fun g e=>hne g e);have hb3:=(b0.kept x2 id).kept k3 af;have yu:Kp (fun k=>k=b) w (w2.setCell ⟨b,A.length+1,none⟩ (.int .i64 mx)):=(Kp.cZ (x0.trans x2)).trans k3;clear hO2 c0 c1 c2 f1 f2 c0' c1' c2' d0 d1 d2 d3 d4 d5 b0 hO hP q1 q2;generalize w2.setCell ⟨b,A.length+1,none⟩ (.int .i64 mx)=W3 at*;obtain⟨g0,g1,g2⟩:=Ia A (I pp) (.int .i64 mx) (.slice pa n pc);have c2:=(hO3.cellAt (A.length+2) (by have:=HA.out;omega)).1.trans g2;have f2:=(hO3.cellAt (A.length+2) (by have:=HA.out;omega)).2;clear g0 g1 g2;have d:=fun j=>hb3.cell j
 have hS:∀u,Kp (fun k=>k≠b∧k≠w.heap.size) W3 u→u.cell? ⟨b,A.length+2,none⟩=some (.slice pa n pc)∧u.cell? ⟨w.heap.size,0,none⟩=some (.int .i64 x.page.place)∧u.cell? ⟨w.heap.size,1,none⟩=some (.int .i64 x.page.length)∧u.cell? ⟨w.heap.size,2,none⟩=some (.int .u32 x.page.sum)∧u.cell? ⟨w.heap.size,3,none⟩=some (.int .i64 x.group)∧u.cell? ⟨w.heap.size,4,none⟩=some (.int .i64 x.column)∧u.cell? ⟨w.heap.size,5,none⟩=some (.int .i64 x.rows):=
  fun u hu=>⟨hu.cell c2 aj,hu.cell (d 0) aj,hu.cell (d 1) aj,hu.cell (d 2) aj,hu.cell (d 3) aj,hu.cell (d 4) aj,hu.cell (d 5) aj⟩
 have HS:=hide hS;clear hS d;have hx1:Kp (fun k=>k≠b∧k≠w.heap.size) W3 W3.drew:=ax.drew;have aiB:b<W3.heap.size:=aY hbl yu.size;refine bZ (n:=10) (Kp (fun k=>k≠b∧k≠w.heap.size) W3) (by kernel_rfl) ?_;refine Late.h HS 0 [10] rfl hx1 ?_;refine Late.h HS 1 [10] rfl hx1 ?_;refine Late.h HS 2 [10] rfl hx1 ?_;refine Late.h HS 3 [10] rfl hx1 ?_;refine Late.h HS 4 [10] rfl hx1 ?_;refine Late.h HS 5 [10] rfl hx1 ?_;refine Late.o 6 rfl (fun K hK=>?_);go_simp;refine hK _ _ (fun _=>hx1.alloc _) ?_;clear hK K;try simp only[lX]
 refine Late.o 7 rfl (fun K hK=>?_);refine d_ rfl _ _ 232 232 rfl 253 zWp 6 48 Tryz.underlying232 Ua rfl _ _ _ (by rfl) (hP3.ext (ax.drew.alloc _)) _ (by rfl) 1 _ (dO W3.drew W3.drew.heap.size rfl _ _ Tryz.underlying232 _ (b_ x) rfl (Ub x)) af af ?_;intro v' w5 o5 k5 s5;have g5:Kp (fun k=>k≠b∧k≠w.heap.size) W3 w5:=(hx1.alloc _).trans (k5.mono (fun i _ e=>⟨hne i e,by have:=hPb i e;omega⟩));refine hK _ _ (fun _=>g5) ?_;clear hK K;obtain⟨a',c',rfl,hc'⟩:=o5.shape;try simp only[lX]
 have c5:w5.cell? ⟨b,A.length+2,none⟩=some (.slice pa n pc):=g5.cell c2 aj;have f5:w5.frozen? ⟨b,A.length+2,none⟩=false:=by rw[World.frozen?_of_block (w:=W3) (a:=⟨b,A.length+2,none⟩) (g5.block _ aiB aj)];exact f2
 refine Late.o 8 rfl (fun K hK=>?_);go_simp;refine hK _ _ (fun _=>g5) ?_;clear hK K;try simp only[lX]
 refine Late.o 9 rfl (fun K hK=>?_);go_simp;refine hK _ _ (fun _=>g5) ?_;clear hK K;try simp only[lX]
 refine Late.o 10 rfl (fun K hK=>?_);go_simp;refine hK _ _ (fun h=>absurd rfl h) ?_;clear hK K;try simp only[lX]
 refine Late.done (by kernel_rfl) ?_ _
 go_end0
 have ks:=bI w5 b (A.length+2) (.slice a' (n+1) c');have Jl:Kp (Of (.slice pa n pc)) W3 w5:=(ax.drew.alloc _).trans k5;have FY:=(hO3.kept Jl (fun g e he=>hne g he (by simp[Value.ownBlock]at e;exact e.symm))).set (A.length+2) (by have:=HA.out;omega) (.slice a' (n+1) c');rw[(set_mid A (I pp) (.int .i64 mx) (.slice pa n pc) (.slice a' (n+1) c')).2]at FY;have T9:Sep w (.slice pa n pc) (.slice a' (n+1) c'):=Sep.mono (by have:=yu.size;simp;omega) s5;have hnew:∀g,(Value.slice a' (n+1) c').ownBlock=some g→g≠b:=fun g e=>by
  rcases T9 with e'|⟨g',e1,e2⟩
  ·rw[e']at e;exact hne g e
  ·rw[e1]at e;simp only[Option.some.injEq]at e;subst e;omega
 rw[←HM.out];exact⟨rfl,_,FY,o5.kept ks hnew,T9,((yu.mono (fun _ _ e=>.inl e)).trans (Jl.mono (fun _ _ e=>.inr e))).trans (ks.mono (fun _ _ e=>.inl e))⟩
def EN :Option Nat→Ending
 |none=>.returned (.tuple #[.int .i64 0,.bool false])
 |some n=>.returned (.tuple #[.int .i64 n,.bool true])
theorem BI (C:Nat→Prop)(w:World)(v:Value)(l:List UInt8)(size:Nat)(h:bM C false w 1 v l.length (l.map B))(hl:l.length≤1000000)(hs:size≤1099511627775):
 Calls Tryz.prog 103 #[v,.int .i64 size] w fun e w'=>e=EN (Pl.jk l size)∧Ext w w'∧w'.heap.size=w.heap.size:=by
 by_cases h6:l.length=6
 ·obtain⟨-,ao,cap,rfl,hcap,h3⟩:=h;obtain⟨g,off,rfl,hC,hlt,hc,-⟩:=h3 af;obtain⟨a0,a1,a2,a3,a4,a5,rfl⟩:∃a0 a1 a2 a3 a4 a5,l=[a0,a1,a2,a3,a4,a5]:=by
   rcases l with _|⟨a0,_|⟨a1,_|⟨a2,_|⟨a3,_|⟨a4,_|⟨a5,_|⟨a6,t⟩⟩⟩⟩⟩⟩⟩<;>simp at h6;exact⟨_,_,_,_,_,_,rfl⟩
  clear h6 h3;have d0:=hc 0 aj;have d1:=hc 1 aj;simp only[List.map_cons,au,Nat.add_zero,B]at d0 d1;have hcv:∀o c,o=(if cap=2 then some ⟨g,off,none⟩else some (⟨g,off+2,none⟩:Addr))→Sem.run Tryz.prog (convert 76 9 (.slice (some ⟨g,off+2,none⟩) 4 c)) w=.ok (.string ⟨#[a2,a3,a4,a5]⟩) w:=by
   intro o c _;exact run_convert_bytes_back (P:=Tryz.prog) w 76 9 5 ⟨g,off+2,none⟩ c [a2,a3,a4,a5] Tryz.underlying76 Tryz.underlying5 Tryz.underlying9 (fun j hj=>by
    have ea:(⟨g,off+2,none⟩:Addr).add j=⟨g,off+(2+j),none⟩:=by
     unfold Addr.add;by_cases h0:j=0
     ·subst h0;rfl
     ·simp[h0,Nat.add_assoc]
    have hj':j<4:=hj;rw[ea,hc (2+j) (by simp;omega)];have h4:j=0∨j=1∨j=2∨j=3:=af;rcases h4 with rfl|rfl|rfl|rfl<;>rfl)
  have aiD:=fun c=>hcv _ c rfl
  clear hcv hc;simp only[aR,List.length_nil,Nat.reduceAdd]at hcap⊢;have hcap2:¬cap=2:=af;have b0:=a0.toNat_lt;have b1:=a1.toNat_lt;go_enter Tryz.func103,Tryz.ntmps103
  go_wp2_with fail
  ·rename_i hm;have hp:Pl.jk [a0,a1,a2,a3,a4,a5] size=none:=by
    unfold Pl.jk;rw[if_neg];rintro⟨-,e,-⟩;simp[Pl.mark]at e;simp[e]at hm
   go_ret2
   rw[hp];exact⟨rfl,Kp.refl _ _,rfl⟩
  ·rename_i hm _ _;have hm2:[a2,a3,a4,a5]=Pl.mark:=by
    simp at hm;simp[Pl.mark,hm]
   have HM:=hide hm2;clear hm2 hm aiD;have ho:bits .or .i64 ((a0.toNat:Int)*256) (a1.toNat:Int)=((a0.toNat*256+a1.toNat:Nat):Int):=by
    have e:=FI (a0.toNat*256) a1.toNat af af;rw[Nat.or_comm,EB a1.toNat a0.toNat 8 b1]at e;rw[Nat.add_comm,←e];simp
   have hR:∀ok:Prop,(ok↔1≤a0.toNat*256+a1.toNat∧a0.toNat*256+a1.toNat+10≤size)→(ok→Pl.jk [a0,a1,a2,a3,a4,a5] size=some (a0.toNat*256+a1.toNat))∧(¬ok→Pl.jk [a0,a1,a2,a3,a4,a5] size=none):=by
    intro ok hok;unfold Pl.jk;constructor
    ·intro h;rw[if_pos ⟨rfl,HM.out,(hok.1 h).1,(hok.1 h).2⟩];rfl
    ·intro h;rw[if_neg];rintro⟨-,-,e1,e2⟩;exact h (hok.2 ⟨e1,e2⟩)
   have HR:=hide hR;clear hR;by_cases hlo:1≤a0.toNat*256+a1.toNat
   ·by_cases hhi:a0.toNat*256+a1.toNat+10≤size
    ·go_quiet (fail)
     go_wp2_with fail
     go_ret2
     rw[(HR.out True (by simp[hlo,hhi])).1 trivial];refine⟨?_,ax.drewN _,rfl⟩;show Ending.returned (.tuple #[.int .i64 ((a0.toNat:Int)*256+a1.toNat),.bool true])=.returned (.tuple #[.int .i64 ((a0.toNat*256+a1.toNat:Nat):Int),.bool true]);simp
    ·go_quiet (fail)
     go_wp2_with fail
     go_ret2
     rw[(HR.out False (by simp[hhi])).2 id];exact⟨rfl,ax.drewN _,rfl⟩
   ·go_quiet (fail)
    go_wp2_with fail
    go_ret2
    rw[(HR.out False (by simp[hlo])).2 id];exact⟨rfl,ax.drewN _,rfl⟩
 ·have hp:Pl.jk l size=none:=by unfold Pl.jk;rw[if_neg (fun e=>h6 e.1)]
  obtain⟨-,ao,cap,rfl,hcap,-⟩:=h;rw[hp];go_enter Tryz.func103,Tryz.ntmps103
  go_wp2_with fail
  go_ret2
  exact⟨rfl,Kp.refl _ _,rfl⟩
theorem KC (C:Nat→Prop)(w:World)(b o pp place length sum g c r:Nat)(v:Value)(l:List UInt8)(hC:∀i,C i→i<w.heap.size)(c0:w.cell? ⟨b,o,none⟩=some (.int .i64 pp))(h:bM C false w 1 v l.length (l.map B))(hl:l.length≤1000000)
 (h1:pp≤place)(h2:1≤length)(h3:place+length≤pp+l.length)(_h4:place≤1000000)(hr1:1≤r)(aaY:r≤20)(hs:sum<4294967296):
 Calls Tryz.prog 169 #[PtrTo b o,FX place length sum g c r,v] w fun e w'=>Ext w w'∧lN w w' r (mQ sum ((l.drop (place-pp)).take length) r) e:=by
 have hb:b<w.heap.size:=World.block_lt_of_cell? w _ c0;have h':=h;obtain⟨-,ao,cap,rfl,hcap,h5⟩:=h';obtain⟨vb,vo,rfl,-,-,-,-⟩:=h5 af;clear h5;have hd:=h.drop1 (q:=place-pp) af;rw[if_neg af]at hd;have ht:=hd.take1 (q:=length) af;rw[←List.map_drop,←List.map_take]at ht;have hll:((l.drop (place-pp)).take length).length=length:=by rw[aU,bq];omega
 generalize hL:(l.drop (place-pp)).take length=L at*;have HR:∀u,Ext w u→bM C false u 1 (.slice (some ⟨vb,vo+(place-pp),none⟩) length (cap-(place-pp))) L.length (L.map B):=fun u hu=>by
  rw[hll];exact ht.go (S:=fun _=>False) hu (fun _ _ f=>f) (fun _ _ e=>e)
 have HR:=hide HR;have HL:=hide hll;clear hll hL hd ht h;go_enter Tryz.func169,Tryz.ntmps169
 go_wp2_with fail
 have x0:Ext w (w.alloc (.cells #[.int .i64 place,.int .i64 length,.int .u32 sum,.int .i64 g,.int .i64 c,.int .i64 r] 253)):=ax.alloc _;have d:=fun j=>World.cell?_alloc_new w #[.int .i64 place,.int .i64 length,.int .u32 sum,.int .i64 g,.int .i64 c,.int .i64 r] 253 j
 have d0:=d 0;have d1:=d 1;have d2:=d 2;have d5:=d 5;simp only[List.getElem?_toArray,au]at d0 d1 d2 d5;clear d;generalize w.alloc (.cells #[.int .i64 place,.int .i64 length,.int .u32 sum,.int .i64 g,.int .i64 c,.int .i64 r] 253)=W1 at*;have e0:=x0.cell c0 id;clear c0;go_quiet (fail)
 go_wp2_with fail
 have x1:Ext w (W1.drewN nq):=x0.drewN nq;have hS:∀u,Ext (W1.drewN nq) u→u.cell? ⟨w.heap.size,0,none⟩=some (.int .i64 place)∧u.cell? ⟨w.heap.size,1,none⟩=some (.int .i64 length)∧u.cell? ⟨w.heap.size,2,none⟩=some (.int .u32 sum)∧u.cell? ⟨w.heap.size,5,none⟩=some (.int .i64 r):=fun u hu=>⟨hu.cell d0 id,hu.cell d1 id,hu.cell d2 id,hu.cell d5 id⟩
 generalize W1.drewN nq=W2 at*;rw[show((place:Int)-pp)=((place-pp:Nat):Int)from af];have HS:=hide hS;clear hS d0 d1 d2 d5 e0 x0;generalize hbg:place-pp=bg at*;have hb1:bg+length≤l.length:=af;have hx1:Ext W2 W2.drew:=ax.drew;obtain⟨be,hbe⟩:∃be,be=bg+length:=⟨_,rfl⟩
 have hwr:IntKind.i64.wrap ((bg:Int)+(length:Int))=(be:Int):=by
  simp only[IntKind.wrap,IntKind.bits,IntKind.signed,Bool.true_and];rw[if_neg (by simp;omega)];omega
 have anc:be≤cap:=af;have ane:bg≤be:=af;have anf:be-bg=length:=af;have ang:¬cap=bg:=af;clear hbe;refine bZ (n:=16) (Ext W2) (by kernel_rfl) ?_;refine Late.h HS 0 [16] rfl hx1 ?_;refine Late.h HS 1 [16] rfl hx1 ?_;refine Late.h HS 2 [16] rfl hx1 ?_;refine Late.h HS 3 [16] rfl hx1 ?_;refine Late.h HS 4 [16] rfl hx1 ?_;refine Late.h HS 5 [16] rfl hx1 ?_;refine Late.h HS 6 [16] rfl hx1 ?_;refine Late.h HS 7 [16] rfl hx1 ?_;refine Late.h HS 8 [16] rfl hx1 ?_;refine Late.h HS 9 [16] rfl hx1 ?_;refine Late.h HS 10 [16] rfl hx1 ?_;refine Late.h HS 11 [16] rfl hx1 ?_;refine Late.o 12 rfl (fun K hK=>?_);refine fe rfl 176 #[.agg #[.int .i64 place,.int .i64 length,.int .u32 sum],.slice (some ⟨vb,vo+bg,none⟩) length (cap-bg),.int .i64 r] (by go_simp) ?_;have x2:=x1.trans hx1;refine(Km C W2.drew _ L r place length sum (fun i hi=>aY (hC i hi) x2.size) ((bH HR) _ x2) (by have:=HL.out;omega) hr1 aaY hs).mono ?_;rintro e w3 ⟨x3,ps⟩;have hps:lN w w3 r (mQ sum L r) e:=by
  generalize mQ sum L r=pp at ps;cases ps with
  |no=>exact .no
  |yes g xs hg hb hl=>exact .yes g xs (aO x2.size hg) hb hl
 have HQ:=hide hps;clear hps ps;have ht:∃a b,e=.returned (.tuple #[a,b]):=by
  have:=HQ.out;generalize mQ sum L r=pp at this;cases this<;>exact⟨_,_,rfl⟩
 obtain⟨ra,rb,rfl⟩:=ht;have h23:Ext W2 w3:=hx1.trans x3;refine⟨_,rfl,hK _ _ (fun _=>h23) ?_⟩;clear hK K;try simp only[lX]
 refine Late.t 13 [16] rfl h23 ?_;refine Late.t 14 [16] rfl h23 ?_;refine Late.o 15 rfl (fun K hK=>?_);go_simp;refine hK _ _ (fun _=>h23) ?_;clear hK K;try simp only[lX]
 refine Late.o 16 rfl (fun K hK=>?_);go_simp;refine hK _ _ (fun h=>absurd rfl h) ?_;clear hK K;try simp only[lX]
 refine Late.done (by kernel_rfl) ?_ _
 go_wp2_with fail
 go_ret2
 exact⟨x1.trans h23,HQ.out⟩
end Go.Proofs.YthicgffppmbamaaGreat
