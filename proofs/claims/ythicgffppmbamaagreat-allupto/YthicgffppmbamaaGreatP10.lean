import Derived.Test.YthicgffppmbamaaGreatP4
import Derived.Test.YthicgffppmbamaaGreatP5
import Derived.Test.YthicgffppmbamaaGreatP9
set_option maxRecDepth 100000
set_option maxHeartbeats 16000000
namespace Go.Proofs.YthicgffppmbamaaGreat
open Go.RowKit
theorem wz {n:Int}(h:-9223372036854775808≤n∧n≤9223372036854775807):wrap64 n=n:=by unfold wrap64;omega
theorem WW (b n U:Nat)(hU:U≤4398046511104)(hn:n<U):wrap64 ((n:Int)+wrap64 ((b:Int)%128*(U:Int)))=((n+b%128*U:Nat):Int)∧wrap64 ((U:Int)*128)=((U*128:Nat):Int)∧n+b%128*U<U*128:=by
 have h1:b%128≤127:=af;have h2:b%128*U≤127*U:=Nat.mul_le_mul_right _ h1;have e1:(b:Int)%128=((b%128:Nat):Int):=af;rw[e1,←Int.natCast_mul];generalize b%128*U=V at*;refine⟨?_,?_,af⟩
 ·rw[wz (n:=(V:Int)) af,wz af];omega
 ·rw[wz af];omega
theorem zY (w:World)(s:List UInt8)(hs:s.length≤1000000):
 Calls Tryz.prog 151 #[tx s] w fun e w'=>e=.returned (.tuple #[.int .i64 ((Pl.number s).1:Nat),.int .i64 ((Pl.number s).2:Nat)])∧w'=w:=by
 go_enter Tryz.func151,Tryz.ntmps151
 go_wp2_with fail
 go_loopw [4,5,6] (fun nv uv i wr=>∃(k n U:Nat),i=.int .i64 k∧nv=.int .i64 n∧uv=.int .i64 U∧k≤7∧k≤s.length∧Hid (U=128^k)∧n<U∧Hid (Pl.mV (7-k) k n (s.drop k)=Pl.number s)∧wr=w) (fun _ _ i _=>7-(intOf i).toNat)
 case atStart=>exact⟨0,0,1,rfl,rfl,rfl,af,af,by show _=_;rfl,af,by show _=_;rfl,rfl⟩
 case round=>
  obtain⟨k,n,U,rfl,rfl,rfl,hk7,hkl,HU,hn,HF,rfl⟩:=hrel;by_cases hin:k<s.length∧k<7
  ·have d1:decide ((k:Int)<(s.length:Int))=true:=aH af;have d2:decide ((k:Int)<7)=true:=aH af;have i1:(k:Int)<(s.length:Int):=af;have i2:(k:Int)<7:=af;have i0:(0:Int)≤(k:Int):=af;have aii:U≤4398046511104:=by
    rw[HU.out];have h1:(128:Nat)^k≤128^6:=Nat.pow_le_pow_right af af;have e:(128:Nat)^6=4398046511104:=by decide+kernel
    omega
   have hget:(ByteArray.mk s.toArray)[k]'(by show k<s.toArray.size;simpa using hin.1)=s[k]'hin.1:=rfl;have HS:Hid (Pl.mV (7-(k+1)+1) k n (s[k]'hin.1::s.drop (k+1))=Pl.number s):=by
    show _=_;rw[←HF.out,show 7-(k+1)+1=7-k from af,List.getElem_cons_drop]
   have hb:=(s[k]'hin.1).toNat_lt;obtain⟨b,hbe⟩:∃b,b=(s[k]'hin.1).toNat:=⟨_,rfl⟩
   rw[←hbe]at hb;obtain⟨e3,e4,e5⟩:=WW b n U aii hn;have HS2:Hid ((if b<128 then(if b=0∧0<k then(0,0)else(n+b%128*U,k+1))else Pl.mV (7-(k+1)) (k+1) (n+b%128*U) (s.drop (k+1)))=Pl.number s):=by
    show _=_;rw[←HS.out]
    conv=>rhs;unfold Pl.mV
    rw[←hbe,←HU.out]
   have hgb:(((ByteArray.mk s.toArray)[k]'(by show k<s.toArray.size;simpa using hin.1)).toNat:Int)=(b:Int):=by rw[hget,hbe]
   clear HS hget hbe HF;generalize hV:n+b%128*U=V at*;have HV:=hide hV;clear hV;by_cases h128:b<128
   ·rw[if_pos h128]at HS2;have f1:decide ((b:Int)<128)=true:=aH af;have f2:(b:Int)<128:=af;by_cases h0:b=0∧0<k
    ·rw[if_pos h0]at HS2;obtain⟨rfl,h0k⟩:=h0;have g2:decide ((0:Int)<(k:Int))=true:=aH af;have g3:(0:Int)<(k:Int):=af
     go_wp2_with fail
     go_ret2
     rw[←HS2.out];exact⟨rfl,rfl⟩
    ·rw[if_neg h0]at HS2;by_cases hb0:b=0
     ·subst hb0;have g3:¬(0:Int)<(k:Int):=af;have g2:decide ((0:Int)<(k:Int))=false:=aG g3
      go_wp2_with fail
      go_ret2
      rw[←HS2.out];have hv:=HV.out;simp at hv;exact⟨by simp[hv],rfl⟩
     ·have g1:((b:Int)==0)=false:=by simpa using hb0
      have g4:¬(b:Int)=0:=af
      go_wp2_with fail
      go_ret2
      rw[←HS2.out];exact⟨by simp;exact e3,rfl⟩
   ·rw[if_neg h128]at HS2;have f2:¬(b:Int)<128:=af;have f1:decide ((b:Int)<128)=false:=aG f2
    go_wp2_with fail
    go_roundw
    case rel=>exact⟨k+1,V,U*128,by go_num,by rw[e3],aj,af,af,by show _=_;rw[HU.out,Nat.pow_succ],e5,HS2,trivial⟩
    case measure=>simp[intOf];omega
  ·have HR:Hid (Pl.number s=(0,0)):=by
    show _=_;rw[←HF.out];by_cases h7:k=7
    ·subst h7;rfl
    ·rw[List.drop_of_length_le af];obtain⟨f,hf⟩:∃f,7-k=f+1:=⟨7-k-1,af⟩
     rw[hf];rfl
   have hsp:(decide ((k:Int)<(s.length:Int))=true∧decide ((k:Int)<7)=false∧(k:Int)<(s.length:Int)∧¬(k:Int)<7)∨(decide ((k:Int)<(s.length:Int))=false∧True∧¬(k:Int)<(s.length:Int)∧True):=by
    by_cases hj1:k<s.length
    ·exact .inl ⟨aH af,aG af,af,af⟩
    ·exact .inr ⟨aG af,trivial,af,trivial⟩
   clear HF;rcases hsp with⟨d1,d2,d3,d4⟩|⟨d1,d2,d3,d4⟩
   all_goals(
    go_wp2_with fail
    go_ret2
    rw[HR.out];exact⟨rfl,rfl⟩)
def nV (c:Pl.iU):List Value:=[tx c.1,.bool c.2]
abbrev vG (w:World)(q:Nat)(c:Pl.iU):Prop:=bK w q (nV c) 204
theorem qE (l:List UInt8)(k n:Nat)(hn:l.length=n):(ByteArray.mk l.toArray).extract k n=⟨(l.drop k).toArray⟩:=by
 apply ByteArray.ext;rw[ByteArray.data_extract];apply Array.ext';simp only[Array.toList_extract,List.extract_eq_take_drop];rw[List.take_of_length_le (by rw[bq];omega)]
theorem OB (l:List UInt8)(n:Nat):(ByteArray.mk l.toArray).extract 0 n=⟨(l.take n).toArray⟩:=by
 apply ByteArray.ext;rw[ByteArray.data_extract];apply Array.ext';simp only[Array.toList_extract,List.extract_eq_take_drop,List.drop_zero,Nat.sub_zero]
theorem tN (w:World)(q:Nat)(c:Pl.iU)(lo hi:Nat)(h:vG w q c)(hs:c.1.length≤1000000):
 Calls Tryz.prog 131 #[PtrTo q 0,.int .i64 lo,.int .i64 hi] w fun e w'=>e=.returned (.int .i64 ((Pl.dB lo hi c).1:Nat))∧vG w' q (Pl.dB lo hi c).2∧Kp (fun k=>k=q) w w'∧w'.heap.size=w.heap.size:=by
 obtain⟨s,bad⟩:=c;have hs:s.length≤1000000:=hs;have c0:=h.cell 0;have c1:=h.cell 1;have f0:=h.free 0;have f1:=h.free 1;simp only[nV,au]at c0 c1;have HN:=hide (zY w s hs);have hle:=Pl.uL s;have Dv:Pl.jX lo hi s↔(Pl.number s).2≠0∧lo≤(Pl.number s).1∧(Pl.number s).1≤hi:=Iff.rfl;have HC:Hid (Pl.dB lo hi (s,bad)=if bad=true∨¬Pl.jX lo hi s then(lo,(s,true))else((Pl.number s).1,(s.drop (Pl.number s).2,bad))):=by show _=_;rfl
 have QI:=h.set 1 (.bool true);have QJ:=h.set 0 (tx (s.drop (Pl.number s).2));generalize(Pl.number s).1=n at*;generalize(Pl.number s).2=k at*;go_enter Tryz.func131,Tryz.ntmps131
 go_wp2_with fail
 refine(bH HN).mono ?_;rintro r w1 ⟨rfl,rfl⟩;have tO:Hid (Pl.dB lo hi (s,bad)=(lo,(s,true))→(w1.setCell ⟨q,1,none⟩ (.bool true)).heap.size=w1.heap.size∧vG (w1.setCell ⟨q,1,none⟩ (.bool true)) q (Pl.dB lo hi (s,bad)).2):=fun e=>⟨size_set _ _ _,by rw[e];exact QI⟩
 cases bad with
 |true=>
  rw[if_pos (.inl rfl)]at HC
  go_wp2_with fail
  go_ret;exact⟨by rw[HC.out];rfl,(tO.out HC.out).2,bI _ _ _ _,(tO.out HC.out).1⟩
 |false=>
  by_cases hk:k=0
  ·rw[if_pos (.inr (fun e=>(Dv.1 e).1 hk))]at HC;have b1:((k:Int)==0)=true:=by simp[hk]
   have hk':(k:Int)=0:=af;clear hk
   go_wp2_with fail
   go_ret;exact⟨by rw[HC.out];rfl,(tO.out HC.out).2,bI _ _ _ _,(tO.out HC.out).1⟩
  ·have b1:((k:Int)==0)=false:=by simpa using hk
   have hk':¬(k:Int)=0:=af;by_cases hlo:n<lo
   ·rw[if_pos (.inr (fun e=>by have:=Dv.1 e;omega))]at HC;have b2:decide ((n:Int)<(lo:Int))=true:=aH af;have b3:(n:Int)<(lo:Int):=af
    go_wp2_with fail
    go_ret;exact⟨by rw[HC.out];rfl,(tO.out HC.out).2,bI _ _ _ _,(tO.out HC.out).1⟩
   ·have b3:¬(n:Int)<(lo:Int):=af;have b2:decide ((n:Int)<(lo:Int))=false:=aG b3;by_cases hhi:hi<n
    ·rw[if_pos (.inr (fun e=>by have:=Dv.1 e;omega))]at HC;have b5:(hi:Int)<(n:Int):=af;have b4:decide ((hi:Int)<(n:Int))=true:=aH b5
     go_wp2_with fail
     go_ret;exact⟨by rw[HC.out];rfl,(tO.out HC.out).2,bI _ _ _ _,(tO.out HC.out).1⟩
    ·have b5:¬(hi:Int)<(n:Int):=af;have b4:decide ((hi:Int)<(n:Int))=false:=aG b5;rw[if_neg (fun e=>e.elim (fun e=>by cases e) (fun e=>e (Dv.2 ⟨hk,af,af⟩)))]at HC;have k0:(0:Int)≤(k:Int):=af;have k1:(k:Int)≤(s.length:Int):=af;have HD:=hide (qE s k s.length rfl)
     go_wp2_with fail
     rw[HD.out];go_ret;exact⟨by rw[HC.out];rfl,by rw[HC.out];exact QJ,bI _ _ _ _,size_set _ _ _⟩
theorem FH (w:World)(q:Nat)(c:Pl.iU)(n:Nat)(h:vG w q c)(hs:c.1.length≤1000000):
 Calls Tryz.prog 132 #[PtrTo q 0,.int .i64 n] w fun e w'=>e=.returned (tx (Pl.gJ n c).1)∧vG w' q (Pl.gJ n c).2∧Kp (fun k=>k=q) w w'∧w'.heap.size=w.heap.size:=by
 obtain⟨s,bad⟩:=c;have hs:s.length≤1000000:=hs;have c0:=h.cell 0;have c1:=h.cell 1;have f0:=h.free 0;have f1:=h.free 1;simp only[nV,au]at c0 c1;have HC:Hid (Pl.gJ n (s,bad)=if bad=true∨s.length<n then([],(s,true))else(s.take n,(s.drop n,bad))):=by show _=_;rfl
 have QI:=h.set 1 (.bool true);have QJ:=h.set 0 (tx (s.drop n));have tO:Hid (Pl.gJ n (s,bad)=([],(s,true))→(w.setCell ⟨q,1,none⟩ (.bool true)).heap.size=w.heap.size∧vG (w.setCell ⟨q,1,none⟩ (.bool true)) q (Pl.gJ n (s,bad)).2):=fun e=>⟨size_set _ _ _,by rw[e];exact QI⟩
 go_enter Tryz.func132,Tryz.ntmps132;cases bad with
 |true=>
  rw[if_pos (.inl rfl)]at HC
  go_wp2_with fail
  go_ret;exact⟨by rw[HC.out];rfl,(tO.out HC.out).2,bI _ _ _ _,(tO.out HC.out).1⟩
 |false=>
  by_cases hl:s.length<n
  ·rw[if_pos (.inr hl)]at HC;have b3:(s.length:Int)<(n:Int):=af;have b2:decide ((s.length:Int)<(n:Int))=true:=aH b3
   go_wp2_with fail
   go_ret;exact⟨by rw[HC.out];rfl,(tO.out HC.out).2,bI _ _ _ _,(tO.out HC.out).1⟩
  ·rw[if_neg (fun e=>e.elim (fun e=>by cases e) hl)]at HC;have b3:¬(s.length:Int)<(n:Int):=af;have b2:decide ((s.length:Int)<(n:Int))=false:=aG b3;have k0:(0:Int)≤(n:Int):=af;have k1:(n:Int)≤(s.length:Int):=af;have HD:=hide (qE s n s.length rfl);have HT:=hide (OB s n)
   go_wp2_with fail
   rw[HD.out,HT.out];go_ret;exact⟨by rw[HC.out];rfl,by rw[HC.out];exact QJ,bI _ _ _ _,size_set _ _ _⟩
def ae7 (w0:World)(w':World)(e:Ending)(d:Option (List Int)):Prop:=match d with
 |none=>∃v,e=.returned (.tuple #[v,.bool false])
 |some l=>∃v,e=.returned (.tuple #[v,.bool true])∧Own w' 1 v l.length (l.map I)∧∀g,v.ownBlock=some g→w0.heap.size≤g
theorem TF (f kind rows:Nat)(s:List UInt8)(out:List Int)(h:s.length≠0):Pl.lM (f+1) kind rows s out=match Pl.eD kind rows s out with
 |none=>none
 |some q=>Pl.lM f kind rows q.1 (out++List.replicate q.2.1 q.2.2):=by
 conv=>lhs;unfold Pl.lM
 rw[if_neg h];rfl
def FP :Value→Nat
 |.string b=>b.size
 |_=>0
theorem QT (w:World)(s:List UInt8)(rows:Nat)(hs:s.length≤1000000)(hrw:rows≤1000):
 Calls Tryz.prog 135 #[tx s,.int .i64 rows] w fun e w'=>ae7 w w' e (Pl.decode s rows)∧Ext w w':=by
 cases s with
 |nil=>
  go_enter Tryz.func135,Tryz.ntmps135
  go_wp2_with fail
  go_ret2
  exact⟨⟨_,rfl⟩,Kp.refl _ _⟩
 |cons kd t=>
  have hlen:t.length≤1000000:=by simp at hs;omega
  have hkb:=kd.toNat_lt;have hg0:((ByteArray.mk (kd::t).toArray)[0]'(by simp[ByteArray.size])).toNat=kd.toNat:=rfl;have HD:Hid (Pl.decode (kd::t) rows=if 2<kd.toNat then none else Pl.lM (t.length+1) kd.toNat rows t []):=by show _=_;rfl
  have hdr:(ByteArray.mk (kd::t).toArray).extract 1 (t.length+1)=⟨t.toArray⟩:=qE (kd::t) 1 _ rfl;have hn1:(1:Int)≤(t.length:Int)+1:=af;generalize kd.toNat=kn at*;by_cases h2:2<kn
  ·rw[if_pos h2]at HD;have h2i:(2:Int)<(kn:Int):=af;go_enter Tryz.func135,Tryz.ntmps135
   go_wp2_with fail
   go_ret2
   rw[HD.out];exact⟨⟨_,rfl⟩,Kp.refl _ _⟩
  ·rw[if_neg h2]at HD;have h2i:¬(2:Int)<(kn:Int):=af;have hkn:kn<256:=af;go_enter Tryz.func135,Tryz.ntmps135
   go_wp2_with fail
   clear hdr hg0 hn1;go_loopw [0,7] (fun sv ov wr=>∃(u:List UInt8)(out:List Int)(f:Nat),sv=tx u∧u.length≤t.length∧u.length<f∧Own wr 1 ov out.length (out.map I)∧(∀g,ov.ownBlock=some g→w.heap.size≤g)∧Ext w wr∧Hid (Pl.lM f kn rows u out=Pl.decode (kd::t) rows)∧out.length≤rows∧(∀x∈out,0≤x∧x≤1099511627775)) (fun sv _ _=>FP sv)
   case atStart=>exact⟨t,[],t.length+1,rfl,aK _,af,Own.nil _ _,fun g e=>by simp[Value.ownBlock]at e,Kp.refl _ _,by show _=_;exact HD.out.symm,aj,fun x hx=>by cases hx⟩
   case round=>
    obtain⟨u,out,f,rfl,Ja,huf,ho,hgo,hx,HF,hor,hv⟩:=hrel;obtain⟨ao,cap,rfl,hcap⟩:=ho.shape;obtain⟨f,rfl⟩:∃g,f=g+1:=⟨f-1,af⟩
    by_cases hu0:u.length=0
    ·have aik:¬(0:Int)<(u.length:Int):=af;have HR:Hid (Pl.decode (kd::t) rows=if out.length=rows then some out else none):=by
      show _=_;rw[←HF.out];unfold Pl.lM;rw[if_pos hu0]
     have HU0:=hide hu0;clear HF hu0;by_cases her:out.length=rows
     ·rw[if_pos her]at HR;have ail:((out.length:Int)==(rows:Int))=true:=by simp[her]
      clear her
      go_wp2_with fail
      go_ret2
      rw[HR.out];exact⟨⟨_,aj,ho,hgo⟩,hx⟩
     ·rw[if_neg her]at HR;have ain:¬(out.length:Int)=(rows:Int):=af;have ail:((out.length:Int)==(rows:Int))=false:=by simpa using ain
      go_wp2_with fail
      go_ret2
      rw[HR.out];exact⟨⟨_,by simp;rfl⟩,hx⟩
    ·have aik:(0:Int)<(u.length:Int):=af;have BA:=hide (zY wr u af);have hnl:=Pl.I7 u;have amI:=Pl.uL u;have rC:Hid ((match Pl.eD kn rows u out with
      |none=>none
      |some q=>Pl.lM f kn rows q.1 (out++List.replicate q.2.1 q.2.2))=Pl.decode (kd::t) rows):=by
      show _=_;rw[←HF.out,TF f kn rows u out hu0]
     clear HF;by_cases hk0:(Pl.number u).2=0
     ·have aio:(((Pl.number u).2:Nat):Int)=0:=af;have aip:((((Pl.number u).2:Nat):Int)==0)=true:=by simp[hk0]
      have HN:Hid (Pl.decode (kd::t) rows=none):=by
       show _=_;rw[←rC.out,show Pl.eD kn rows u out=none by unfold Pl.eD;rw[if_pos hk0]]
      clear hk0
      go_wp2_with fail
      refine(bH BA).mono ?_;rintro r wq ⟨rfl,rfl⟩
      go_wp2_with fail
      go_ret2
      rw[HN.out];exact⟨⟨_,rfl⟩,hx⟩
     ·have aio:¬(((Pl.number u).2:Nat):Int)=0:=af;have aip:((((Pl.number u).2:Nat):Int)==0)=false:=by simpa using hk0
      have k0:(0:Int)≤(((Pl.number u).2:Nat):Int):=af;have k1:(((Pl.number u).2:Nat):Int)≤(u.length:Int):=af;have hdr:=qE u (Pl.number u).2 u.length rfl;by_cases hk1:kn=1
      ·have amJ:((kn:Int)==1)=true:=by simp[hk1]
       have amK:((kn:Int)==2)=false:=by simp[hk1]
       have LA:=hide hk1;clear hk1 h2 h2i HD;have YO:=hide (zY wr (u.drop (Pl.number u).2) (by rw[bq];omega));have amL:=Pl.I7 (u.drop (Pl.number u).2);have amx:=Pl.uL (u.drop (Pl.number u).2);have abh:(u.drop (Pl.number u).2).length=u.length-(Pl.number u).2:=bq ..;have HUD:=hide abh;have aiq:=qE (u.drop (Pl.number u).2) (Pl.number (u.drop (Pl.number u).2)).2 (u.drop (Pl.number u).2).length rfl;rw[abh]at aiq
       go_wp2_with fail
       refine(bH BA).mono ?_;rintro r wq ⟨rfl,rfl⟩
       go_wp2_with fail
       refine(bH YO).mono ?_;rintro r wq2 ⟨rfl,rfl⟩;by_cases W_:(Pl.number (u.drop (Pl.number u).2)).2=0
       ·have hz1:(((Pl.number (u.drop (Pl.number u).2)).2:Nat):Int)=0:=af;have hz2:((((Pl.number (u.drop (Pl.number u).2)).2:Nat):Int)==0)=true:=by simp[W_]
        have amM:=hide W_;have HN:Hid (Pl.decode (kd::t) rows=none):=by
         show _=_;rw[←rC.out,show Pl.eD kn rows u out=none by unfold Pl.eD;rw[if_neg hk0,if_pos LA.out,if_pos af]]
        go_wp2_with fail
        go_ret2
        rw[HN.out];exact⟨⟨_,rfl⟩,hx⟩
       ·have hz1:¬(((Pl.number (u.drop (Pl.number u).2)).2:Nat):Int)=0:=af;have hz2:((((Pl.number (u.drop (Pl.number u).2)).2:Nat):Int)==0)=false:=by simpa using W_
        by_cases hm1:(Pl.number u).1<1
        ·have Xa:(((Pl.number u).1:Nat):Int)<1:=af;have dm1:decide ((((Pl.number u).1:Nat):Int)<1)=true:=aH Xa;have HN:Hid (Pl.decode (kd::t) rows=none):=by
          show _=_;rw[←rC.out,show Pl.eD kn rows u out=none by unfold Pl.eD;rw[if_neg hk0,if_pos LA.out,if_pos af]]
         go_wp2_with fail
         go_ret2
         rw[HN.out];exact⟨⟨_,rfl⟩,hx⟩
        ·have Xa:¬(((Pl.number u).1:Nat):Int)<1:=af;have dm1:decide ((((Pl.number u).1:Nat):Int)<1)=false:=aG Xa;by_cases hm2:rows<(Pl.number u).1
         ·have abj:(rows:Int)<(((Pl.number u).1:Nat):Int):=af;have HN:Hid (Pl.decode (kd::t) rows=none):=by
           show _=_;rw[←rC.out,show Pl.eD kn rows u out=none by unfold Pl.eD;rw[if_neg hk0,if_pos LA.out,if_pos af]]
          go_wp2_with fail
          go_ret2
          rw[HN.out];exact⟨⟨_,rfl⟩,hx⟩
         ·have abj:¬(rows:Int)<(((Pl.number u).1:Nat):Int):=af;have dm2:decide ((rows:Int)<(((Pl.number u).1:Nat):Int))=false:=aG abj;have q0:(0:Int)≤(((Pl.number (u.drop (Pl.number u).2)).2:Nat):Int):=af;have q1:(((Pl.number (u.drop (Pl.number u).2)).2:Nat):Int)≤((u.length-(Pl.number u).2:Nat):Int):=af;by_cases hmx:(1099511627775:Int)<((Pl.number (u.drop (Pl.number u).2)).1:Int)
          ·have HN:Hid (Pl.decode (kd::t) rows=none):=by
            show _=_;rw[←rC.out,show Pl.eD kn rows u out=none by unfold Pl.eD;rw[if_neg hk0,if_pos LA.out,if_pos af]]
           go_wp2_with fail
           go_ret2
           rw[HN.out];exact⟨⟨_,rfl⟩,hx⟩
          ·have Xb:((Pl.number (u.drop (Pl.number u).2)).1:Int)≤(1099511627775:Int):=af;have dmx:decide ((1099511627775:Int)<((Pl.number (u.drop (Pl.number u).2)).1:Int))=false:=aG hmx;by_cases hro:rows<out.length+(Pl.number u).1
           ·have wC:(rows:Int)<(out.length:Int)+(((Pl.number u).1:Nat):Int):=af;have HN:Hid (Pl.decode (kd::t) rows=none):=by
             show _=_;rw[←rC.out,show Pl.eD kn rows u out=none by unfold Pl.eD;rw[if_neg hk0,if_pos LA.out,if_pos af]]
            go_wp2_with fail
            go_ret2
            rw[HN.out];exact⟨⟨_,rfl⟩,hx⟩
           ·have wC:¬(rows:Int)<(out.length:Int)+(((Pl.number u).1:Nat):Int):=af;have dro:decide ((rows:Int)<(out.length:Int)+(((Pl.number u).1:Nat):Int))=false:=aG wC;have HN:Hid (Pl.lM f kn rows ((u.drop (Pl.number u).2).drop (Pl.number (u.drop (Pl.number u).2)).2) (out++List.replicate (Pl.number u).1 (((Pl.number (u.drop (Pl.number u).2)).1:Int)))=Pl.decode (kd::t) rows):=by
             show _=_;rw[←rC.out,show Pl.eD kn rows u out=some ((u.drop (Pl.number u).2).drop (Pl.number (u.drop (Pl.number u).2)).2,(Pl.number u).1,((Pl.number (u.drop (Pl.number u).2)).1:Int)) by unfold Pl.eD;rw[if_neg hk0,if_pos LA.out,if_neg af]]
            have wD:Hid (((u.drop (Pl.number u).2).drop (Pl.number (u.drop (Pl.number u).2)).2).length<u.length):=Pl.o_ (kind:=kn) (rows:=rows) (s:=u) (out:=out) (q:=((u.drop (Pl.number u).2).drop (Pl.number (u.drop (Pl.number u).2)).2,(Pl.number u).1,((Pl.number (u.drop (Pl.number u).2)).1:Int))) (by unfold Pl.eD;rw[if_neg hk0,if_pos LA.out,if_neg af]);clear rC
            go_wp2_with fail
            go_loopw [7,11] (fun ov i wq=>∃(j:Nat),i=.int .i64 j∧j≤(Pl.number u).1∧Own wq 1 ov (out.length+j) ((out++List.replicate j (((Pl.number (u.drop (Pl.number u).2)).1:Int))).map I)∧(∀g,ov.ownBlock=some g→w.heap.size≤g)∧Ext w wq) (fun _ i _=>(Pl.number u).1-(intOf i).toNat)
            case atStart=>exact⟨0,rfl,af,by simpa using ho,hgo,hx⟩
            case round=>
             obtain⟨j,rfl,hj,ho2,hg2,hx2⟩:=hrel;obtain⟨ao2,cap2,rfl,hcap2⟩:=ho2.shape;by_cases hjm:j<(Pl.number u).1
             ·have hji:(j:Int)<(((Pl.number u).1:Nat):Int):=af;have HT:Hid ((out++List.replicate (j+1) (((Pl.number (u.drop (Pl.number u).2)).1:Int))).map I=(out++List.replicate j (((Pl.number (u.drop (Pl.number u).2)).1:Int))).map I++[I (((Pl.number (u.drop (Pl.number u).2)).1:Int))]):=by
               show _=_;rw[List.replicate_succ',←aW,a_];rfl
              go_wp2_with (at_builtin;go_must (refine dI _ rfl _ _ 46 46 rfl 3 (.int .i64 0) 1 8 Tryz.underlying46 nZ rfl _ _ _ rfl (ho2.dV _) _ rfl 1 _ (dO _ _ aj _ _ Tryz.underlying46 _ [.int .i64 (((Pl.number (u.drop (Pl.number u).2)).1:Int))] rfl (by intro u hu;simp at hu;subst hu;rfl)) af af ?_);intro v3 w3 o3 k3 s3)
              have x3:Ext w w3:=(hx2.alloc _).then k3 (fun i hi e=>by have:=hg2 i e;omega)
              go_roundw
              case rel=>exact⟨j+1,by go_num,af,by rw[HT.out];exact o3,fun g e=>by
               rcases eT s3 e with e'|e'
               ·exact hg2 g e'
               ·have:=hx2.size;simp at e';omega,x3⟩
              case measure=>simp[intOf];omega
             ·obtain rfl:j=(Pl.number u).1:=af;have hji:¬(((Pl.number u).1:Nat):Int)<(((Pl.number u).1:Nat):Int):=af
              go_wp2_with fail
              go_roundw
              case rel=>exact⟨(u.drop (Pl.number u).2).drop (Pl.number (u.drop (Pl.number u).2)).2,out++List.replicate (Pl.number u).1 (((Pl.number (u.drop (Pl.number u).2)).1:Int)),f,by rw[List.drop_drop],by have:=wD.out;omega,by have:=wD.out;omega,by rw[aD,List.length_replicate];exact ho2,hg2,hx2,HN,by simp;omega,fun y hy=>by
               rcases aI.1 hy with hy|hy
               ·exact hv y hy
               ·have:=List.eq_of_mem_replicate hy;subst this;omega⟩
              case measure=>have:=wD.out;simp[FP,ByteArray.size]at this⊢;omega
      ·have amN:¬(kn:Int)=1:=af;by_cases hk2:kn=2
       ·have amO:((kn:Int)==2)=true:=by simp[hk2]
        have amP:((kn:Int)==1)=false:=by simp[hk2]
        have YP:=hide hk2;clear hk2 h2 h2i HD;by_cases hol:0<out.length
        ·have Xc:(0:Int)<(out.length:Int):=af;have dol:decide ((0:Int)<(out.length:Int))=true:=aH Xc;obtain⟨go,co,he,_,_,hc⟩:=ho.at af;cases he;obtain⟨L,hL⟩:∃L,out.getLastD 0=L:=⟨_,rfl⟩
         have hLm:L∈out:=by
          rw[←hL,List.getLastD_eq_getLast?,List.getLast?_eq_some_getLast (List.ne_nil_of_length_pos hol)];exact List.getLast_mem _
         have hLv:=hv L hLm;have dl:wr.cell? ⟨go,out.length-1,none⟩=some (.int .i64 L):=by
          have:=hc (out.length-1) af;rw[this,aN,←List.getLast?_eq_getElem?,←hL,List.getLastD_eq_getLast?,List.getLast?_eq_some_getLast (List.ne_nil_of_length_pos hol)];rfl
         have HL:=hide hL;have i0:(0:Int)≤(out.length:Int)-1:=af;have i1:(out.length:Int)-1<(out.length:Int):=af;have i2:((out.length:Int)-1).toNat=out.length-1:=af;clear hL hLm hc
         go_wp2_with fail
         refine(bH BA).mono ?_;rintro r wq ⟨rfl,rfl⟩;by_cases hmx:(1099511627775:Int)<((Pl.number u).1:Int)+L
         ·have HN:Hid (Pl.decode (kd::t) rows=none):=by
           show _=_;rw[←rC.out,show Pl.eD kn rows u out=none by unfold Pl.eD;rw[if_neg hk0,if_neg af,if_pos ⟨YP.out,hol⟩,HL.out,if_pos af]]
          go_wp2_with fail
          go_ret2
          rw[HN.out];exact⟨⟨_,rfl⟩,hx⟩
         ·have Xb:((Pl.number u).1:Int)+L≤(1099511627775:Int):=af;have dmx:decide ((1099511627775:Int)<((Pl.number u).1:Int)+L)=false:=aG hmx;by_cases hro:rows<out.length+1
          ·have wC:(rows:Int)<(out.length:Int)+1:=af;have HN:Hid (Pl.decode (kd::t) rows=none):=by
            show _=_;rw[←rC.out,show Pl.eD kn rows u out=none by unfold Pl.eD;rw[if_neg hk0,if_neg af,if_pos ⟨YP.out,hol⟩,HL.out,if_pos af]]
           go_wp2_with fail
           go_ret2
           rw[HN.out];exact⟨⟨_,rfl⟩,hx⟩
          ·have wC:¬(rows:Int)<(out.length:Int)+1:=af;have dro:decide ((rows:Int)<(out.length:Int)+1)=false:=aG wC;have HN:Hid (Pl.lM f kn rows (u.drop (Pl.number u).2) (out++List.replicate 1 (((Pl.number u).1:Int)+L))=Pl.decode (kd::t) rows):=by
            show _=_;rw[←rC.out,show Pl.eD kn rows u out=some (u.drop (Pl.number u).2,1,((Pl.number u).1:Int)+L) by unfold Pl.eD;rw[if_neg hk0,if_neg af,if_pos ⟨YP.out,hol⟩,HL.out,if_neg af]]
           have wD:Hid ((u.drop (Pl.number u).2).length<u.length):=Pl.o_ (kind:=kn) (rows:=rows) (s:=u) (out:=out) (q:=(u.drop (Pl.number u).2,1,((Pl.number u).1:Int)+L)) (by unfold Pl.eD;rw[if_neg hk0,if_neg af,if_pos ⟨YP.out,hol⟩,HL.out,if_neg af]);clear rC
           go_wp2_with fail
           go_loopw [7,11] (fun ov i wq=>∃(j:Nat),i=.int .i64 j∧j≤1∧Own wq 1 ov (out.length+j) ((out++List.replicate j (((Pl.number u).1:Int)+L)).map I)∧(∀g,ov.ownBlock=some g→w.heap.size≤g)∧Ext w wq) (fun _ i _=>1-(intOf i).toNat)
           case atStart=>exact⟨0,rfl,af,by simpa using ho,hgo,hx⟩
           case round=>
            obtain⟨j,rfl,hj,ho2,hg2,hx2⟩:=hrel;obtain⟨ao2,cap2,rfl,hcap2⟩:=ho2.shape;by_cases hjm:j<1
            ·have hji:(j:Int)<1:=af;have HT:Hid ((out++List.replicate (j+1) (((Pl.number u).1:Int)+L)).map I=(out++List.replicate j (((Pl.number u).1:Int)+L)).map I++[I (((Pl.number u).1:Int)+L)]):=by
              show _=_;rw[List.replicate_succ',←aW,a_];rfl
             go_wp2_with (at_builtin;go_must (refine dI _ rfl _ _ 46 46 rfl 3 (.int .i64 0) 1 8 Tryz.underlying46 nZ rfl _ _ _ rfl (ho2.dV _) _ rfl 1 _ (dO _ _ aj _ _ Tryz.underlying46 _ [.int .i64 (((Pl.number u).1:Int)+L)] rfl (by intro u hu;simp at hu;subst hu;rfl)) af af ?_);intro v3 w3 o3 k3 s3)
             have x3:Ext w w3:=(hx2.alloc _).then k3 (fun i hi e=>by have:=hg2 i e;omega)
             go_roundw
             case rel=>exact⟨j+1,by go_num,af,by rw[HT.out];exact o3,fun g e=>by
              rcases eT s3 e with e'|e'
              ·exact hg2 g e'
              ·have:=hx2.size;simp at e';omega,x3⟩
             case measure=>simp[intOf];omega
            ·obtain rfl:j=1:=af;have hji:¬((1:Nat):Int)<1:=af
             go_wp2_with fail
             go_roundw
             case rel=>exact⟨u.drop (Pl.number u).2,out++List.replicate 1 (((Pl.number u).1:Int)+L),f,rfl,by have:=wD.out;omega,by have:=wD.out;omega,by rw[aD,List.length_replicate];exact ho2,hg2,hx2,HN,by simp;omega,fun y hy=>by
              rcases aI.1 hy with hy|hy
              ·exact hv y hy
              ·have:=List.eq_of_mem_replicate hy;subst this;omega⟩
             case measure=>have:=wD.out;simp[FP,ByteArray.size]at this⊢;omega
        ·have Xc:¬(0:Int)<(out.length:Int):=af;have dol:decide ((0:Int)<(out.length:Int))=false:=aG Xc
         go_wp2_with fail
         refine(bH BA).mono ?_;rintro r wq ⟨rfl,rfl⟩;by_cases hmx:(1099511627775:Int)<((Pl.number u).1:Int)
         ·have HN:Hid (Pl.decode (kd::t) rows=none):=by
           show _=_;rw[←rC.out,show Pl.eD kn rows u out=none by unfold Pl.eD;rw[if_neg hk0,if_neg af,if_neg af,if_pos af]]
          go_wp2_with fail
          go_ret2
          rw[HN.out];exact⟨⟨_,rfl⟩,hx⟩
         ·have Xb:((Pl.number u).1:Int)≤(1099511627775:Int):=af;have dmx:decide ((1099511627775:Int)<((Pl.number u).1:Int))=false:=aG hmx;by_cases hro:rows<out.length+1
          ·have wC:(rows:Int)<(out.length:Int)+1:=af;have HN:Hid (Pl.decode (kd::t) rows=none):=by
            show _=_;rw[←rC.out,show Pl.eD kn rows u out=none by unfold Pl.eD;rw[if_neg hk0,if_neg af,if_neg af,if_pos af]]
           go_wp2_with fail
           go_ret2
           rw[HN.out];exact⟨⟨_,rfl⟩,hx⟩
          ·have wC:¬(rows:Int)<(out.length:Int)+1:=af;have dro:decide ((rows:Int)<(out.length:Int)+1)=false:=aG wC;have HN:Hid (Pl.lM f kn rows (u.drop (Pl.number u).2) (out++List.replicate 1 (((Pl.number u).1:Int)))=Pl.decode (kd::t) rows):=by
            show _=_;rw[←rC.out,show Pl.eD kn rows u out=some (u.drop (Pl.number u).2,1,((Pl.number u).1:Int)) by unfold Pl.eD;rw[if_neg hk0,if_neg af,if_neg af,if_neg af]]
           have wD:Hid ((u.drop (Pl.number u).2).length<u.length):=Pl.o_ (kind:=kn) (rows:=rows) (s:=u) (out:=out) (q:=(u.drop (Pl.number u).2,1,((Pl.number u).1:Int))) (by unfold Pl.eD;rw[if_neg hk0,if_neg af,if_neg af,if_neg af]);clear rC
           go_wp2_with fail
           go_loopw [7,11] (fun ov i wq=>∃(j:Nat),i=.int .i64 j∧j≤1∧Own wq 1 ov (out.length+j) ((out++List.replicate j (((Pl.number u).1:Int))).map I)∧(∀g,ov.ownBlock=some g→w.heap.size≤g)∧Ext w wq) (fun _ i _=>1-(intOf i).toNat)
           case atStart=>exact⟨0,rfl,af,by simpa using ho,hgo,hx⟩
           case round=>
            obtain⟨j,rfl,hj,ho2,hg2,hx2⟩:=hrel;obtain⟨ao2,cap2,rfl,hcap2⟩:=ho2.shape;by_cases hjm:j<1
            ·have hji:(j:Int)<1:=af;have HT:Hid ((out++List.replicate (j+1) (((Pl.number u).1:Int))).map I=(out++List.replicate j (((Pl.number u).1:Int))).map I++[I (((Pl.number u).1:Int))]):=by
              show _=_;rw[List.replicate_succ',←aW,a_];rfl
             go_wp2_with (at_builtin;go_must (refine dI _ rfl _ _ 46 46 rfl 3 (.int .i64 0) 1 8 Tryz.underlying46 nZ rfl _ _ _ rfl (ho2.dV _) _ rfl 1 _ (dO _ _ aj _ _ Tryz.underlying46 _ [.int .i64 (((Pl.number u).1:Int))] rfl (by intro u hu;simp at hu;subst hu;rfl)) af af ?_);intro v3 w3 o3 k3 s3)
             have x3:Ext w w3:=(hx2.alloc _).then k3 (fun i hi e=>by have:=hg2 i e;omega)
             go_roundw
             case rel=>exact⟨j+1,by go_num,af,by rw[HT.out];exact o3,fun g e=>by
              rcases eT s3 e with e'|e'
              ·exact hg2 g e'
              ·have:=hx2.size;simp at e';omega,x3⟩
             case measure=>simp[intOf];omega
            ·obtain rfl:j=1:=af;have hji:¬((1:Nat):Int)<1:=af
             go_wp2_with fail
             go_roundw
             case rel=>exact⟨u.drop (Pl.number u).2,out++List.replicate 1 (((Pl.number u).1:Int)),f,rfl,by have:=wD.out;omega,by have:=wD.out;omega,by rw[aD,List.length_replicate];exact ho2,hg2,hx2,HN,by simp;omega,fun y hy=>by
              rcases aI.1 hy with hy|hy
              ·exact hv y hy
              ·have:=List.eq_of_mem_replicate hy;subst this;omega⟩
             case measure=>have:=wD.out;simp[FP,ByteArray.size]at this⊢;omega
       ·have amQ:¬(kn:Int)=2:=af
        go_wp2_with fail
        refine(bH BA).mono ?_;rintro r wq ⟨rfl,rfl⟩;by_cases hmx:(1099511627775:Int)<((Pl.number u).1:Int)
        ·have HN:Hid (Pl.decode (kd::t) rows=none):=by
          show _=_;rw[←rC.out,show Pl.eD kn rows u out=none by unfold Pl.eD;rw[if_neg hk0,if_neg af,if_neg af,if_pos af]]
         go_wp2_with fail
         go_ret2
         rw[HN.out];exact⟨⟨_,rfl⟩,hx⟩
        ·have Xb:((Pl.number u).1:Int)≤(1099511627775:Int):=af;have dmx:decide ((1099511627775:Int)<((Pl.number u).1:Int))=false:=aG hmx;by_cases hro:rows<out.length+1
         ·have wC:(rows:Int)<(out.length:Int)+1:=af;have HN:Hid (Pl.decode (kd::t) rows=none):=by
           show _=_;rw[←rC.out,show Pl.eD kn rows u out=none by unfold Pl.eD;rw[if_neg hk0,if_neg af,if_neg af,if_pos af]]
          go_wp2_with fail
          go_ret2
          rw[HN.out];exact⟨⟨_,rfl⟩,hx⟩
         ·have wC:¬(rows:Int)<(out.length:Int)+1:=af;have dro:decide ((rows:Int)<(out.length:Int)+1)=false:=aG wC;have HN:Hid (Pl.lM f kn rows (u.drop (Pl.number u).2) (out++List.replicate 1 (((Pl.number u).1:Int)))=Pl.decode (kd::t) rows):=by
           show _=_;rw[←rC.out,show Pl.eD kn rows u out=some (u.drop (Pl.number u).2,1,((Pl.number u).1:Int)) by unfold Pl.eD;rw[if_neg hk0,if_neg af,if_neg af,if_neg af]]
          have wD:Hid ((u.drop (Pl.number u).2).length<u.length):=Pl.o_ (kind:=kn) (rows:=rows) (s:=u) (out:=out) (q:=(u.drop (Pl.number u).2,1,((Pl.number u).1:Int))) (by unfold Pl.eD;rw[if_neg hk0,if_neg af,if_neg af,if_neg af]);clear rC
          go_wp2_with fail
          go_loopw [7,11] (fun ov i wq=>∃(j:Nat),i=.int .i64 j∧j≤1∧Own wq 1 ov (out.length+j) ((out++List.replicate j (((Pl.number u).1:Int))).map I)∧(∀g,ov.ownBlock=some g→w.heap.size≤g)∧Ext w wq) (fun _ i _=>1-(intOf i).toNat)
          case atStart=>exact⟨0,rfl,af,by simpa using ho,hgo,hx⟩
          case round=>
           obtain⟨j,rfl,hj,ho2,hg2,hx2⟩:=hrel;obtain⟨ao2,cap2,rfl,hcap2⟩:=ho2.shape;by_cases hjm:j<1
           ·have hji:(j:Int)<1:=af;have HT:Hid ((out++List.replicate (j+1) (((Pl.number u).1:Int))).map I=(out++List.replicate j (((Pl.number u).1:Int))).map I++[I (((Pl.number u).1:Int))]):=by
             show _=_;rw[List.replicate_succ',←aW,a_];rfl
            go_wp2_with (at_builtin;go_must (refine dI _ rfl _ _ 46 46 rfl 3 (.int .i64 0) 1 8 Tryz.underlying46 nZ rfl _ _ _ rfl (ho2.dV _) _ rfl 1 _ (dO _ _ aj _ _ Tryz.underlying46 _ [.int .i64 (((Pl.number u).1:Int))] rfl (by intro u hu;simp at hu;subst hu;rfl)) af af ?_);intro v3 w3 o3 k3 s3)
            have x3:Ext w w3:=(hx2.alloc _).then k3 (fun i hi e=>by have:=hg2 i e;omega)
            go_roundw
            case rel=>exact⟨j+1,by go_num,af,by rw[HT.out];exact o3,fun g e=>by
             rcases eT s3 e with e'|e'
             ·exact hg2 g e'
             ·have:=hx2.size;simp at e';omega,x3⟩
            case measure=>simp[intOf];omega
           ·obtain rfl:j=1:=af;have hji:¬((1:Nat):Int)<1:=af
            go_wp2_with fail
            go_roundw
            case rel=>exact⟨u.drop (Pl.number u).2,out++List.replicate 1 (((Pl.number u).1:Int)),f,rfl,by have:=wD.out;omega,by have:=wD.out;omega,by rw[aD,List.length_replicate];exact ho2,hg2,hx2,HN,by simp;omega,fun y hy=>by
             rcases aI.1 hy with hy|hy
             ·exact hv y hy
             ·have:=List.eq_of_mem_replicate hy;subst this;omega⟩
            case measure=>have:=wD.out;simp[FP,ByteArray.size]at this⊢;omega
end Go.Proofs.YthicgffppmbamaaGreat
