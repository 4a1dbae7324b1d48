import Derived.Test.YthicgffppmbamaaGreatP2
import Derived.Test.YthicgffppmbamaaGreatP3
set_option maxRecDepth 100000
set_option maxHeartbeats 16000000
namespace Go.Proofs.YthicgffppmbamaaGreat
open Go.RowKit
namespace Pl
def mV :Nat→Nat→Nat→List UInt8→Nat×Nat
 |0,_,_,_=>(0,0)
 |_+1,_,_,[]=>(0,0)
 |f+1,i,n,b::t=>
  if b.toNat<128 then(if b.toNat=0∧0<i then(0,0)else(n+b.toNat%128*128^i,i+1))
  else mV f (i+1) (n+b.toNat%128*128^i) t
def number (s:List UInt8):Nat×Nat:=mV 7 0 0 s
theorem yh :∀(f i n:Nat)(s:List UInt8)(bad:Bool),(mV f i n s).2≠0→ko (f+2) i n (s,bad)=((mV f i n s).1,true,(s.drop ((mV f i n s).2-i),bad))∧i<(mV f i n s).2∧(mV f i n s).2-i≤s.length
 |0,i,n,s,bad,h=>by simp[mV]at h
 |f+1,i,n,[],bad,h=>by simp[mV]at h
 |f+1,i,n,b::t,bad,h=>by
  unfold mV at h⊢;rw[show f+1+2=(f+2)+1 from af];unfold ko;simp only[show dX (b::t,bad)=(b.toNat,(t,bad))from rfl];by_cases hb:b.toNat<128
  ·rw[if_pos hb]at h⊢;rw[if_pos hb];by_cases h0:b.toNat=0∧0<i
   ·rw[if_pos h0]at h;simp at h
   ·rw[if_neg h0]at h⊢;simp only;refine⟨?_,af,aj⟩;rw[show i+1-i=1 from af,aH af];rfl
  ·rw[if_neg hb]at h⊢;rw[if_neg hb];obtain⟨h1,h2,h3⟩:=yh f (i+1) _ t bad h;rw[h1];refine⟨?_,af,by simp;omega⟩;rw[show(mV f (i+1) (n+b.toNat%128*128^i) t).2-i=(mV f (i+1) (n+b.toNat%128*128^i) t).2-(i+1)+1 from af];rfl
def WS (lim:Nat)(q:Nat×Bool×dS):Prop:=q.2.1=false∨q.2.2.2=true∨lim≤q.1
theorem yM (f i n:Nat)(bad:Bool):(ko (f+1) i n ([],bad)).2.2.2=true:=by
 unfold ko;have:dX (([]:List UInt8),bad)=(0,([],true)):=rfl;rw[this];rw[if_pos (by show 0<128;omega)]
theorem QB (i n:Nat)(s:List UInt8)(bad:Bool)(hi:0<i):WS (128^i) (ko 2 i n (s,bad)):=by
 cases s with
 |nil=>exact .inr (.inl (yM 1 i n bad))
 |cons b t=>
  unfold ko;simp only[show dX (b::t,bad)=(b.toNat,(t,bad))from rfl];by_cases hb:b.toNat<128
  ·rw[if_pos hb];by_cases h0:0<b.toNat
   ·refine .inr (.inr ?_);show 128^i≤n+b.toNat%128*128^i;rw[Nat.mod_eq_of_lt hb];have:1*128^i≤b.toNat*128^i:=Nat.mul_le_mul_right _ h0;omega
   ·refine .inl ?_;show decide _=false;exact aG af
  ·rw[if_neg hb];cases t with
   |nil=>exact .inr (.inl (yM 0 _ _ bad))
   |cons c u=>
    unfold ko;simp only[show dX (c::u,bad)=(c.toNat,(u,bad))from rfl];by_cases hc:c.toNat<128
    ·rw[if_pos hc];by_cases h0:0<c.toNat
     ·refine .inr (.inr ?_);show 128^i≤n+b.toNat%128*128^i+c.toNat%128*128^(i+1);rw[Nat.mod_eq_of_lt hc];have h1:1*128^(i+1)≤c.toNat*128^(i+1):=Nat.mul_le_mul_right _ h0;have h2:128^i≤128^(i+1):=Nat.pow_le_pow_right af af;omega
     ·refine .inl ?_;show decide _=false;exact aG af
    ·rw[if_neg hc];exact .inl rfl
theorem Lf :∀(f i n:Nat)(s:List UInt8)(bad:Bool),0<f+i→(mV f i n s).2=0→WS (128^(f+i)) (ko (f+2) i n (s,bad))
 |0,i,n,s,bad,hi,_=>by rw[Nat.zero_add]at hi⊢;exact QB i n s bad hi
 |f+1,i,n,[],bad,_,_=>.inr (.inl (yM (f+2) i n bad))
 |f+1,i,n,b::t,bad,hi,h=>by
  unfold mV at h;rw[show f+1+2=(f+2)+1 from af];unfold ko;simp only[show dX (b::t,bad)=(b.toNat,(t,bad))from rfl];by_cases hb:b.toNat<128
  ·rw[if_pos hb]at h⊢;by_cases h0:b.toNat=0∧0<i
   ·refine .inl ?_;show decide _=false;exact aG af
   ·rw[if_neg h0]at h;simp at h
  ·rw[if_neg hb]at h⊢;have:=Lf f (i+1) _ t bad af h;rw[show f+(i+1)=f+1+i from af]at this;exact this
def jX (lo hi:Nat)(s:List UInt8):Prop:=(number s).2≠0∧lo≤(number s).1∧(number s).1≤hi
instance(lo hi:Nat)(s:List UInt8):Decidable (jX lo hi s):=by unfold jX;infer_instance
theorem uL (s:List UInt8):(number s).2≤s.length:=by
 by_cases h:(number s).2=0
 ·omega
 ·have:=(yh 7 0 0 s false h).2.2;unfold number;omega
theorem I7 (s:List UInt8):(number s).1<562949953421312:=by
 have key:∀(f i n:Nat)(s:List UInt8),n<128^i→(mV f i n s).1<128^(f+i):=by
  intro f;induction f with
  |zero=>intro i n s h;simp only[mV];exact Nat.pow_pos af
  |succ f ih=>
   intro i n s h;have hp:0<128^(f+1+i):=Nat.pow_pos af;cases s with
   |nil=>exact hp
   |cons b t=>
    unfold mV;have hm:n+b.toNat%128*128^i<128^(i+1):=by
     have h1:b.toNat%128*128^i≤127*128^i:=Nat.mul_le_mul_right _ af;rw[Nat.pow_succ];omega
    split
    ·split
     ·exact hp
     ·refine aY hm (Nat.pow_le_pow_right af af)
    ·have:=ih (i+1) _ t hm;rw[show f+(i+1)=f+1+i from af]at this;exact this
 have:=key 7 0 0 s aj;have e:(128:Nat)^(7+0)=562949953421312:=by decide+kernel
 rw[e]at this;exact this
theorem o7 {lo hi:Nat}{s:List UInt8}(h:jX lo hi s)(bad:Bool):di lo hi (s,bad)=((number s).1,(s.drop (number s).2,bad)):=by
 obtain⟨h0,h1,h2⟩:=h;have h3:jP (s,bad)=((number s).1,true,(s.drop (number s).2,bad)):=(yh 7 0 0 s bad h0).1;unfold di;rw[h3,if_neg (by simp;omega)]
theorem l7 {lo hi:Nat}{s:List UInt8}(h:¬jX lo hi s)(hh:hi<562949953421312)(bad:Bool):(di lo hi (s,bad)).2.2=true:=by
 unfold di;by_cases h0:(number s).2=0
 ·have h1:WS (128^7) (jP (s,bad)):=Lf 7 0 0 s bad af h0;have e:(128:Nat)^7=562949953421312:=by decide+kernel
  rw[e]at h1;split
  ·rfl
  ·rename_i hc;rcases h1 with e|e|e
   ·exact absurd (.inl e) hc
   ·exact e
   ·omega
 ·have h3:jP (s,bad)=((number s).1,true,(s.drop (number s).2,bad)):=(yh 7 0 0 s bad h0).1;rw[h3,if_pos];unfold jX at h;simp only;omega
theorem yN {r:dS}(h:r.2=true):(dX r).2.2=true:=by
 obtain⟨s,b⟩:=r;cases s with
 |nil=>rfl
 |cons c t=>exact h
theorem Dm :∀(f i n:Nat)(r:dS),r.2=true→(ko f i n r).2.2.2=true
 |0,_,_,_,h=>h
 |f+1,i,n,r,h=>by
  unfold ko;split
  ·exact yN h
  ·exact Dm f _ _ _ (yN h)
theorem je (lo hi:Nat){r:dS}(h:r.2=true):(di lo hi r).2.2=true:=by
 unfold di;split
 ·rfl
 ·exact Dm 9 0 0 r h
theorem Dp (n:Nat){r:dS}(h:r.2=true):(mh n r).2.2=true:=by
 unfold mh;split
 ·rfl
 ·exact h
theorem jO {s:Nat×dS}(h:s.2.2=true):(oP s).2.2=true:=yN h
theorem rV {r:dS}(h:r.2=true):(qm r).2.2=true:=jO (jO (jO (jO h)))
theorem vD {r:dS}(h:r.2=true):iN r=false:=by unfold iN;rw[h];rfl
theorem zU {α:Type}(f:α→α):∀(k:Nat)(a:α),iter f (k+1) a=iter f k (f a)
 |0,_=>rfl
 |k+1,a=>by
  show f (iter f (k+1) a)=f (iter f k (f a));rw[zU f k a]
theorem kV {α:Type}(f:α→α)(p:α→Prop)(h:∀a,p a→p (f a)):∀(k:Nat)(a:α),p a→p (iter f k a)
 |0,_,ha=>ha
 |k+1,a,ha=>h _ (kV f p h k a ha)
def eD (kind rows:Nat)(s:List UInt8)(out:List Int):Option (List UInt8×Nat×Int):=
 if(number s).2=0 then none
 else if kind=1 then
  if(number (s.drop (number s).2)).2=0∨(number s).1<1∨rows<(number s).1∨1099511627775<(number (s.drop (number s).2)).1∨rows<out.length+(number s).1 then none
  else some ((s.drop (number s).2).drop (number (s.drop (number s).2)).2,(number s).1,((number (s.drop (number s).2)).1:Int))
 else if kind=2∧0<out.length then
  if 1099511627775<((number s).1:Int)+out.getLastD 0∨rows<out.length+1 then none
  else some (s.drop (number s).2,1,((number s).1:Int)+out.getLastD 0)
 else if 1099511627775<(number s).1∨rows<out.length+1 then none
  else some (s.drop (number s).2,1,((number s).1:Int))
def lM :Nat→Nat→Nat→List UInt8→List Int→Option (List Int)
 |0,_,_,_,_=>none
 |f+1,kind,rows,s,out=>
  if s.length=0 then(if out.length=rows then some out else none)
  else match eD kind rows s out with
   |none=>none
   |some q=>lM f kind rows q.1 (out++List.replicate q.2.1 q.2.2)
def decode (s:List UInt8)(rows:Nat):Option (List Int):=match s with
 |[]=>none
 |k::t=>if 2<k.toNat then none else lM (t.length+1) k.toNat rows t []
theorem o_ {kind rows:Nat}{s:List UInt8}{out:List Int}{q:List UInt8×Nat×Int}(h:eD kind rows s out=some q):q.1.length<s.length:=by
 have h1:=uL s;unfold eD at h;split at h
 ·cases h
 ·split at h
  ·split at h
   ·cases h
   ·cases h;have h2:=uL (s.drop (number s).2);simp only[bq]at h2⊢;omega
  ·split at h
   ·split at h
    ·cases h
    ·cases h;simp only[bq];omega
   ·split at h
    ·cases h
    ·cases h;simp only[bq];omega
theorem qO {α:Type}{r:dS}{a:α}(h:r.2=true):(if iN r=true then some a else none)=none:=by rw[vD h];rfl
theorem zV {α:Type}(s:List UInt8)(a:α):(if iN (s,false)=true then some a else none)=if s.length=0 then some a else none:=by
 by_cases h:s.length=0
 ·rw[if_pos h,if_pos (show iN (s,false)=true by show(!false&&decide (s.length=0))=true;simpa using h)]
 ·rw[if_neg h,if_neg (by show¬(!false&&decide (s.length=0))=true;simpa using h)]
theorem Tk (rows:Nat):∀(left f:Nat)(s:List UInt8)(out:List Int),s.length<f→out.length+left=rows→
 lM f 0 rows s out=(if iN (iter fG left (out,(s,false))).2=true then some (iter fG left (out,(s,false))).1 else none):=by
 intro left;induction left with
 |zero=>
  intro f s out hf hl;obtain⟨f,rfl⟩:∃g,f=g+1:=⟨f-1,af⟩
  show lM (f+1) 0 rows s out=if iN (s,false)=true then some out else none;rw[zV];unfold lM;by_cases hs:s.length=0
  ·rw[if_pos hs,if_pos af,if_pos hs]
  ·rw[if_neg hs,if_neg hs];have:eD 0 rows s out=none:=by
    unfold eD;split
    ·rfl
    ·rw[if_neg af,if_neg af,if_pos af]
   rw[this]
 |succ left ih=>
  intro f s out hf hl;obtain⟨f,rfl⟩:∃g,f=g+1:=⟨f-1,af⟩
  rw[zU];have hkeep:∀a:List Int×dS,a.2.2=true→(fG a).2.2=true:=fun a h=>je _ _ h
  unfold lM;by_cases hs:s.length=0
  ·rw[if_pos hs,if_neg af];have hs':s=[]:=aT hs;subst hs';have hb:(iter fG left (fG (out,(([]:List UInt8),false)))).2.2=true:=kV fG (fun a=>a.2.2=true) hkeep left _ (l7 (by unfold jX;exact fun h=>h.1 rfl) af false);rw[qO hb]
  ·rw[if_neg hs];by_cases hn:jX 0 1099511627775 s
   ·have e1:fG (out,(s,false))=(out++[((number s).1:Int)],(s.drop (number s).2,false)):=by
     unfold fG;simp only[o7 hn false]
    have e2:eD 0 rows s out=some (s.drop (number s).2,1,((number s).1:Int)):=by
     unfold eD;rw[if_neg hn.1,if_neg af,if_neg af,if_neg (by have:=hn.2.2;omega)]
    rw[e1,e2];simp only[List.replicate_one];have:=hn.1;exact ih f _ _ (by have:=o_ e2;simp only at this;omega) (by simp;omega)
   ·have hb:(iter fG left (fG (out,(s,false)))).2.2=true:=kV fG (fun a=>a.2.2=true) hkeep left _ (l7 hn af false);rw[qO hb];have e2:eD 0 rows s out=none:=by
     unfold eD;by_cases h0:(number s).2=0
     ·rw[if_pos h0]
     ·rw[if_neg h0,if_neg af,if_neg af,if_pos (by unfold jX at hn;omega)]
    rw[e2]
theorem QC (rows:Nat):∀(left f:Nat)(s:List UInt8)(out:List Int)(last:Nat),s.length<f→out.length+left=rows→(last:Int)=out.getLastD 0→last≤1099511627775→
 lM f 2 rows s out=(if iN (iter dL left (out,last,(s,false))).2.2=true then some (iter dL left (out,last,(s,false))).1 else none):=by
 intro left;induction left with
 |zero=>
  intro f s out last hf hl hla hlm;obtain⟨f,rfl⟩:∃g,f=g+1:=⟨f-1,af⟩
  show lM (f+1) 2 rows s out=if iN (s,false)=true then some out else none;rw[zV];unfold lM;by_cases hs:s.length=0
  ·rw[if_pos hs,if_pos af,if_pos hs]
  ·rw[if_neg hs,if_neg hs];have:eD 2 rows s out=none:=by
    unfold eD;split
    ·rfl
    ·rw[if_neg af];split
     ·rw[if_pos af]
     ·rw[if_pos af]
   rw[this]
 |succ left ih=>
  intro f s out last hf hl hla hlm;obtain⟨f,rfl⟩:∃g,f=g+1:=⟨f-1,af⟩
  rw[zU];have hkeep:∀a:List Int×Nat×dS,a.2.2.2=true→(dL a).2.2.2=true:=fun a h=>je _ _ h
  unfold lM;by_cases hs:s.length=0
  ·rw[if_pos hs,if_neg af];have hs':s=[]:=aT hs;subst hs';have hb:(iter dL left (dL (out,last,(([]:List UInt8),false)))).2.2.2=true:=kV dL (fun a=>a.2.2.2=true) hkeep left _ (l7 (by unfold jX;exact fun h=>h.1 rfl) af false);rw[qO hb]
  ·rw[if_neg hs];by_cases hn:jX 0 (1099511627775-last) s
   ·have e1:dL (out,last,(s,false))=(out++[((last+(number s).1:Nat):Int)],last+(number s).1,(s.drop (number s).2,false)):=by
     unfold dL;simp only[o7 hn false]
    have hh:=hn.2.2;have e2:eD 2 rows s out=some (s.drop (number s).2,1,((last+(number s).1:Nat):Int)):=by
     unfold eD;rw[if_neg hn.1,if_neg af];by_cases ho:0<out.length
     ·rw[if_pos ⟨rfl,ho⟩,←hla,if_neg af]
      congr 3
      omega
     ·have:out=[]:=aT af;subst this;have h0:last=0:=by simpa using hla
      subst h0;rw[if_neg aj,if_neg af];simp
    rw[e1,e2];simp only[List.replicate_one];exact ih f _ _ _ (by have:=o_ e2;simp only at this;omega) (by simp;omega) aj af
   ·have hb:(iter dL left (dL (out,last,(s,false)))).2.2.2=true:=kV dL (fun a=>a.2.2.2=true) hkeep left _ (l7 hn af false);rw[qO hb];have e2:eD 2 rows s out=none:=by
     unfold eD;unfold jX at hn;by_cases h0:(number s).2=0
     ·rw[if_pos h0]
     ·rw[if_neg h0,if_neg af];by_cases ho:0<out.length
      ·rw[if_pos ⟨rfl,ho⟩,←hla,if_pos af]
      ·have:out=[]:=aT af;subst this;have h0:last=0:=by simpa using hla
       subst h0;rw[if_neg aj,if_pos af]
    rw[e2]
theorem yO :∀(f left:Nat)(s:List Int×dS),s.2.2=true→(jA f left s).2.2=true
 |0,_,_,h=>h
 |f+1,left,s,h=>by
  unfold jA;split
  ·exact h
  ·exact yO f _ _ (je _ _ (je _ _ h))
theorem WT (rows:Nat)(hr:rows≤1000000):∀(g left f:Nat)(s:List UInt8)(out:List Int),left≤g→s.length<f→out.length+left=rows→
 lM f 1 rows s out=(if iN (jA g left (out,(s,false))).2=true then some (jA g left (out,(s,false))).1 else none):=by
 intro g;induction g with
 |zero=>
  intro left f s out hg hf hl;obtain⟨f,rfl⟩:∃g,f=g+1:=⟨f-1,af⟩
  show lM (f+1) 1 rows s out=if iN (s,false)=true then some out else none;rw[zV];unfold lM;by_cases hs:s.length=0
  ·rw[if_pos hs,if_pos af,if_pos hs]
  ·rw[if_neg hs,if_neg hs];have:eD 1 rows s out=none:=by
    unfold eD;split
    ·rfl
    ·rw[if_pos rfl,if_pos af]
   rw[this]
 |succ g ih=>
  intro left f s out hg hf hl;obtain⟨f,rfl⟩:∃g,f=g+1:=⟨f-1,af⟩
  unfold lM jA;by_cases hl0:left=0
  ·rw[if_pos hl0];simp only;rw[zV];by_cases hs:s.length=0
   ·rw[if_pos hs,if_pos af,if_pos hs]
   ·rw[if_neg hs,if_neg hs];have:eD 1 rows s out=none:=by
     unfold eD;split
     ·rfl
     ·rw[if_pos rfl,if_pos af]
    rw[this]
  ·rw[if_neg hl0];simp only;by_cases hn:jX 1 left s
   ·rw[o7 hn false];simp only;by_cases hv:jX 0 1099511627775 (s.drop (number s).2)
    ·rw[o7 hv false];simp only;have hs:¬s.length=0:=fun e=>by
      have:=aT e;subst this;exact hn.1 rfl
     rw[if_neg hs];have h1:=hn.2;have h2:=hv.2;have e2:eD 1 rows s out=some ((s.drop (number s).2).drop (number (s.drop (number s).2)).2,(number s).1,((number (s.drop (number s).2)).1:Int)):=by
      unfold eD;rw[if_neg hn.1,if_pos rfl,if_neg];have:=hv.1;omega
     rw[e2];simp only;exact ih _ f _ _ af (by have:=o_ e2;simp only at this;omega) (by simp;omega)
    ·have hb:=yO g (left-(number s).1) (out++List.replicate (number s).1 ((di 0 1099511627775 (s.drop (number s).2,false)).1:Int),(di 0 1099511627775 (s.drop (number s).2,false)).2) (l7 hv af false);rw[qO hb];by_cases hs:s.length=0
     ·rw[if_pos hs,if_neg af]
     ·rw[if_neg hs];have e2:eD 1 rows s out=none:=by
       unfold eD;rw[if_neg hn.1,if_pos rfl,if_pos];unfold jX at hv;omega
      rw[e2]
   ·have hb:=yO g (left-(di 1 left (s,false)).1) (out++List.replicate (di 1 left (s,false)).1 ((di 0 1099511627775 (di 1 left (s,false)).2).1:Int),(di 0 1099511627775 (di 1 left (s,false)).2).2) (je _ _ (l7 hn af false));rw[qO hb];by_cases hs:s.length=0
    ·rw[if_pos hs,if_neg af]
    ·rw[if_neg hs];have e2:eD 1 rows s out=none:=by
      unfold eD;by_cases h0:(number s).2=0
      ·rw[if_pos h0]
      ·rw[if_neg h0,if_pos rfl,if_pos];unfold jX at hn;omega
     rw[e2]
theorem yP (s:List UInt8)(rows:Nat)(hr:rows≤1000000):decode s rows=gD s rows:=by
 unfold gD;cases s with
 |nil=>
  simp only[decode];have e:dX (([]:List UInt8),false)=(0,([],true)):=rfl;rw[e];simp only;rw[if_neg af,if_pos trivial];have hb:(iter fG rows (([]:List Int),(([]:List UInt8),true))).2.2=true:=kV fG (fun a=>a.2.2=true) (fun a h=>je _ _ h) rows _ rfl;rw[qO hb]
 |cons k t=>
  simp only[decode];have e:dX (k::t,false)=(k.toNat,(t,false)):=rfl;rw[e];simp only;by_cases h3:3≤k.toNat
  ·rw[if_pos h3,if_pos af]
  ·rw[if_neg h3,if_neg af];by_cases h0:k.toNat=0
   ·rw[if_pos h0,h0];exact Tk rows rows (t.length+1) t [] af aj
   ·rw[if_neg h0];by_cases h1:k.toNat=1
    ·rw[if_pos h1,h1];exact WT rows hr rows rows (t.length+1) t [] (aK _) af aj
    ·rw[if_neg h1,show k.toNat=2 from af];exact QC rows rows (t.length+1) t [] 0 af aj aj af
end Pl
namespace Pl
abbrev iU :=List UInt8×Bool
def dB (lo hi:Nat)(c:iU):Nat×iU:=if c.2=true∨¬jX lo hi c.1 then(lo,(c.1,true))else((number c.1).1,(c.1.drop (number c.1).2,c.2))
def gJ (n:Nat)(c:iU):List UInt8×iU:=if c.2=true∨c.1.length<n then([],(c.1,true))else(c.1.take n,(c.1.drop n,c.2))
structure RP where
 place:Nat
 length:Nat
 sum:List UInt8
 deriving Inhabited
def ow (s:List (List UInt8)×iU):List (List UInt8)×iU:=
 let k:=dB 1 8 s.2;let x:=gJ k.1 k.2
 (s.1++[x.1],(x.2.1,x.2.2||decide (x.1∈s.1)))
def qC (foot:Nat)(s:List RP×iU):List RP×iU:=
 let p:=dB 4 foot s.2;let l:=dB 1 4000 p.2;let u:=gJ 4 l.2
 (s.1++[⟨p.1,l.1,u.1⟩],(u.2.1,u.2.2||decide (foot<p.1+l.1)))
def gd {α:Type}(bad:α→Bool)(f:α→α)(a:α):α:=if bad a=true then a else f a
theorem Fy {α:Type}{bad:α→Bool}{f:α→α}{a:α}(h:bad a=true):gd bad f a=a:=by unfold gd;rw[if_pos h]
theorem zk {α:Type}{bad:α→Bool}{f:α→α}{a:α}(h:bad a=false):gd bad f a=f a:=by unfold gd;rw[if_neg (by rw[h];simp)]
def rz (foot n:Nat)(c:iU):List RP×iU:=iter (gd (fun s=>s.2.2) (qC foot)) n ([],c)
def lZ (n foot:Nat)(s:(List Nat×List (List RP))×iU):(List Nat×List (List RP))×iU:=
 let r:=dB 1 20 s.2;let ps:=rz foot n r.2
 ((s.1.1++[r.1],s.1.2++[ps.1]),ps.2)
def iL (s:List UInt8):List (List UInt8)×iU:=let n:=dB 1 4 (s,false);iter (gd (fun s=>s.2.2) ow) n.1 ([],n.2)
def dJ (s:List UInt8)(foot:Nat):(List Nat×List (List RP))×iU:=
 let g:=dB 0 6 (iL s).2
 iter (gd (fun s=>s.2.2) (lZ (dB 1 4 (s,false)).1 foot)) g.1 (([],[]),g.2)
def zl (s:List UInt8)(foot:Nat):Bool:=!(dJ s foot).2.2&&decide ((dJ s foot).2.1.length=0)
theorem tL {α:Type}(bad:α→Bool)(f:α→α)(k:Nat)(a:α)(h:bad (iter (gd bad f) k a)=true):∀n,k≤n→iter (gd bad f) n a=iter (gd bad f) k a
 |0,hn=>by rw[show k=0 from af]
 |n+1,hn=>by
  by_cases e:k=n+1
  ·rw[e]
  ·have:=tL bad f k a h n af;show gd bad f (iter (gd bad f) n a)=_;rw[this];exact Fy h
theorem EA (lo hi:Nat){c:iU}(h:c.2=true):dB lo hi c=(lo,(c.1,true)):=by unfold dB;rw[if_pos (.inl h)]
theorem vE (n:Nat){c:iU}(h:c.2=true):gJ n c=([],(c.1,true)):=by unfold gJ;rw[if_pos (.inl h)]
theorem v_ (lo hi:Nat)(hh:hi<562949953421312)(s:List UInt8):((dB lo hi (s,false)).2.2=true∧(di lo hi (s,false)).2.2=true∧(dB lo hi (s,false)).1=lo)∨∃v t,dB lo hi (s,false)=(v,(t,false))∧di lo hi (s,false)=(v,(t,false))∧lo≤v∧v≤hi:=by
 by_cases h:jX lo hi s
 ·right;refine⟨(number s).1,s.drop (number s).2,?_,o7 h false,h.2.1,h.2.2⟩;unfold dB;rw[if_neg (by simpa using h)]
 ·left;refine⟨?_,l7 h hh false,?_⟩<;>unfold dB<;>rw[if_pos (.inr h)]
theorem QD (n:Nat)(s:List UInt8):((gJ n (s,false)).2.2=true∧(mh n (s,false)).2.2=true)∨(n≤s.length∧gJ n (s,false)=(s.take n,(s.drop n,false))∧mh n (s,false)=(s.take n,(s.drop n,false))):=by
 by_cases h:s.length<n
 ·left;refine⟨?_,?_⟩
  ·unfold gJ;rw[if_pos (.inr h)]
  ·unfold mh;rw[if_pos h]
 ·right;refine⟨af,?_,?_⟩
  ·unfold gJ;rw[if_neg (by simpa using h)]
  ·unfold mh;rw[if_neg h]
def Lg (l:List UInt8):Nat:=(((l.getD 0 0).toNat*256+(l.getD 1 0).toNat)*256+(l.getD 2 0).toNat)*256+(l.getD 3 0).toNat
theorem QE (l:List UInt8)(h:l.length=4):dz (Lg l)=l:=by
 match l,h with
 |[a,b,c,d],_=>
  have ha:=a.toNat_lt;have hb:=b.toNat_lt;have hc:=c.toNat_lt;have hd:=d.toNat_lt;unfold dz Lg;simp only[List.getD_cons_zero,List.getD_cons_succ];generalize ea:a.toNat=x at*;generalize eb:b.toNat=y at*;generalize ec:c.toNat=z at*;generalize ed:d.toNat=u at*;have e1:(((x*256+y)*256+z)*256+u)/16777216=x:=af;have e2:(((x*256+y)*256+z)*256+u)/65536%256=y:=af;have e3:(((x*256+y)*256+z)*256+u)/256%256=z:=af;have e4:(((x*256+y)*256+z)*256+u)%256=u:=af;rw[e1,e2,e3,e4,←ea,←eb,←ec,←ed];simp
theorem WU (s:List UInt8):(s.length<4∧(qm (s,false)).2.2=true)∨(4≤s.length∧qm (s,false)=(Lg (s.take 4),(s.drop 4,false))):=by
 match s with
 |[]=>left;exact⟨aj,jO (jO (jO rfl))⟩
 |[a]=>left;exact⟨aj,jO (jO rfl)⟩
 |[a,b]=>left;exact⟨aj,jO rfl⟩
 |[a,b,c]=>left;exact⟨aj,rfl⟩
 |a::b::c::d::t=>
  right;refine⟨aj,?_⟩;have ha:=a.toNat_lt;have hb:=b.toNat_lt;have hc:=c.toNat_lt;have hd:=d.toNat_lt;have e:qm (a::b::c::d::t,false)=((((0*256%4294967296+a.toNat)*256%4294967296+b.toNat)*256%4294967296+c.toNat)*256%4294967296+d.toNat,(t,false)):=rfl;rw[e];unfold Lg;simp only[List.take_succ_cons,List.take_zero,List.getD_cons_zero,List.getD_cons_succ,List.drop_succ_cons,List.drop_zero];refine Prod.ext ?_ rfl;simp only;omega
def kI (x:RP):ku:=⟨x.place,x.length,Lg x.sum⟩
theorem Tm (foot:Nat)(h4:1≤foot)(hf:foot≤4000)(L:List RP)(s:List UInt8):
 ((qC foot (L,(s,false))).2.2=true∧(gq foot (L.map kI,(s,false))).2.2=true)∨
 ∃x t,qC foot (L,(s,false))=(L++[x],(t,false))∧gq foot (L.map kI,(s,false))=((L++[x]).map kI,(t,false))∧x.sum.length=4:=by
 have aa8:∀c:iU,c.2=true→(gJ 4 (dB 1 4000 c).2).2.2=true:=fun c h=>by rw[EA 1 4000 h,vE 4 rfl]
 unfold qC gq;simp only;by_cases h1:jX 4 foot s
 ·have e1:dB 4 foot (s,false)=((number s).1,(s.drop (number s).2,false)):=by unfold dB;rw[if_neg (by simpa using h1)]
  rw[e1];simp only;obtain⟨v,hv⟩:∃v,(number s).1=v:=⟨_,rfl⟩
  obtain⟨t,ht⟩:∃t,s.drop (number s).2=t:=⟨_,rfl⟩
  have Tn:=h1.2;rw[hv]at Tn;rw[hv,ht];by_cases hvf:v=foot
  ·
   left;have hb:(di 4 (foot-1) (s,false)).2.2=true:=l7 (fun h=>by have:=h.2.2;omega) af false;refine⟨?_,rV (je _ _ hb)⟩;rcases v_ 1 4000 af t with⟨a,-,-⟩|⟨l,t2,a,-,a1,-⟩
   ·rw[vE 4 a];rfl
   ·rw[a];simp only;rw[aH af,Bool.or_true]
  ·have e2:di 4 (foot-1) (s,false)=(v,(t,false)):=by rw[←hv,←ht];exact o7 ⟨h1.1,h1.2.1,af⟩ false
   rw[e2];simp only;by_cases h2:jX 1 4000 t
   ·have e3:dB 1 4000 (t,false)=((number t).1,(t.drop (number t).2,false)):=by unfold dB;rw[if_neg (by simpa using h2)]
    rw[e3];simp only;by_cases h3:foot<v+(number t).1
    ·left;refine⟨by rw[aH h3,Bool.or_true],rV (l7 (fun h=>by have:=h.2.2;omega) af false)⟩
    ·have e4:di 1 (foot-v) (t,false)=((number t).1,(t.drop (number t).2,false)):=o7 ⟨h2.1,h2.2.1,af⟩ false;rw[e4];simp only;rcases WU (t.drop (number t).2)with⟨a,b⟩|⟨a,b⟩
     ·left;refine⟨?_,b⟩;unfold gJ;rw[if_pos (.inr a)];rfl
     ·right;refine⟨⟨v,(number t).1,(t.drop (number t).2).take 4⟩,(t.drop (number t).2).drop 4,?_,?_,by simp only[aU];omega⟩
      ·unfold gJ;rw[if_neg (by simp only[Bool.false_eq_true,false_or];omega)];simp only;rw[aG h3,Bool.or_false]
      ·rw[b];simp[kI]
   ·left;have e3:dB 1 4000 (t,false)=(1,(t,true)):=by unfold dB;rw[if_pos (.inr h2)]
    rw[e3,vE 4 rfl];exact⟨rfl,rV (l7 (fun h=>h2 ⟨h.1,h.2.1,by have:=h.2.2;omega⟩) af false)⟩
 ·left;have e1:dB 4 foot (s,false)=(4,(s,true)):=by unfold dB;rw[if_pos (.inr h1)]
  rw[e1];refine⟨by rw[aa8 _ rfl];rfl,rV (je _ _ (l7 (fun h=>h1 ⟨h.1,h.2.1,by have:=h.2.2;omega⟩) af false))⟩
theorem wh (foot:Nat)(a:List ku×dS)(h:a.2.2=true):(gq foot a).2.2=true:=rV (je _ _ (je _ _ h))
theorem Fz (foot:Nat)(h4:1≤foot)(hf:foot≤4000)(s:List UInt8):∀n,
 ((rz foot n (s,false)).2.2=true∧(iter (gq foot) n ([],(s,false))).2.2=true)∨
 ∃L t,rz foot n (s,false)=(L,(t,false))∧iter (gq foot) n ([],(s,false))=(L.map kI,(t,false))∧L.length=n∧∀x∈L,x.sum.length=4
 |0=>.inr ⟨[],s,rfl,rfl,rfl,fun _ h=>by cases h⟩
 |n+1=>by
  have es:rz foot (n+1) (s,false)=gd (fun s=>s.2.2) (qC foot) (rz foot n (s,false)):=rfl;have ep:iter (gq foot) (n+1) ([],(s,false))=gq foot (iter (gq foot) n ([],(s,false))):=rfl;rw[es,ep];rcases Fz foot h4 hf s n with⟨a,b⟩|⟨L,t,a,b,c,d⟩
  ·left;refine⟨?_,wh foot _ b⟩;rw[Fy (by exact a)];exact a
  ·rw[a,b];rw[zk rfl];rcases Tm foot h4 hf L t with⟨x,y⟩|⟨x,t',h1,h2,h3⟩
   ·exact .inl ⟨x,y⟩
   ·refine .inr ⟨L++[x],t',h1,h2,by simp[c],fun y hy=>?_⟩;rcases aI.1 hy with hy|hy
    ·exact d y hy
    ·obtain rfl:=aZ.1 hy;exact h3
def lU (rows:List Nat)(pages:List (List RP)):List eu:=List.zipWith (fun n l=>⟨n,l.map kI⟩) rows pages
theorem AA (n foot:Nat)(a:List eu×dS)(h:a.2.2=true):(fT n foot a).2.2=true:=by
 unfold fT ou;exact kV (gq foot) (fun a=>a.2.2=true) (wh foot) n _ (je _ _ h)
theorem Dq (n foot:Nat)(h4:1≤foot)(hf:foot≤4000)(s:List UInt8):∀k,
 ((iter (gd (fun s=>s.2.2) (lZ n foot)) k (([],[]),(s,false))).2.2=true∧(iter (fT n foot) k ([],(s,false))).2.2=true)∨
 ∃R L t,iter (gd (fun s=>s.2.2) (lZ n foot)) k (([],[]),(s,false))=((R,L),(t,false))∧iter (fT n foot) k ([],(s,false))=(lU R L,(t,false))∧R.length=k∧L.length=k∧(∀x∈R,1≤x∧x≤20)∧∀l∈L,l.length=n∧∀x∈l,x.sum.length=4
 |0=>.inr ⟨[],[],s,rfl,rfl,rfl,rfl,(fun _ h=>by cases h),(fun _ h=>by cases h)⟩
 |k+1=>by
  have es:iter (gd (fun s=>s.2.2) (lZ n foot)) (k+1) (([],[]),(s,false))=gd (fun s=>s.2.2) (lZ n foot) (iter (gd (fun s=>s.2.2) (lZ n foot)) k (([],[]),(s,false))):=rfl;have ep:iter (fT n foot) (k+1) ([],(s,false))=fT n foot (iter (fT n foot) k ([],(s,false))):=rfl;rw[es,ep];rcases Dq n foot h4 hf s k with⟨a,b⟩|⟨R,L,t,a,b,c,d,e1,e2⟩
  ·left;refine⟨?_,AA n foot _ b⟩;rw[Fy (by exact a)];exact a
  ·rw[a,b];rw[zk rfl];unfold lZ fT ou;simp only;rcases v_ 1 20 af t with⟨x,y,z⟩|⟨v,t',x,y,hv1,hv2⟩
   ·left;refine⟨?_,kV (gq foot) (fun a=>a.2.2=true) (wh foot) n _ y⟩;have:∀m,(rz foot m (dB 1 20 (t,false)).2).2.2=true:=fun m=>by
     have h0:=tL (fun s:List RP×iU=>s.2.2) (qC foot) 0 ([],(dB 1 20 (t,false)).2) x m af;unfold rz;rw[h0];exact x
    exact this n
   ·rw[x,y];simp only;rcases Fz foot h4 hf t' n with⟨p,q⟩|⟨P,u,p,q,r1,r2⟩
    ·exact .inl ⟨p,q⟩
    ·rw[p,q];refine .inr ⟨R++[v],L++[P],u,rfl,?_,by simp[c],by simp[d],?_,?_⟩
     ·simp only;unfold lU;rw[List.zipWith_append af];rfl
     ·intro y hy;rcases aI.1 hy with hy|hy
      ·exact e1 y hy
      ·obtain rfl:=aZ.1 hy;exact⟨hv1,hv2⟩
     ·intro y hy;rcases aI.1 hy with hy|hy
      ·exact e2 y hy
      ·obtain rfl:=aZ.1 hy;exact⟨r1,r2⟩
theorem Dr (a:List (List UInt8)×dS)(h:a.2.2=true):(iK a).2.2=true:=Dp _ (je _ _ h)
theorem Tp (a:List (List UInt8)×dS)(h:¬a.1.Nodup):¬(iK a).1.Nodup:=fun hn=>h (hn.sublist (List.sublist_append_left _ _))
theorem FC (s:List UInt8):∀k,
 ((iter (gd (fun s=>s.2.2) ow) k ([],(s,false))).2.2=true∧((iter iK k ([],(s,false))).2.2=true∨¬(iter iK k ([],(s,false))).1.Nodup))∨
 ∃L t,iter (gd (fun s=>s.2.2) ow) k ([],(s,false))=(L,(t,false))∧iter iK k ([],(s,false))=(L,(t,false))∧L.length=k∧L.Nodup∧∀x∈L,y_ x=true
 |0=>.inr ⟨[],s,rfl,rfl,rfl,List.nodup_nil,fun _ h=>by cases h⟩
 |k+1=>by
  have es:iter (gd (fun s=>s.2.2) ow) (k+1) ([],(s,false))=gd (fun s=>s.2.2) ow (iter (gd (fun s=>s.2.2) ow) k ([],(s,false))):=rfl;have ep:iter iK (k+1) ([],(s,false))=iK (iter iK k ([],(s,false))):=rfl;rw[es,ep];rcases FC s k with⟨a,b⟩|⟨L,t,a,b,c,d,e⟩
  ·left;refine⟨?_,b.imp (Dr _) (Tp _)⟩;rw[Fy (by exact a)];exact a
  ·rw[a,b];rw[zk rfl];unfold ow iK;simp only;rcases v_ 1 8 af t with⟨x,y,z⟩|⟨v,t',x,y,hv1,hv2⟩
   ·left;rw[vE _ x];exact⟨rfl,.inl (Dp _ y)⟩
   ·rw[x,y];simp only;rcases QD v t' with⟨p,q⟩|⟨p0,p,q⟩
    ·left;exact⟨by rw[p];rfl,.inl q⟩
    ·rw[p,q];simp only;by_cases hm:t'.take v∈L
     ·left;refine⟨by rw[aH hm];rfl,.inr fun hn=>?_⟩;rw[List.nodup_append]at hn;exact hn.2.2 _ hm _ aj rfl
     ·right;refine⟨L++[t'.take v],t'.drop v,by rw[aG hm];rfl,rfl,by simp[c],?_,fun y hy=>?_⟩
      ·rw[List.nodup_append];exact⟨d,aj,fun y hy z hz e=>by simp at hz;subst hz;subst e;exact hm hy⟩
      ·rcases aI.1 hy with hy|hy
       ·exact e y hy
       ·obtain rfl:=aZ.1 hy;rw[nQ,aU];omega
theorem FD (s:List UInt8)(foot:Nat)(h4:1≤foot)(hf:foot≤4000):
 (zl s foot=false∧gU s foot=none)∨
 (zl s foot=true∧gU s foot=some ⟨(iL s).1,lU (dJ s foot).1.1 (dJ s foot).1.2⟩∧fJ (iL s).1=true∧(dJ s foot).1.1.length≤6∧(dJ s foot).1.2.length=(dJ s foot).1.1.length∧(∀x∈(dJ s foot).1.1,1≤x∧x≤20)∧∀l∈(dJ s foot).1.2,l.length=(iL s).1.length∧∀x∈l,x.sum.length=4):=by
 have hbad:∀b:Bool,(dJ s foot).2.2=true→zl s foot=false:=fun _ h=>by unfold zl;rw[h];rfl
 have hgb:∀n c,c.2=true→∀m,(iter (gd (fun s:(List Nat×List (List RP))×iU=>s.2.2) (lZ n foot)) m (([],[]),c)).2.2=true:=fun n c h m=>by
  rw[tL (fun s:(List Nat×List (List RP))×iU=>s.2.2) (lZ n foot) 0 (([],[]),c) h m af];exact h
 have Dt:∀n m(c:dS),c.2=true→(iter (fT n foot) m ([],c)).2.2=true:=fun n m c h=>kV (fT n foot) (fun a=>a.2.2=true) (AA n foot) m _ h
 have hno:∀f:List (List UInt8)×dS,qZ s=f→(f.2.2=true∨¬f.1.Nodup)→gU s foot=none:=fun f hf h=>by
  unfold gU;rw[if_neg];rintro⟨h1,h2⟩;rcases h with h|h
  ·have:(jQ s foot).2.2=true:=by
    unfold jQ;rw[hf];exact Dt _ _ _ (je _ _ h)
   rw[vD this]at h1;cases h1
  ·rw[hf,fD]at h2;have:=h2.2.2.2;rw[aX]at this;exact h this
 rcases v_ 1 4 af s with⟨a,b,c⟩|⟨n,t,a,b,hn1,hn4⟩
 ·left;have hrn:(iL s).2.2=true:=by
   unfold iL;simp only;rw[tL (fun s:List (List UInt8)×iU=>s.2.2) ow 0 ([],(dB 1 4 (s,false)).2) a _ af];exact a
  refine⟨hbad true ?_,hno _ rfl (.inl ?_)⟩
  ·unfold dJ;simp only;refine hgb _ _ ?_ _;rw[EA 0 6 hrn]
  ·exact kV iK (fun a=>a.2.2=true) Dr _ _ b
 ·have e1:iL s=iter (gd (fun s=>s.2.2) ow) n ([],(t,false)):=by unfold iL;rw[a]
  have e2:qZ s=iter iK n ([],(t,false)):=by unfold qZ;rw[b]
  rcases FC t n with⟨x,y⟩|⟨L,u,x,y,hl,hnd,hok⟩
  ·left;rw[←e1]at x;refine⟨hbad true ?_,hno _ e2 y⟩;unfold dJ;simp only;refine hgb _ _ ?_ _;rw[EA 0 6 x]
  ·rw[x]at e1;rw[y]at e2;have hoN:fJ L=true:=by
    rw[fD];refine⟨af,af,?_⟩;unfold qN;rw[aX];exact⟨List.all_eq_true.2 hok,hnd⟩
   have eg:dJ s foot=(let g:=dB 0 6 (u,false);iter (gd (fun s=>s.2.2) (lZ n foot)) g.1 (([],[]),g.2)):=by unfold dJ;rw[e1,a]
   have ef:jQ s foot=(let g:=di 0 6 (u,false);iter (fT L.length foot) g.1 ([],g.2)):=by unfold jQ;rw[e2]
   rcases v_ 0 6 af u with⟨p,q,r⟩|⟨k,v,p,q,-,hk6⟩
   ·left;refine⟨hbad true ?_,?_⟩
    ·rw[eg];exact hgb _ _ p _
    ·unfold gU;have:(jQ s foot).2.2=true:=by rw[ef];exact Dt _ _ _ q
     rw[vD this,if_neg aj]
   ·rw[p]at eg;rw[q,hl]at ef;simp only at eg ef;rcases Dq n foot h4 hf v k with⟨g1,g2⟩|⟨R,G,z,g1,g2,g3,g4,g5,g6⟩
    ·left;refine⟨hbad true (by rw[eg];exact g1),?_⟩;unfold gU;have:(jQ s foot).2.2=true:=by rw[ef];exact g2
     rw[vD this,if_neg aj]
    ·rw[g1]at eg;rw[g2]at ef;have er:iN (jQ s foot).2=decide (z.length=0):=by rw[ef];rfl
     have eo:zl s foot=decide (z.length=0):=by unfold zl;rw[eg];rfl
     by_cases hz:z.length=0
     ·right;refine⟨by rw[eo,aH hz],?_,by rw[e1];exact hoN,by rw[eg];simp only;omega,by rw[eg];simp only;omega,by rw[eg];exact g5,by rw[eg,e1];simp only;rw[hl];exact g6⟩;unfold gU;rw[er,aH hz,e2,if_pos ⟨rfl,hoN⟩,ef,eg,e1]
     ·left;refine⟨by rw[eo,aG hz],?_⟩;unfold gU;rw[er,aG hz,if_neg aj]
end Pl
namespace Pl
def qP (names:List (List UInt8))(x:List UInt8):Nat→Option Nat
 |0=>none
 |k+1=>if names.getD k []=x then some k else qP names x k
def rW (names want:List (List UInt8))(i:Nat):Option Nat:=if want.getD i []∈want.take i then none else qP names (want.getD i []) names.length
def oU (names want:List (List UInt8)):Nat→Nat→List Nat→Option (List Nat)
 |0,_,out=>if 0<out.length then some out else none
 |f+1,i,out=>match rW names want i with
  |none=>none
  |some k=>oU names want f (i+1) (out++[k])
def kJ (want names:List (List UInt8)):Option (List Nat):=oU names want want.length 0 []
theorem uM {names:List (List UInt8)}{x:List UInt8}:∀{k j:Nat},qP names x k=some j→j<k∧names.getD j []=x
 |0,_,h=>by cases h
 |k+1,j,h=>by
  unfold qP at h;by_cases e:names.getD k []=x
  ·rw[if_pos e]at h;cases h;exact⟨Nat.lt_succ_self _,e⟩
  ·rw[if_neg e]at h;have:=uM h;exact⟨af,this.2⟩
theorem I8 {names:List (List UInt8)}{x:List UInt8}:∀{k:Nat},qP names x k=none→∀j,j<k→names.getD j []≠x
 |0,_,j,h=>af
 |k+1,h,j,hj=>by
  unfold qP at h;by_cases e:names.getD k []=x
  ·rw[if_pos e]at h;cases h
  ·rw[if_neg e]at h;by_cases ej:j=k
   ·subst ej;exact e
   ·exact I8 h j af
theorem getD_inj {l:List (List UInt8)}(h:l.Nodup){i j:Nat}(hi:i<l.length)(hj:j<l.length)(e:l.getD i []=l.getD j []):i=j:=by
 rw[aC,aC,ay hi,ay hj]at e;exact(List.getElem_inj h).1 e
theorem wm {names:List (List UInt8)}{x:List UInt8}{j:Nat}(h:indexOf names x=some j):j<names.length∧names.getD j []=x:=by
 unfold indexOf at h;rw[List.findIdx?_eq_some_iff_getElem]at h;obtain⟨hj,h1,-⟩:=h;refine⟨hj,?_⟩;rw[aC,ay hj];simpa using h1
theorem QF {names:List (List UInt8)}(h:names.Nodup)(x:List UInt8):qP names x names.length=indexOf names x:=by
 cases e:indexOf names x with
 |none=>
  cases e2:qP names x names.length with
  |none=>rfl
  |some j=>
   obtain⟨h1,h2⟩:=uM e2;unfold indexOf at e;rw[List.findIdx?_eq_none_iff]at e;have:=e (names.getD j []) (by rw[aC,ay h1];exact aJ h1);rw[h2]at this;simp at this
 |some j=>
  obtain⟨h1,h2⟩:=wm e;cases e2:qP names x names.length with
  |none=>exact absurd h2 (I8 e2 j h1)
  |some k=>
   obtain⟨h3,h4⟩:=uM e2;rw[getD_inj h h3 h1 (h4.trans h2.symm)]
theorem Tq :∀(l m:List (List UInt8)),l.Nodup→(∀x∈l,x∈m)→l.length≤m.length
 |[],_,_,_=>aM _
 |a::l,m,h,hm=>by
  have h1:=hm a aj;rw[List.nodup_cons]at h;have:=Tq l (m.erase a) h.2 (fun x hx=>(List.mem_erase_of_ne (fun e:x=a=>h.1 (by rw[←e];exact hx))).2 (hm x (by simp[hx])));rw[List.length_erase_of_mem h1]at this;have:=List.length_pos_of_mem h1;simp only[aR];omega
theorem FE {names want:List (List UInt8)}:∀{f i:Nat}{acc out:List Nat},oU names want f i acc=some out→(∀j,i≤j→j<i+f→want.getD j []∉want.take j∧want.getD j []∈names)∧0<acc.length+f
 |0,i,acc,out,h=>by
  unfold oU at h;split at h
  ·exact⟨fun j h1 h2=>af,af⟩
  ·cases h
 |f+1,i,acc,out,h=>by
  unfold oU at h;cases e:rW names want i with
  |none=>rw[e]at h;cases h
  |some k=>
   rw[e]at h;obtain⟨h1,h2⟩:=FE h;refine⟨fun j hj1 hj2=>?_,af⟩;by_cases ej:j=i
   ·subst ej;unfold rW at e;split at e
    ·cases e
    ·rename_i hn;obtain⟨a,b⟩:=uM e;refine⟨hn,?_⟩;rw[←b,aC,ay a];exact aJ a
   ·exact h1 j af af
theorem WV {want:List (List UInt8)}(h:∀j,j<want.length→want.getD j []∉want.take j):want.Nodup:=by
 have key:∀k,k≤want.length→(want.take k).Nodup:=by
  intro k;induction k with
  |zero=>intro _;simp
  |succ k ih=>
   intro hk;have hkl:k<want.length:=af;rw[aF hkl,List.nodup_append];refine⟨ih af,aj,fun x hx y hy e=>?_⟩;simp at hy;subst hy;have:=h k hkl;rw[aC,ay hkl]at this;exact this (e▸hx)
 have:=key want.length (aK _);rwa[aX]at this
theorem AB {names want:List (List UInt8)}(hn:names.Nodup)(hw:want.Nodup):∀(f i:Nat)(acc:List Nat),i+f=want.length→acc.length=i→(∀j,j<i→indexOf names (want.getD j [])=acc[j]?)→oU names want f i acc=jR names (want.drop i) acc
 |0,i,acc,hi,ha,hj=>by
  rw[List.drop_of_length_le af];rfl
 |f+1,i,acc,hi,ha,hj=>by
  have hil:i<want.length:=af;have hg:want.getD i []=want[i]:=by rw[aC,ay hil];rfl
  rw[aV hil];unfold oU jR;have h1:rW names want i=indexOf names want[i]:=by
   unfold rW;rw[if_neg,QF hn,hg];rw[hg];intro hm;have:=(List.nodup_append.1 (by have:=hw;rw[←List.take_append_drop i want]at this;exact this)).2.2 _ hm want[i] (List.mem_iff_getElem.2 ⟨0,by simp;omega,aj⟩);exact this rfl
  rw[h1];cases e:indexOf names want[i]with
  |none=>rfl
  |some k=>
   simp only;have hk:k∉acc:=fun hm=>by
    obtain⟨j,hjl,rfl⟩:=List.mem_iff_getElem.1 hm;have hji:j<i:=af;have:=hj j hji;rw[ay hjl]at this;have e1:=(wm this).2;have e2:=(wm e).2;have e3:=getD_inj hw (show j<want.length from af) hil (by rw[←e1,e2,hg]);omega
   rw[if_neg hk];refine AB hn hw f (i+1) _ af (by simp[ha]) (fun j hj'=>?_);by_cases ej:j=i
   ·subst ej;rw[hg,e,aP af,ha];simp
   ·rw[aS af];exact hj j af
theorem yQ (names want:List (List UInt8))(hn:fJ names=true):kJ want names=columns names (dU want):=by
 have hnn:=(fD names).1 hn;have hnd:names.Nodup:=by have:=hnn.2.2.2;rwa[aX]at this
 unfold dU;by_cases h:fJ want=true
 ·rw[if_pos h];have hww:want.Nodup:=by have:=((fD want).1 h).2.2.2;rwa[aX]at this
  exact AB hnd hww want.length 0 [] af rfl (fun j hj=>af)
 ·rw[if_neg h];show kJ want names=none;cases e:kJ want names with
  |none=>rfl
  |some out=>
   obtain⟨h1,h2⟩:=FE e;have hnd':want.Nodup:=WV (fun j hj=>(h1 j af af).1);have hmem:∀x∈want,x∈names:=fun x hx=>by
    obtain⟨j,hj,rfl⟩:=List.mem_iff_getElem.1 hx;have:=(h1 j af af).2;rwa[aC,ay hj]at this
   have hle:=Tq want names hnd' hmem;refine absurd ((fD want).2 ⟨by simp at h2;omega,af,?_,by rw[aX];exact hnd'⟩) h;rw[aX,List.all_eq_true];intro x hx;have:=hnn.2.2.1;rw[aX,List.all_eq_true]at this;exact this x (hmem x hx)
def uD {α:Type}(f:α→Nat)(l:List α)(x:α):List α:=(l.reverse.dropWhile (fun y=>decide (f x<f y))).reverse++[x]++(l.reverse.takeWhile (fun y=>decide (f x<f y))).reverse
theorem Tt {α β:Type}(f:α→Nat)(f':β→Nat)(g:α→β)(h:∀a,f' (g a)=f a)(l:List α)(x:α):(uD f l x).map g=uD f' (l.map g) (g x):=by
 unfold uD;simp only[a_,List.map_cons,List.map_nil,←List.map_reverse,List.dropWhile_map,List.takeWhile_map,Function.comp_def,h]
def Bw (l:List eU)(x:eU):List eU:=uD (fun x=>x.page.place) l x
def CX (l:List eU):List eU:=l.foldl Bw []
def lq (rows:List Nat)(x:eU):cK:=⟨x.page,x.group,x.want,rows.getD x.group 0⟩
theorem Tv (rows:List Nat)(l:List eU):(CX l).map (lq rows)=iD (l.map (lq rows)):=by
 unfold CX iD;have key:∀(l a:List eU),(l.foldl Bw a).map (lq rows)=(l.map (lq rows)).foldl nA (a.map (lq rows)):=by
  intro l;induction l with
  |nil=>intro a;rfl
  |cons x l ih=>
   intro a;rw[List.foldl_cons,List.map_cons,List.foldl_cons,ih]
   congr 1
   exact Tt _ (fun x:cK=>x.page.place) (lq rows) (fun _=>rfl) a x
 exact key l []
def p_ (g:Nat)(pages:List ku)(bD:List Nat):List eU:=(List.range bD.length).map fun i=>⟨g,i,pages.getD (bD.getD i 0) default⟩
def jC (p:bQ)(x:eU):Nat:=max p.length (x.page.place+x.page.length-p.place)
def zW (x:eU):bQ:={kind:=2,place:=x.page.place,length:=x.page.length,parts:=[x]}
def iX (gap:Nat)(l:List bQ)(x:eU):List bQ:=
 match l.getLast? with
 |none=>[zW x]
 |some p=>if x.page.place≤p.place+p.length+gap∧jC p x≤64 then l.dropLast++[{p with length:=jC p x,parts:=p.parts++[x]}]else l++[zW x]
def wu (gap:Nat)(l:List eU):List bQ:=l.foldl (iX gap) []
def gL (gap:Nat)(bD:List Nat)(pages:List (List ku)):Nat→List bQ
 |0=>[]
 |k+1=>gL gap bD pages k++wu gap (CX (p_ k (pages.getD k []) bD))
def iY (rows:List Nat)(p:bQ):Piece:=⟨p.place,p.length,p.parts.map (lq rows)⟩
theorem QG (gap:Nat)(rows:List Nat)(l:List bQ)(x:eU):(iX gap l x).map (iY rows)=jS gap (l.map (iY rows)) (lq rows x):=by
 unfold iX jS;rw[List.getLast?_map];cases l.getLast? with
 |none=>rfl
 |some p=>
  simp only[Option.map_some];by_cases h:x.page.place≤p.place+p.length+gap∧jC p x≤64
  ·rw[if_pos h,if_pos (show joins gap (iY rows p) (lq rows x)=true by
    unfold joins;rw[Bool.and_eq_true,decide_eq_true_eq,decide_eq_true_eq];exact h)]
   rw[a_,List.map_dropLast];simp[iY,rU,jC,lq]
  ·rw[if_neg h,if_neg (show¬joins gap (iY rows p) (lq rows x)=true by
    unfold joins;rw[Bool.and_eq_true,decide_eq_true_eq,decide_eq_true_eq];exact h)]
   rw[a_];rfl
theorem QH (gap:Nat)(rows:List Nat)(l:List eU):(wu gap l).map (iY rows)=jc gap (l.map (lq rows)):=by
 unfold wu jc;have key:∀(l:List eU)(a:List bQ),(l.foldl (iX gap) a).map (iY rows)=(l.map (lq rows)).foldl (jS gap) (a.map (iY rows)):=by
  intro l;induction l with
  |nil=>intro a;rfl
  |cons x l ih=>
   intro a;rw[List.foldl_cons,List.map_cons,List.foldl_cons,ih,QG]
 exact key l []
def vF (p:bQ):Prop:=p.kind=2∧p.got=[]∧p.failed=0∧p.id=0∧p.due=0∧p.turn=0
theorem Lh (gap:Nat)(l:List bQ)(x:eU)(h:∀p∈l,vF p):∀p∈iX gap l x,vF p:=by
 have hn:vF (zW x):=⟨rfl,rfl,rfl,rfl,rfl,rfl⟩
 unfold iX;cases hl:l.getLast? with
 |none=>intro p hp;obtain rfl:=aZ.1 hp;exact hn
 |some q=>
  simp only;split
  ·intro p hp;rcases aI.1 hp with hp|hp
   ·exact h p (List.dropLast_subset _ hp)
   ·obtain rfl:=aZ.1 hp;exact h q (List.mem_of_getLast? hl)
  ·intro p hp;rcases aI.1 hp with hp|hp
   ·exact h p hp
   ·obtain rfl:=aZ.1 hp;exact hn
theorem yj (gap:Nat)(bD:List Nat)(pages:List (List ku)):∀k,∀p∈gL gap bD pages k,vF p
 |0,_,h=>by cases h
 |k+1,p,h=>by
  rcases aI.1 h with h|h
  ·exact yj gap bD pages k p h
  ·have key:∀(l:List eU)(a:List bQ),(∀p∈a,vF p)→∀p∈l.foldl (iX gap) a,vF p:=by
    intro l;induction l with
    |nil=>intro a ha;exact ha
    |cons x l ih=>intro a ha;rw[List.foldl_cons];exact ih _ (Lh gap a x ha)
   exact key _ [] (fun _ h=>by cases h) p h
theorem Du (gap:Nat)(bD rows:List Nat)(pages:List (List RP))(hl:pages.length=rows.length):∀k,k≤rows.length→(gL gap bD (pages.map (·.map kI)) k).map (iY rows)=fU gap bD (lU rows pages) k
 |0,_=>rfl
 |k+1,hk=>by
  unfold gL fU;rw[a_,Du gap bD rows pages hl k af]
  congr 1
  rw[QH,Tv];unfold tu
  congr 2
  unfold p_ dP;rw[List.map_map];have hg:(lU rows pages).getD k default=⟨rows.getD k 0,(pages.getD k []).map kI⟩:=by
   unfold lU;have h1:k<rows.length:=af;have h2:k<pages.length:=af;rw[aC,ay (by simp;omega),List.getElem_zipWith,aC,ay h1,aC,ay h2];rfl
  have hp:(pages.map (·.map kI)).getD k []=(pages.getD k []).map kI:=by
   have h2:k<pages.length:=af;rw[aC,aC,aN,ay h2];rfl
  rw[hg,hp];apply List.map_congr_left;intro i _;rfl
end Pl
namespace Pl
def jE (r:cO)(i:Nat):bQ:=r.pieces.getD i default
def iO (r:cO)(id:Int):Option Nat:=if r.state=0∧0<id then r.pieces.findIdx? (fun p=>decide ((p.id:Int)=id))else none
def rA (r:cO)(i:Nat):cO:=
 if(jE r i).failed+1=r.tries then{r with pieces:=r.pieces.modify i fun p=>{p with id:=0,failed:=p.failed+1},state:=4}
 else{r with fails:=r.fails+1,pieces:=r.pieces.modify i fun p=>{p with id:=0,failed:=p.failed+1,turn:=r.fails+1,due:=r.now+2^p.failed} }
def iV (r:cO)(id:Int):cO×Int:=match iO r id with
 |none=>(r,3)
 |some i=>(rA r i,0)
def nu (now:Nat)(p:bQ):Bool:=decide (0<p.due)&&decide (p.due≤now)
def iP (now:Nat)(l:List bQ):Nat→Option Nat
 |0=>none
 |k+1=>match iP now l k with
  |none=>if nu now (l.getD k default)=true then some k else none
  |some a=>if nu now (l.getD k default)=true∧(l.getD k default).turn<(l.getD a default).turn then some k else some a
def Hw (r:cO):Option Nat:=iP r.now r.pieces r.pieces.length
def jh :Nat→cO→cO
 |0,r=>r
 |f+1,r=>match Hw r with
  |none=>r
  |some i=>jh f (fB r i)
def lG (r:cO):cO:=if r.state=0 then jh r.pieces.length {r with now:=r.now+1}else r
def gZ (p:bQ)(x:eU):List UInt8:=(p.got.drop (x.page.place-p.place)).take x.page.length
def iB (p:bQ):List eU→cO→cO
 |[],r=>r
 |x::t,r=>match decode (gZ p x) (r.rows.getD x.group 0)with
  |none=>{r with state:=2}
  |some l=>if sumOf (gZ p x)=x.page.sum then iB p t {r with there:=r.there.modify x.group fun ls=>ls.set x.want l}else{r with state:=2}
def nU (r:cO)(names:List (List UInt8))(rows:List Nat)(pages:List (List ku)):cO:=match kJ r.want names with
 |none=>{r with state:=3}
 |some bD=>{r with pieces:=gL r.gap bD pages pages.length,rows:=rows,there:=List.replicate pages.length (List.replicate bD.length []),state:=if pages.length=0 then 1 else r.state}
def qD (l:List UInt8):Nat:=256*(l.getD 0 0).toNat+(l.getD 1 0).toNat
def dN (r:cO)(p:bQ):cO:=
 if p.kind=0 then
  if qD p.got<1∨r.size-10<qD p.got∨p.got.drop 2≠mark then{r with state:=2}
  else{r with pieces:=[{kind:=1,place:=r.size-6-qD p.got,length:=qD p.got}]}
 else if p.kind=1 then
  if zl p.got p.place=true then nU r (iL p.got).1 (dJ p.got p.place).1.1 ((dJ p.got p.place).1.2.map (·.map kI))else{r with state:=2}
 else iB p p.parts r
def uN (r:cO)(i:Nat)(data:List UInt8):cO:=
 let r1:cO:={r with pieces:=r.pieces.modify i fun p=>{p with got:=p.got++data,id:=0} }
 if((jE r i).got++data).length<(jE r i).length then fB r1 i else iQ (dN r1 (jE r1 i))
def fF (r:cO)(id:Int)(data:List UInt8):cO×Int:=match iO r id with
 |none=>(r,3)
 |some i=>
  if(jE r i).length-(jE r i).got.length<data.length then(r,4)
  else if data.length=0 then iV r id
  else(uN r i data,0)
def gQ :List Nat→List (List (List Int))→Nat
 |n::rs,t::ts=>if t.all (fun l=>decide (0<l.length))=true then n+gQ rs ts else 0
 |_,_=>0
def yR (rows:List Nat)(there:List (List (List Int)))(i:Nat):List Int:=(List.range rows.length).flatMap fun g=>(List.range (rows.getD g 0)).map fun k=>((there.getD g []).getD i []).getD k 0
def nD (r:cO):Nat:=min r.dh (r.rows.sum-r.next)
def iE (r:cO):cO×Option (List (List Int)):=
 if r.state=0 then
  if nD r<1∨gQ r.rows r.there<r.next+nD r then(r,none)
  else({r with next:=r.next+nD r,state:=if r.next+nD r=r.rows.sum then 1 else 0},some ((List.range r.want.length).map fun i=>((yR r.rows r.there i).drop r.next).take (nD r)))
 else(r,none)
def mG (r:cO):cO:=if r.state=0 then{r with state:=5}else r
end Pl
theorem Ib (l:List UInt8)(size n:Nat)(h:Pl.jk l size=some n):1≤n∧n+10≤size:=by
 unfold Pl.jk at h;split at h
 ·rename_i hc;simp only[Option.some.injEq]at h;omega
 ·cases h
theorem L8 (C:Nat→Prop)(col:bU)(w:World)(P:Nat)(m:Pl.Sc)(ps qs:List Nat)(nv av wv hv gv:Value)(h:fA col w P m ps qs nv av wv hv gv)(v:Value)(l:List UInt8)(hr:bM C false w 1 v l.length (l.map B))(hl:l.length≤1000000)(hsz:m.size≤4000)(hid:m.bW≤1000000000000)(hal:m.asked.length≤1000):
 Calls Tryz.prog 84 #[PtrTo P 0,v] w fun e w'=>e=.returned (.tuple #[])∧∃bV,iW bV w' P (Pl.lI m l)∧cu col w w' bV:=by
 have s1:=h.blk.cell 1;simp only[dw,I,au]at s1;cases hrt:Pl.jk l m.size with
 |none=>
  have HP:Hid (Pl.lI m l=Pl.ended 2):=hide (by unfold Pl.lI;rw[hrt]);go_enter Tryz.func84,Tryz.ntmps84
  go_wp2_with (first|(go_at_call 103;refine(BI C _ v l m.size hr hl af).mono ?_;rw[hrt];simp only[EN];rintro e w1 ⟨rfl,x1,z1⟩))
  refine(pY col w1 P _ (lV _ _ _ _ _ _ _) 2 (by decide) (h.ext x1).blk h.inn.cB (h.ext x1).inn.top).mono ?_;rintro e w2 ⟨rfl,r2,k2⟩
  go_wp2_with fail
  try simp only[Exit.inBlock,Exit.then]
  refine bodyPost_ret (results_none rfl _ _ _) rfl ?_;rw[HP.out];obtain⟨a,b⟩:=(h.ext x1).ends r2 k2;exact⟨rfl,col,a,(cu.ext x1).trans b⟩
 |some n=>
  have hb:=Ib l m.size n hrt;have HP:Hid (Pl.lI m l=Pl.oQ m (m.size-6-n) n .footer):=hide (by unfold Pl.lI;rw[hrt]);go_enter Tryz.func84,Tryz.ntmps84
  go_wp2_with (go_at_call 103;refine(BI C _ v l m.size hr hl af).mono ?_;rw[hrt];simp only[EN];rintro e w1 ⟨rfl,x1,z1⟩)
  have h1:=h.ext x1;have t1:∀u,Ext w1 u→u.cell? ⟨P,1,none⟩=some (.int .i64 (m.size:Int)):=fun u hu=>hu.cell (x1.cell s1 id) id
  clear s1;have HS:=hide t1;clear t1;have hx1:Ext w1 w1.drew:=ax.drew;have h2:=h1.ext hx1;have e1:IntKind.i64.wrap ((m.size:Int)-6)=(m.size:Int)-6:=by simp[IntKind.wrap,IntKind.bits,IntKind.signed];omega
  have e2:IntKind.i64.wrap ((m.size:Int)-6-(n:Int))=(m.size:Int)-6-(n:Int):=by simp[IntKind.wrap,IntKind.bits,IntKind.signed];omega
  refine bZ (n:=13) (Ext w1) (by kernel_rfl) ?_;refine Late.h HS 0 [1,2,13] rfl hx1 ?_;refine Late.h HS 1 [2,13] rfl hx1 ?_;refine Late.h HS 2 [13] rfl hx1 ?_;refine Late.h HS 3 [4,5,6,7,9,13] rfl hx1 ?_;refine Late.h HS 4 [5,6,7,9,13] rfl hx1 ?_;refine Late.h HS 5 [6,7,9,13] rfl hx1 ?_;refine Late.h HS 6 [7,9,13] rfl hx1 ?_;refine Late.h HS 7 [9,13] rfl hx1 ?_;refine Late.h HS 8 [9,13] rfl hx1 ?_;refine Late.h HS 9 [13] rfl hx1 ?_;refine Late.h HS 10 [13] rfl hx1 ?_;refine Late.h HS 11 [12,13] rfl hx1 ?_;refine Late.h HS 12 [13] rfl hx1 ?_;refine Late.o 13 rfl (fun K hK=>?_);refine fe rfl 83 #[PtrTo P 7,.int .i64 ((m.size:Int)-6-(n:Int)),.int .i64 (n:Int),fq 104 (PtrTo P 0)] (by go_simp) ?_;refine(x_ col w1.drew P m _ _ .footer ps qs nv av wv hv gv _ h2 rfl ⟨_,_,rfl⟩ hid hal af af af).mono ?_;rintro e w3 ⟨rfl,c3,p3,YV,r3,g3⟩;refine⟨_,rfl,hK _ _ (fun h=>absurd rfl h) ?_⟩;clear hK K;try simp only[lX]
  refine Late.done (by kernel_rfl) ?_ _
  go_end0
  rw[HP.out];have e3:((m.size:Int)-6-(n:Int)).toNat=m.size-6-n:=af;rw[e3,Int.toNat_natCast]at r3;exact⟨rfl,c3,r3.is,(cu.ext (x1.trans hx1)).trans g3⟩
namespace Pl
theorem Jm {gap:Nat}{l:List Piece}{x:cK}{q:Piece}(h:q∈jS gap l x):q∈l∨q=⟨x.page.place,x.page.length,[x]⟩∨∃p∈l,q=⟨p.place,rU p x,p.pages++[x]⟩:=by
 unfold jS at h;split at h
 ·rename_i he;simp at h;exact .inr (.inl h)
 ·rename_i p he;have hp:p∈l:=List.mem_of_getLast? he;split at h
  ·rw[aI]at h;rcases h with h|h
   ·exact .inl ((List.dropLast_sublist l).subset h)
   ·simp at h;exact .inr (.inr ⟨p,hp,h⟩)
  ·rw[aI]at h;rcases h with h|h
   ·exact .inl h
   ·simp at h;exact .inr (.inl h)
def Sorted (M:Nat)(l:List cK):Prop:=(∀x∈l,x.page.place+x.page.length≤M)∧l.Pairwise (fun x y=>x.page.place≤y.page.place)
theorem Xq {gap M:Nat}{l:List cK}(h:Sorted M l):∀k,k≤l.length→(jc gap (l.take k)).length≤k∧∀p∈jc gap (l.take k),p.place+p.length≤M∧p.pages.length≤k∧∀y∈l.drop k,p.place≤y.page.place:=by
 intro k;induction k with
 |zero=>intro _;exact⟨by simp[jc],fun p hp=>by simp[jc]at hp⟩
 |succ k ih=>
  intro hk;have hkl:k<l.length:=hk;obtain⟨i1,i2⟩:=ih (Nat.le_of_lt hkl);have e:jc gap (l.take (k+1))=jS gap (jc gap (l.take k)) l[k]:=by
   unfold jc;rw[aF hkl,List.foldl_append];rfl
  have hx:=h.1 l[k] (aJ hkl);have hin:l[k]∈l.drop k:=by rw[aV hkl];exact List.mem_cons_self
  have hsub:∀y∈l.drop (k+1),y∈l.drop k:=fun y hy=>by rw[aV hkl];exact List.mem_cons_of_mem _ hy
  have Xr:∀y∈l.drop (k+1),l[k].page.place≤y.page.place:=fun y hy=>by
   have hp:=h.2.sublist (List.drop_sublist k l);rw[aV hkl,List.pairwise_cons]at hp;exact hp.1 y hy
  rw[e];refine⟨?_,fun q hq=>?_⟩
  ·unfold jS;split
   ·simp
   ·split
    ·rw[aD,List.length_dropLast];simp;omega
    ·simp;omega
  ·rcases Jm hq with hq|rfl|⟨p,hp,rfl⟩
   ·obtain⟨a,b,c⟩:=i2 q hq;exact⟨a,af,fun y hy=>c y (hsub y hy)⟩
   ·exact⟨hx,aj,Xr⟩
   ·obtain⟨a,b,c⟩:=i2 p hp;have:=c _ hin;refine⟨?_,by simp;omega,fun y hy=>c y (hsub y hy)⟩;show p.place+max p.length (l[k].page.place+l[k].page.length-p.place)≤M;omega
end Pl
def oN (C:Nat→Prop)(w:World)(bJ:List Value)(l:List Pl.Piece):Prop:=
 bJ.length=l.length∧∀(i:Nat)(pv:Value)(p:Pl.Piece),bJ[i]?=some pv→l[i]?=some p→bM C false w 6 pv p.pages.length (p.pages.flatMap b_)
theorem oN.go {C C':Nat→Prop}{S:Nat→Prop}{w w':World}{bJ:List Value}{l:List Pl.Piece}(h:oN C w bJ l)(k:Kp S w w')(hS:∀i,C i→¬S i)(hC:∀i,i<w.heap.size→C i→C' i):oN C' w' bJ l:=
 ⟨h.1,fun i pv p a b=>(h.2 i pv p a b).go k hS hC⟩
theorem oN.snoc {C:Nat→Prop}{w:World}{bJ:List Value}{l:List Pl.Piece}(h:oN C w bJ l){pv:Value}{p:Pl.Piece}(hp:bM C false w 6 pv p.pages.length (p.pages.flatMap b_)):oN C w (bJ++[pv]) (l++[p]):=by
 refine⟨by simp[h.1],fun i pv' g' a b=>?_⟩;by_cases hi:i<bJ.length
 ·rw[aS hi]at a;rw[aS (by rw[←h.1];exact hi)]at b;exact h.2 i pv' g' a b
 ·rw[aP af]at a;rw[aP (by rw[←h.1];omega)]at b;rw[List.getElem?_singleton]at a b;split at a
  ·rw[if_pos (by rw[←h.1];assumption)]at b;cases a;cases b;exact hp
  ·cases a
theorem Ky (bJ:List Value)(l:List Pl.Piece)(pv:Value)(p:Pl.Piece)(h:bJ.length=l.length):gH (bJ++[pv]) (l++[p])=gH bJ l++[I p.place,I p.length,pv]:=by
 unfold gH;rw[List.zipWith_append h];simp
theorem L9 (bJ:List Value):∀(l:List Pl.Piece),bJ.length=l.length→(gH bJ l).length=l.length*3:=by
 induction bJ with
 |nil=>intro l h;simp at h;rw[aT h.symm];rfl
 |cons a r ih=>
  intro l h;cases l with
  |nil=>simp at h
  |cons p l=>
   simp at h;have:=ih l h;unfold gH at*;simp only[List.zipWith_cons_cons,List.flatten_cons,aD,aR,List.length_nil,this];omega
inductive JS (n0:Nat)(w:World):Value→List Pl.Piece→Prop
 |nil:JS n0 w (.slice none 0 0) []
 |snoc (b cap:Nat) (bJ:List Value) (l:List Pl.Piece) (pv:Value) (p:Pl.Piece) (hO:Own w 3 (.slice (some ⟨b,0,none⟩) (l.length+1) cap) (l.length+1) (gH bJ l++[I p.place,I p.length,pv])) (hb:n0≤b)
  (hP:Own w 6 pv p.pages.length (p.pages.flatMap b_)) (hpb:∀g,pv.ownBlock=some g→n0≤g∧g≠b) (hR:oN (fun k=>n0≤k∧k≠b∧pv.ownBlock≠some k) w bJ l):
  JS n0 w (.slice (some ⟨b,0,none⟩) (l.length+1) cap) (l++[p])
def Uf :Value:=.agg #[.int .i64 0,.int .i64 0,.slice none 0 0]
theorem F3 :(Tryz.prog.info? 235).map (fun i=>(i.zero,i.size,i.bytes))=some (some Uf,3,40):=by kernel_rfl
theorem JS.own {n0:Nat}{w:World}{v:Value}{l:List Pl.Piece}(h:JS n0 w v l):∃bJ,bJ.length=l.length∧Own w 3 v l.length (gH bJ l)∧(∀g,v.ownBlock=some g→n0≤g)∧oN (fun k=>n0≤k∧v.ownBlock≠some k) w bJ l:=by
 cases h with
 |nil=>exact⟨[],rfl,Own.nil _ _,fun g e=>by simp[Value.ownBlock]at e,rfl,fun i pv p a=>by simp at a⟩
 |snoc b cap bJ l pv p hO hb hP hpb hR=>
  refine⟨bJ++[pv],by simp[hR.1],?_,fun g e=>?_,(hR.go (S:=fun _=>False) ax (fun _ _ f=>f) (fun i _ h=>⟨h.1,fun e=>?_⟩)).snoc ((hP.rowAt _ (fun g e=>⟨(hpb g e).1,fun e'=>?_⟩)).weak)⟩
  ·rw[Ky _ _ _ _ hR.1,aD];exact hO
  ·simp[Value.ownBlock]at e;omega
  ·simp[Value.ownBlock]at e;exact h.2.1 e.symm
  ·simp[Value.ownBlock]at e';exact(hpb g e).2 e'.symm
theorem bK.L_ {w:World}{b:Nat}{cs:List Value}{e:TypeId}(h:bK w b cs e):Own w cs.length (.slice (some ⟨b,0,none⟩) 1 1) 1 cs:=
 ⟨aj,.inr ⟨b,1,rfl,aK _,by unfold maxLen;omega,h.lt,fun j _=>h.cell j,fun j hj=>⟨by rw[h.cell j,ay af];rfl,h.free j⟩⟩⟩
theorem JS.more {n0:Nat}{w1 w2:World}{v v':Value}{l:List Pl.Piece}{bJ:List Value}{x:Pl.cK}{gp:Nat}(hP:oN (fun k=>n0≤k∧v.ownBlock≠some k∧k<gp) w1 bJ l)(hvb:∀g,v.ownBlock=some g→n0≤g∧g<gp)(hG:Own w1 6 (.slice (some ⟨gp,0,none⟩) 1 1) 1 (b_ x))(SY:n0≤gp)
 (o2:Own w2 3 v' (l.length+1) (gH bJ l++[I x.page.place,I x.page.length,.slice (some ⟨gp,0,none⟩) 1 1]))(k2:Kp (Of v) w1 w2)(s2:Sep w1 v v'):JS n0 w2 v' (l++[⟨x.page.place,x.page.length,[x]⟩]):=by
 obtain⟨b,cap,rfl,hcap,hlt,-⟩:=o2.at af;have hgl:gp<w1.heap.size:=hG.lt rfl;have hb:b=b∧((v.ownBlock=some b)∨w1.heap.size≤b):=by
  refine⟨rfl,?_⟩;rcases s2 with e|⟨g,e1,e2⟩
  ·exact .inl (by rw[←e];rfl)
  ·simp[Value.ownBlock]at e1;subst e1;exact .inr e2
 have hbne:b≠gp:=hb.2.elim (fun e=>by have:=hvb b e;omega) (fun e=>af);refine .snoc b cap bJ l (.slice (some ⟨gp,0,none⟩) 1 1) ⟨x.page.place,x.page.length,[x]⟩ o2 ?_ ?_ ?_ ?_
 ·rcases hb.2 with e|e
  ·exact(hvb b e).1
  ·omega
 ·have:([x].flatMap b_)=b_ x:=aj;show Own w2 6 _ 1 ([x].flatMap b_);rw[this];exact hG.kept k2 (fun g e he=>by simp[Value.ownBlock]at e;have:=hvb g he;omega)
 ·intro g e;simp[Value.ownBlock]at e;subst e;exact⟨SY,fun e=>hbne e.symm⟩
 ·refine hP.go k2 (fun i hi e=>hi.2.1 e) (fun i hi h=>⟨h.1,fun e=>?_,fun e=>?_⟩)
  ·subst e;rcases hb.2 with e|e
   ·exact h.2.1 e
   ·omega
  ·simp[Value.ownBlock]at e;omega
theorem Xt (D:Nat→Prop)(w:World)(gv:Value)(pages:List Pl.cK)(gap:Nat)(hr:bM D false w 6 gv pages.length (pages.flatMap b_))(hl:pages.length≤100)(hs:Pl.Sorted 1000000 pages)(BK:gap≤1000000):
 Calls Tryz.prog 147 #[gv,.int .i64 gap] w fun e w'=>∃v,e=.returned v∧Ext w w'∧JS w.heap.size w' v (Pl.jc gap pages):=by
 obtain⟨ga,gc,rfl,hgc,h3⟩:=hr.get;clear hr;have HW:=hide (fun k hk=>Pl.Xq (gap:=gap) hs k hk);go_enter Tryz.func147,Tryz.ntmps147
 go_wp2_with fail
 go_loopw [5,11] (fun t i wr=>∃(k:Nat),i=.int .i64 k∧k≤pages.length∧JS w.heap.size wr t (Pl.jc gap (pages.take k))∧Ext w wr) (fun _ i _=>pages.length-(intOf i).toNat)
 case atStart=>exact⟨0,rfl,af,.nil,Kp.refl _ _⟩
 case round=>
  obtain⟨k,rfl,hk,hj,hx⟩:=hrel;by_cases hkl:k<pages.length
  ·obtain⟨b,off,rfl,hb,hc⟩:=h3 af;have hck:∀j,j<6→wr.cell? ⟨b,off+(k*6+j),none⟩=(b_ pages[k])[j]?:=fun j hj=>by
    have e:=jB 6 (pages.map b_) (fun e he=>by rw[List.mem_map]at he;obtain⟨q,_,rfl⟩:=he;rfl) k j hj (b_ pages[k]) (by rw[aN,ay hkl];rfl);have e2:=hc (k*6+j) af;rw[show pages.flatMap b_=(pages.map b_).flatten from rfl,e]at e2;have:j<(b_ pages[k]).length:=hj;rw[ay this]at e2⊢;exact hx.cell e2 id
   have d0:=hck 0 af;have d1:=hck 1 af;have d2:=hck 2 af;have d3:=hck 3 af;have d4:=hck 4 af;have d5:=hck 5 af;have HT:Hid (Pl.jc gap (pages.take (k+1))=Pl.jS gap (Pl.jc gap (pages.take k)) pages[k]):=by
    show _=_;unfold Pl.jc;rw[aF hkl,List.foldl_append];rfl
   have hpb:=hs.1 pages[k] (aJ hkl);obtain⟨hj1,hj2⟩:=(bH HW) k hk;have hin:pages[k]∈pages.drop k:=by rw[aV hkl];exact List.mem_cons_self
   have hj3:∀p∈Pl.jc gap (pages.take k),p.place+p.length≤1000000∧p.pages.length≤k∧p.place≤pages[k].page.place:=fun p hp=>⟨(hj2 p hp).1,(hj2 p hp).2.1,(hj2 p hp).2.2 _ hin⟩
   generalize pages[k]=x at*;simp only[b_,I,au,Nat.add_zero,←Nat.add_assoc]at d0 d1 d2 d3 d4 d5;clear hck hc h3 HW hin hj2;generalize Pl.jc gap (pages.take k)=acc at*;have hj0:=hj;cases hj with
   |nil=>
    go_wp2_with fail
    have xA:Ext wr (wr.alloc (.cells #[.int .i64 x.page.place,.int .i64 x.page.length,.int .u32 x.page.sum,.int .i64 x.group,.int .i64 x.column,.int .i64 x.rows] 253)):=ax.alloc _;have bA:bK (wr.alloc (.cells #[.int .i64 x.page.place,.int .i64 x.page.length,.int .u32 x.page.sum,.int .i64 x.group,.int .i64 x.column,.int .i64 x.rows] 253)) wr.heap.size (b_ x) 253:=bK.bO wr (b_ x) 253;generalize wr.alloc (.cells #[.int .i64 x.page.place,.int .i64 x.page.length,.int .u32 x.page.sum,.int .i64 x.group,.int .i64 x.column,.int .i64 x.rows] 253)=W at*;have hB:∀u,Ext W u→u.cell? ⟨wr.heap.size,0,none⟩=some (.int .i64 x.page.place)∧u.cell? ⟨wr.heap.size,1,none⟩=some (.int .i64 x.page.length)∧u.cell? ⟨wr.heap.size,2,none⟩=some (.int .u32 x.page.sum)∧u.cell? ⟨wr.heap.size,3,none⟩=some (.int .i64 x.group)∧u.cell? ⟨wr.heap.size,4,none⟩=some (.int .i64 x.column)∧u.cell? ⟨wr.heap.size,5,none⟩=some (.int .i64 x.rows):=
     fun u hu=>⟨hu.cell (bA.cell 0) id,hu.cell (bA.cell 1) id,hu.cell (bA.cell 2) id,hu.cell (bA.cell 3) id,hu.cell (bA.cell 4) id,hu.cell (bA.cell 5) id⟩
    have HB:=hide hB;clear hB d0 d1 d2 d3 d4 d5;have YN:wr.heap.size<W.heap.size:=bA.lt;have hx1:Ext W W.drew:=ax.drew;refine bZ (n:=17) (Ext W) (by kernel_rfl) ?_;refine Late.h HB 0 [1,2,8,10,17] rfl hx1 ?_;refine Late.h HB 1 [2,8,10,17] rfl hx1 ?_;refine Late.h HB 2 [8,10,17] rfl hx1 ?_;refine Late.s 3 [5,8,10,17] rfl hx1 ?_;refine Late.s 4 [5,8,10,17] rfl hx1 ?_;refine Late.s 5 [8,10,17] rfl hx1 ?_;refine Late.s 6 [8,10,17] rfl hx1 ?_;refine Late.s 7 [8,10,17] rfl hx1 ?_;refine Late.s 8 [10,17] rfl hx1 ?_;refine Late.t 9 [10,17] rfl hx1 ?_;refine Late.t 10 [17] rfl hx1 ?_;refine Late.s 11 [13,15,16,17] rfl hx1 ?_;refine Late.s 12 [13,15,16,17] rfl hx1 ?_;refine Late.s 13 [15,16,17] rfl hx1 ?_;refine Late.s 14 [15,16,17] rfl hx1 ?_;refine Late.s 15 [16,17] rfl hx1 ?_;refine Late.s 16 [17] rfl hx1 ?_;refine Late.o 17 rfl (fun K hK=>?_);go_simp;refine hK _ _ (fun h=>absurd rfl h) ?_;clear hK K;try simp only[lX]
    refine Late.done (by kernel_rfl) ?_ _;have hx2:=hx1;obtain⟨e0,e1,e2,e3,e4,e5⟩:=(bH HB) _ hx2;generalize W.drew=W2 at*;have x2:Ext wr W2:=xA.trans hx2;have abZ:=hx2.size;obtain⟨ab0,Rj,DJ,BL,Ma⟩:=hj0.own
    go_wp2_with (at_builtin;go_must (refine dI _ rfl _ _ 137 137 rfl 235 Uf 3 40 Tryz.underlying137 F3 rfl _ _ _ rfl (((DJ.ext x2).dV _).dV _) _ rfl 1 _ (dO _ _ aj _ _ Tryz.underlying137 _ [I x.page.place,I x.page.length,.slice (some ⟨W2.heap.size,0,none⟩) 1 1] rfl (by intro u hu;simp at hu;rcases hu with rfl|rfl|rfl<;>rfl)) af af ?_);intro v3 w3 o3 k3 s3)
    have hG:=((bK.bO W2 (b_ x) 253).kept (S:=fun _=>False) (ax.alloc (.cells #[I x.page.place,I x.page.length,.slice (some ⟨W2.heap.size,0,none⟩) 1 1] 235)) id).L_;refine⟨⟨k+1,by go_num,af,?_,(((hx.trans x2).alloc _).alloc _).then k3 (fun i hi e=>by have:=BL i e;omega)⟩,by simp[intOf];omega⟩;rw[HT.out,show Pl.jS gap [] x=[]++[⟨x.page.place,x.page.length,[x]⟩]from rfl];exact JS.more (gp:=W2.heap.size) (Ma.go (S:=fun _=>False) ((x2.alloc _).alloc _) (fun _ _ f=>f) (fun i hi h=>⟨h.1,h.2,by have:=x2.size;omega⟩)) (fun g e=>⟨BL g e,by have:=DJ.lt e;have:=x2.size;omega⟩) hG (by have:=hx.size;have:=x2.size;omega) o3 k3 s3
   |snoc lb cap bJ l pv p hO hlb hP hpv hR=>
    have hJS:Pl.jS gap (l++[p]) x=if Pl.joins gap p x=true then l++[⟨p.place,Pl.rU p x,p.pages++[x]⟩]else(l++[p])++[⟨x.page.place,x.page.length,[x]⟩]:=by
     unfold Pl.jS;rw[List.getLast?_append,List.getLast?_singleton,Option.some_or,List.dropLast_append_of_ne_nil aj];simp
    have HJ:=hide hJS;clear hJS;have hl1:l.length+1≤k:=by simpa using hj1
    have hjo:Hid (Pl.joins gap p x=(decide (x.page.place≤p.place+p.length+gap)&&decide (max p.length (x.page.place+x.page.length-p.place)≤64))):=hide rfl
    go_wp2_with fail
    have xA:Ext wr (wr.alloc (.cells #[.int .i64 x.page.place,.int .i64 x.page.length,.int .u32 x.page.sum,.int .i64 x.group,.int .i64 x.column,.int .i64 x.rows] 253)):=ax.alloc _;have bA:bK (wr.alloc (.cells #[.int .i64 x.page.place,.int .i64 x.page.length,.int .u32 x.page.sum,.int .i64 x.group,.int .i64 x.column,.int .i64 x.rows] 253)) wr.heap.size (b_ x) 253:=bK.bO wr (b_ x) 253;generalize wr.alloc (.cells #[.int .i64 x.page.place,.int .i64 x.page.length,.int .u32 x.page.sum,.int .i64 x.group,.int .i64 x.column,.int .i64 x.rows] 253)=W at*;have hB:∀u,Ext W u→u.cell? ⟨wr.heap.size,0,none⟩=some (.int .i64 x.page.place)∧u.cell? ⟨wr.heap.size,1,none⟩=some (.int .i64 x.page.length)∧u.cell? ⟨wr.heap.size,2,none⟩=some (.int .u32 x.page.sum)∧u.cell? ⟨wr.heap.size,3,none⟩=some (.int .i64 x.group)∧u.cell? ⟨wr.heap.size,4,none⟩=some (.int .i64 x.column)∧u.cell? ⟨wr.heap.size,5,none⟩=some (.int .i64 x.rows):=
     fun u hu=>⟨hu.cell (bA.cell 0) id,hu.cell (bA.cell 1) id,hu.cell (bA.cell 2) id,hu.cell (bA.cell 3) id,hu.cell (bA.cell 4) id,hu.cell (bA.cell 5) id⟩
    have HB:=hide hB;clear hB d0 d1 d2 d3 d4 d5;have YN:wr.heap.size<W.heap.size:=bA.lt;have hx1:Ext W W.drew:=ax.drew;refine bZ (n:=17) (Ext W) (by kernel_rfl) ?_;refine Late.h HB 0 [1,2,8,10,17] rfl hx1 ?_;refine Late.h HB 1 [2,8,10,17] rfl hx1 ?_;refine Late.h HB 2 [8,10,17] rfl hx1 ?_;obtain⟨hm1,hm2,hm3⟩:=hj3 p aj;have hrl:=L9 bJ l hR.1;have hLc:∀u,Ext W u→u.cell? ⟨lb,l.length*3,none⟩=some (.int .i64 p.place)∧u.cell? ⟨lb,l.length*3+1,none⟩=some (.int .i64 p.length):=fun u hu=>by
     obtain⟨g0,g1,-⟩:=Ia (gH bJ l) (I p.place) (I p.length) pv;rw[hrl]at g0 g1;exact⟨(xA.trans hu).cell ((hO.cellAt (l.length*3) af).1.trans g0) id,(xA.trans hu).cell ((hO.cellAt (l.length*3+1) af).1.trans g1) id⟩
    have HL:=hide hLc;have hlt1:(l.length:Int)<(l.length:Int)+1:=af;have YU:=hide hrl;clear hLc hrl;refine Late.h HB 3 [5,8,10,17] rfl hx1 ?_;refine Late.h HB 4 [5,8,10,17] rfl hx1 ?_;refine Late.h HB 5 [8,10,17] rfl hx1 ?_;refine Late.h HB 6 [8,10,17] rfl hx1 ?_;refine Late.h HB 7 [8,10,17] rfl hx1 ?_;cases hd1:decide (x.page.place≤p.place+p.length+gap)with
    |false=>
     refine Late.o 8 rfl (fun K hK=>?_);refine oK (by rfl) 163 #[PtrTo lb (l.length*3),FX x.page.place x.page.length x.page.sum x.group x.column x.rows,.int .i64 gap] (by go_simp) ?_;obtain⟨q0,q1⟩:=(bH HL) _ hx1;refine(LZ W.drew lb (l.length*3) p.place p.length x.page.place x.page.length x.page.sum x.group x.column x.rows gap q0 q1 af af af af).mono ?_;rw[hd1];rintro e w3 ⟨rfl,x3⟩;have hx3:Ext W w3:=hx1.trans x3;refine⟨_,rfl,hK _ _ (fun _=>hx3) ?_⟩;clear hK K;try simp only[lX]
     refine Late.t 9 [10,17] rfl hx3 ?_;refine Late.t 10 [17] rfl hx3 ?_;refine Late.s 11 [13,15,16,17] rfl hx3 ?_;refine Late.s 12 [13,15,16,17] rfl hx3 ?_;refine Late.s 13 [15,16,17] rfl hx3 ?_;refine Late.s 14 [15,16,17] rfl hx3 ?_;refine Late.s 15 [16,17] rfl hx3 ?_;refine Late.s 16 [17] rfl hx3 ?_;refine Late.o 17 rfl (fun K hK=>?_);go_simp;refine hK _ _ (fun h=>absurd rfl h) ?_;clear hK K;try simp only[lX]
     refine Late.done (by kernel_rfl) ?_ _;have hx2:=hx3;have Mc:Hid (Pl.jS gap (l++[p]) x=(l++[p])++[⟨x.page.place,x.page.length,[x]⟩]):=hide (by rw[HJ.out,hjo.out,hd1];rfl);clear hd1;obtain⟨e0,e1,e2,e3,e4,e5⟩:=(bH HB) _ hx2;generalize w3=W2 at*;have x2:Ext wr W2:=xA.trans hx2;have abZ:=hx2.size;obtain⟨ab0,Rj,DJ,BL,Ma⟩:=hj0.own;rw[show(l++[p]).length=l.length+1 from aj]at DJ
     go_wp2_with (at_builtin;go_must (refine dI _ rfl _ _ 137 137 rfl 235 Uf 3 40 Tryz.underlying137 F3 rfl _ _ _ rfl (((DJ.ext x2).dV _).dV _) _ rfl 1 _ (dO _ _ aj _ _ Tryz.underlying137 _ [I x.page.place,I x.page.length,.slice (some ⟨W2.heap.size,0,none⟩) 1 1] rfl (by intro u hu;simp at hu;rcases hu with rfl|rfl|rfl<;>rfl)) af af ?_);intro v3 w5 o3 k3 s3)
     have hG:=((bK.bO W2 (b_ x) 253).kept (S:=fun _=>False) (ax.alloc (.cells #[I x.page.place,I x.page.length,.slice (some ⟨W2.heap.size,0,none⟩) 1 1] 235)) id).L_;refine⟨⟨k+1,by go_num,af,?_,(((hx.trans x2).alloc _).alloc _).then k3 (fun i hi e=>by have:=BL i e;omega)⟩,by simp[intOf];omega⟩;rw[HT.out,Mc.out];exact JS.more (gp:=W2.heap.size) (Ma.go (S:=fun _=>False) ((x2.alloc _).alloc _) (fun _ _ f=>f) (fun i hi h=>⟨h.1,h.2,by have:=x2.size;omega⟩)) (fun g e=>⟨BL g e,by have:=DJ.lt e;have:=x2.size;omega⟩) hG (by have:=hx.size;have:=x2.size;omega) (by simpa using o3) k3 s3
    |true=>
     refine Late.o 8 rfl (fun K hK=>?_);refine oK (by rfl) 163 #[PtrTo lb (l.length*3),FX x.page.place x.page.length x.page.sum x.group x.column x.rows,.int .i64 gap] (by go_simp) ?_;obtain⟨q0,q1⟩:=(bH HL) _ hx1;refine(LZ W.drew lb (l.length*3) p.place p.length x.page.place x.page.length x.page.sum x.group x.column x.rows gap q0 q1 af af af af).mono ?_;rw[hd1];rintro e w3 ⟨rfl,x3⟩;have hx3:Ext W w3:=hx1.trans x3;refine⟨_,rfl,hK _ _ (fun _=>hx3) ?_⟩;clear hK K;try simp only[lX]
     refine Late.t 9 [10,17] rfl hx3 ?_;refine Late.t 10 [17] rfl hx3 ?_;refine Late.h HB 11 [13,15,16,17] rfl hx3 ?_;refine Late.h HB 12 [13,15,16,17] rfl hx3 ?_;refine Late.h HB 13 [15,16,17] rfl hx3 ?_;refine Late.h HB 14 [15,16,17] rfl hx3 ?_;refine Late.o 15 rfl (fun K hK=>?_);refine oK (by rfl) 164 #[PtrTo lb (l.length*3),FX x.page.place x.page.length x.page.sum x.group x.column x.rows] (by go_simp) ?_;obtain⟨q2,q3⟩:=(bH HL) _ hx3;obtain⟨mx,hmx⟩:∃mx,mx=max p.length (x.page.place+x.page.length-p.place):=⟨_,rfl⟩
     have YZ:=zq w3 lb (l.length*3) p.place p.length x.page.place x.page.length x.page.sum x.group x.column x.rows q2 q3 af af af af af;rw[←hmx]at YZ hjo;have HM:=hide hmx;clear hmx;refine YZ.mono ?_;clear YZ;rintro e w4 ⟨rfl,x4⟩;have hx4:Ext W w4:=hx3.trans x4;refine⟨_,rfl,hK _ _ (fun _=>hx4) ?_⟩;clear hK K;try simp only[lX]
     by_cases hd2:mx≤64
     ·have hd3:((mx:Int)≤64):=af;refine Late.t 16 [17] rfl hx4 ?_;refine Late.o 17 rfl (fun K hK=>?_);go_simp;refine hK _ _ (fun h=>absurd rfl h) ?_;clear hK K;try simp only[lX]
      refine Late.done (by kernel_rfl) ?_ _;have Mc:Hid (Pl.jS gap (l++[p]) x=l++[⟨p.place,mx,p.pages++[x]⟩]):=hide (by rw[HJ.out,hjo.out,hd1,aH hd2,HM.out];rfl);clear hd1 hd2
      go_wp2_with fail
      have hy1:Ext w4 w4.drew:=ax.drew;have xd:Ext wr w4.drew:=(xA.trans hx4).trans hy1;refine bZ (n:=4) (Ext w4) (by kernel_rfl) ?_;refine Late.t 0 [2,4] rfl hy1 ?_ (hy:=fun u hu=>by obtain⟨u0,u1,u2,u3,u4,u5⟩:=(bH HB) u (hx4.trans hu);exact G);refine Late.t 1 [2,4] rfl hy1 ?_ (hy:=fun u hu=>by obtain⟨u0,u1,u2,u3,u4,u5⟩:=(bH HB) u (hx4.trans hu);exact G);refine Late.t 2 [4] rfl hy1 ?_ (hy:=fun u hu=>by obtain⟨u0,u1,u2,u3,u4,u5⟩:=(bH HB) u (hx4.trans hu);exact G);refine Late.t 3 [4] rfl hy1 ?_ (hy:=fun u hu=>by obtain⟨u0,u1,u2,u3,u4,u5⟩:=(bH HB) u (hx4.trans hu);exact G);refine Late.o 4 rfl (fun K hK=>?_);refine fe rfl 165 #[PtrTo lb (l.length*3),FX x.page.place x.page.length x.page.sum x.group x.column x.rows] (by go_simp) ?_;refine(aal w4.drew lb cap l.length p.place p.length p.pages.length (gH bJ l) pv (p.pages.flatMap b_) x YU.out (hO.ext xd) (hP.ext xd) (fun g e=>(hpv g e).2) af af af af af af).mono ?_;rw[←HM.out];rintro e w5 ⟨rfl,pv',FY,hP5,s5,k5⟩;refine⟨_,rfl,hK _ _ (fun h=>absurd rfl h) ?_⟩;clear hK K;try simp only[lX]
      refine Late.done (by kernel_rfl) ?_ _
      go_wp2_with fail
      have hxz:=xd.size;have hxw:=hx.size;have am5:∀g,pv.ownBlock=some g→g<wr.heap.size:=fun g e=>hP.lt e
      have am6:lb<wr.heap.size:=hO.lt rfl;have hnew:∀g,pv'.ownBlock=some g→pv.ownBlock=some g∨wr.heap.size≤g:=fun g e=>by
       rcases s5 with e'|⟨g',e1,e2⟩
       ·rw[e']at e;exact .inl e
       ·rw[e1]at e;simp only[Option.some.injEq]at e;subst e;exact .inr (aO hxz e2)
      refine⟨⟨k+1,by go_num,af,?_,(hx.trans xd).then k5 (fun i hi e=>e.elim (fun e=>af) (fun e=>by have:=hpv i e;omega))⟩,by simp[intOf];omega⟩;rw[HT.out,Mc.out];refine .snoc lb cap bJ l pv' ⟨p.place,mx,p.pages++[x]⟩ FY hlb (by simpa using hP5) (fun g e=>(hnew g e).elim (fun e=>hpv g e) (fun e=>af)) ?_;refine(hR.go xd (fun _ _ f=>f) (C':=fun k=>(w.heap.size≤k∧k≠lb∧pv.ownBlock≠some k)∧k<wr.heap.size) (fun i hi h=>⟨h,hi⟩)).go k5 (fun i hi e=>e.elim hi.1.2.1 hi.1.2.2) (fun i hi h=>⟨h.1.1,h.1.2.1,fun e=>(hnew i e).elim h.1.2.2 (fun e=>af)⟩)
     ·have hd3:¬((mx:Int)≤64):=af;refine Late.t 16 [17] rfl hx4 ?_;refine Late.o 17 rfl (fun K hK=>?_);go_simp;refine hK _ _ (fun h=>absurd rfl h) ?_;clear hK K;try simp only[lX]
      refine Late.done (by kernel_rfl) ?_ _;have hx2:=hx4;have Mc:Hid (Pl.jS gap (l++[p]) x=(l++[p])++[⟨x.page.place,x.page.length,[x]⟩]):=hide (by rw[HJ.out,hjo.out,hd1,aG hd2];rfl);clear hd1 hd2;obtain⟨e0,e1,e2,e3,e4,e5⟩:=(bH HB) _ hx2;generalize w4=W2 at*;have x2:Ext wr W2:=xA.trans hx2;have abZ:=hx2.size;obtain⟨ab0,Rj,DJ,BL,Ma⟩:=hj0.own;rw[show(l++[p]).length=l.length+1 from aj]at DJ
      go_wp2_with (at_builtin;go_must (refine dI _ rfl _ _ 137 137 rfl 235 Uf 3 40 Tryz.underlying137 F3 rfl _ _ _ rfl (((DJ.ext x2).dV _).dV _) _ rfl 1 _ (dO _ _ aj _ _ Tryz.underlying137 _ [I x.page.place,I x.page.length,.slice (some ⟨W2.heap.size,0,none⟩) 1 1] rfl (by intro u hu;simp at hu;rcases hu with rfl|rfl|rfl<;>rfl)) af af ?_);intro v3 w5 o3 k3 s3)
      have hG:=((bK.bO W2 (b_ x) 253).kept (S:=fun _=>False) (ax.alloc (.cells #[I x.page.place,I x.page.length,.slice (some ⟨W2.heap.size,0,none⟩) 1 1] 235)) id).L_;refine⟨⟨k+1,by go_num,af,?_,(((hx.trans x2).alloc _).alloc _).then k3 (fun i hi e=>by have:=BL i e;omega)⟩,by simp[intOf];omega⟩;rw[HT.out,Mc.out];exact JS.more (gp:=W2.heap.size) (Ma.go (S:=fun _=>False) ((x2.alloc _).alloc _) (fun _ _ f=>f) (fun i hi h=>⟨h.1,h.2,by have:=x2.size;omega⟩)) (fun g e=>⟨BL g e,by have:=DJ.lt e;have:=x2.size;omega⟩) hG (by have:=hx.size;have:=x2.size;omega) (by simpa using o3) k3 s3
  ·obtain rfl:k=pages.length:=af;rw[aX]at hj
   go_wp2_with fail
   go_ret;exact⟨_,rfl,hx,hj⟩
end Go.Proofs.YthicgffppmbamaaGreat
